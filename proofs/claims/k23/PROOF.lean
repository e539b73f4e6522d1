import PyProof.Rows.All
import Wide.All
import OpenK.AllK
import Wide.FinOn
import KE.GoesMore
import HandS.ForExc
import HandS.ForMost
import HandS.IsInst
import HandS.Walk
import HandS.TupMul
import HandS.TupAny
import HandS.Style
import HandS.ExcInit
import HandS.ExcField
import HandS.TryMany
import HandS.Wide
import HandS.WideBits
import HandS.SortKw
import KE.DataMinMax
import HandS.ExcIs
import HandS.TryOnly
import HandS.WordsExc
import HandS.ExcOwn
import HandS.Ends
import HandS.Lambda
import HandS.Deep
import HandS.SetFor
import HandS.DictComp
import HandS.Conv
import KE.DataAny
import KE.DataFind
import KE.DataEq
import KE.KTupSum
import KE.SortData
import KE.DataCmp
import HandS.Zip
import HandS.More
import HandS.Defaults
import KE.BitLaws
import KE.GoesZip
import PyProof.TupleOfSeq
import HandS.ExcValue
import PySem.Challenge.RW_wholesay_k23_whole_turns_and_bars
set_option Elab.async false
set_option linter.all false
set_option maxRecDepth 100000
set_option maxHeartbeats 2000000
/-! ## Wa -/
/-! enumerate over a tuple -/
namespace Ws
open PySem PySem.Spec PyProof.Rows L2
open AutoSeq1 (wpAny_loadPart')
theorem meets_enum_newT (l : Addr) (items : Array Value) (n : Nat) (dct : Option Addr) (sl : Array (Option Value)) :
    Meets (Builtin.«enumerate.__new__» ⟨[.type "enumerate", .ref l], []⟩) (fun _ R s => s.heap.get? l = some { cls := .type "tuple", dict := dct, data := .seq items n, slots := sl } ∧
      R (.ok (.ret (.ref (s.heap.push { cls := .type "tuple_iterator", data := .fields #[.ref l, .int 0 0] }).objs.size)))
        { s with heap := (s.heap.push { cls := .type "tuple_iterator", data := .fields #[.ref l, .int 0 0] }).push { cls := .type "enumerate", data := .fields #[.none, .bool false, .ref s.heap.objs.size, rawInt 0, .none, .none] } }) :=
  .of_wp fun prog w A R s h => by
    obtain ⟨hp, g, d, tk, os⟩ := s; obtain ⟨hl, h⟩ := h
    have hsub := sub_enumerate
    have hL : Heap.IsTuple (Shared.heap ⟨hp, g, d, tk, os⟩) l items := ⟨_, hl, rfl, n, rfl⟩
    wp_walk using wpAny_loadPart' hl
    refine wpAny_stack_any fun st => wpAny_pure ?_
    split
    · rename_i c _ _ _ _ _
      cases (c == Value.type "enumerate")
      · wp_walk using wpAny_loadPart' hl, wpAny_pyIter_tuple hL
        exact ⟨_, rfl, h⟩
      · wp_walk using wpAny_loadPart' hl, wpAny_pyIter_tuple hL
        exact ⟨_, rfl, h⟩
    · wp_walk using wpAny_loadPart' hl, wpAny_pyIter_tuple hL
      exact ⟨_, rfl, h⟩
section
variable {prog : Program} {w : World} {A : Around} {E : Value → Shared → Prop} {s : Shared}
theorem call_enum_tup {l : Addr} {items : Array Value} {Q : Value → Shared → Prop} (hL : s.heap.IsTuple l items)
    (h : ∀ h', IsEnum h' (s.heap.objs.size + 1) s.heap.objs.size 0 .none → h'.IsTupleIter s.heap.objs.size l 0 → h'.objs.size = s.heap.objs.size + 2 →
      (∀ b o, s.heap.get? b = some o → h'.get? b = some o) → Q (.ref (s.heap.objs.size + 1)) { s with heap := h' }) :
    wpAny (model prog w) A (call (.type "enumerate") [.ref l]) Q E s := by
  obtain ⟨⟨c, dct, dt, sl⟩, hl, hc, n, hd⟩ := hL
  replace hc : c = .type "tuple" := hc
  replace hd : dt = .seq items n := hd
  subst hc hd
  refine callType_new F.called_enumerate (by decide) (F.typeCall_enumerate_1 _) (F.newCall_enumerate_1 _) (fun obj => F.args_object_init_2 obj _) F.entry_enumerate_new
    (meets_enum_newT l items n dct sl) ⟨hl, ?_⟩
  have hz : (s.heap.push { cls := .type "tuple_iterator", data := .fields #[.ref l, .int 0 0] }).objs.size = s.heap.objs.size + 1 := Heap.size_push ..
  show _ ∧ _
  rw [hz]
  have he : IsEnum ((s.heap.push { cls := .type "tuple_iterator", data := .fields #[.ref l, .int 0 0] }).push
      { cls := .type "enumerate", data := .fields #[.none, .bool false, .ref s.heap.objs.size, rawInt 0, .none, .none] }) (s.heap.objs.size + 1) s.heap.objs.size 0 .none := by
    have := Heap.get?_push_size (s.heap.push { cls := .type "tuple_iterator", data := .fields #[.ref l, .int 0 0] })
      (o := { cls := .type "enumerate", data := .fields #[.none, .bool false, .ref s.heap.objs.size, rawInt 0, .none, .none] }) rfl
    rw [hz] at this; exact this
  refine ⟨⟨_, he, rfl⟩, h _ he ⟨_, Heap.get?_push_of_some _ (Heap.get?_push_size _ rfl), rfl, rfl⟩ (by rw [Heap.size_push, hz]) fun b o x => Heap.get?_push_of_some _ (Heap.get?_push_of_some _ x)⟩
end
/-- the tuple at a as it stands at each turn, each item in a new pair -/
def Iteu (K : PySem.W.Frag) (a : Addr) : It :=
  ⟨fun i H => ∃ (xs : List V) (x : V), SqT K H a xs ∧ xs[i]? = some x, fun i H v H' => ∃ T x, v = .ref T ∧ H T = none ∧ H' = upd H T (.tup [.int (i : Nat), x]) ∧ ∀ xs, SqT K H a xs → xs[i]? = some x, fun i H => ∃ xs : List V, SqT K H a xs ∧ xs.length ≤ i⟩
theorem turn_enumT {P : Program} {w : World} {K : PySem.W.Frag} {elts : List Expr} {kk : Nat} {tpos : Pos} (a e it : Addr) :
    Turn P w K (.Tuple elts kk tpos) (Iteu K a) [e, it] e (fun i h => (∃ old, IsEnum h e it ((i : Nat) : Int) old) ∧ h.IsTupleIter it a i ∧ e ≠ it) where
  mem := by simp
  obj := fun i h st b hb => by
    obtain ⟨⟨old, he⟩, ⟨o, ho, hc, hd⟩, _⟩ := st
    have e' : b = e ∨ b = it := by simpa using hb
    rcases e' with z | z
    · rw [z]; exact ⟨_, he, fun v q => nomatch q⟩
    · rw [z]; exact ⟨o, ho, fun v q => by rw [hd] at q; cases q⟩
  keep := fun i h h' st k => let ⟨⟨old, he⟩, hi, hne⟩ := st; ⟨⟨old, k e (by simp) _ he⟩, hi.at fun o q => k it (by simp) o q, hne⟩
  item := by
    intro X hP hw hK hc i pins s σ H E I hf st hg
    subst hP hw hK
    obtain ⟨⟨old, he⟩, hit, hne⟩ := st
    obtain ⟨xs, x, hq, hx⟩ := hg
    obtain ⟨its, rv, p, hz⟩ := I.tuple hq
    obtain ⟨u, hu, ru⟩ := rv.get hx
    have hel : e < s.heap.objs.size := Heap.lt_size he
    have hil : it < s.heap.objs.size := by obtain ⟨_, q, _⟩ := hit; exact Heap.lt_size q
    have hae : a ≠ e := fun z => by
      obtain ⟨o, q, _, n, d⟩ := p
      rw [z, he] at q; cases q; cases d
    have hai : a ≠ it := fun z => by
      obtain ⟨o, q, _, n, d⟩ := p
      obtain ⟨o2, q2, _, d2⟩ := hit
      rw [z, q2] at q; cases q; rw [d2] at d; cases d
    have hlen : i < its.toArray.size := by
      have := (List.getElem?_eq_some_iff.mp hu).1
      simpa using this
    refine wpAny_pyNext_enum_itemD (Draws.tuple (A := X.A.in1) (I.ok.hd hc) it a hai its.toArray) he ⟨hit, p⟩ hlen hne (by simp only [List.mem_cons, List.not_mem_nil, or_false, not_or]; exact ⟨hne, Ne.symm hae⟩) fun x' h' tk hP ho hit' hT hsz hk => ?_
    have ex : x' = u := by
      have q : its.toArray[i]? = some x' := hP
      have q2 : its.toArray[i]? = some u := by simpa using hu
      rw [q2] at q
      exact (Option.some.inj q).symm
    subst ex
    refine ⟨_, rfl, wpAny_letOwnedTupleGo_enum (s := { s with heap := h', toks := tk + 1 }) ho fun h'' he' sb => ?_⟩
    have hT2 : h''.get? s.heap.objs.size = some { cls := .type "tuple", data := .seq #[.int i tk, x'] } := (sb.2 _ (Nat.ne_of_gt hel)).trans hT
    have new : ObjOk X.prog X.w (upd H s.heap.objs.size (.tup [.int (i : Nat), x])) h'' s.heap.objs.size (.tup [.int (i : Nat), x]) :=
      ⟨by show 2 ≤ sizeLine; decide, [.int i tk, x'], .cons ⟨_, rfl⟩ (.cons ru .nil), ⟨_, hT2, rfl, _, rfl⟩⟩
    have I1 : Inv X pins σ (upd H s.heap.objs.size (.tup [.int (i : Nat), x])) { s with heap := h'', toks := tk + 1 } :=
      I.turnedNew (ch := [e, it]) (fun b ob hb q => (sb.2 b (fun z => hb (by simp [z]))).trans (hk b ob (fun z => hb (by simp [z])) (fun z => hb (by simp [z])) q)) hf (Nat.le_refl _) new
    refine ⟨.ref s.heap.objs.size, _, I1, rfl, ⟨_, x, rfl, I.hok.fresh (Nat.le_refl _), rfl, fun ys hy => by rw [I.tuple_inj hy hq]; exact hx⟩, ⟨⟨x', ?_⟩, hit'.1.at fun o q => (sb.2 it (Ne.symm hne)).trans q, hne⟩, fun b hb => ?_⟩
    · have e1 : ((i + 1 : Nat) : Int) = (i : Int) + 1 := by omega
      rw [e1]; exact he'
    · have hb' : b < s.heap.objs.size := by
        have e' : b = e ∨ b = it := by simpa using hb
        rcases e' with z | z
        · rw [z]; exact hel
        · rw [z]; exact hil
      rw [upd_ne (Nat.ne_of_lt hb')]
      exact (hf b hb).1
  done := by
    intro X hP hw hK hc i pins s σ H E I hf st hg
    subst hP hw hK
    obtain ⟨⟨old, he⟩, hit, hne⟩ := st
    obtain ⟨xs, hq, hx⟩ := hg
    obtain ⟨its, rv, p, hz⟩ := I.tuple hq
    obtain ⟨f0, f1, f2, f3, f4, f5⟩ := hf it (by simp)
    have hl := rv.length
    have hai : a ≠ it := fun z => by
      obtain ⟨o, q, _, n, d⟩ := p
      obtain ⟨o2, q2, _, d2⟩ := hit
      rw [z, q2] at q; cases q; rw [d2] at d; cases d
    have hT : s.TypeIs (.ref e) "enumerate" := ⟨_, he, rfl⟩
    unfold pyNext
    refine wpAny_bind (wpAny_attempt (wpAny_callSpecial?_slot (name := Str.ofString "__next__") hT F.slot_enumerate_next
      (wpAny_call_entry F.slot_enumerate_next hT F.entry_enumerate_next ?_ (F.args_enumerate_next_1 _))))
    show wpAny _ _ (field (.ref e) 2 >>= _) _ _ _
    refine wpAny_bind (wpAny_field he rfl (x := .ref it) rfl ?_)
    refine wpAny_bind (wpAny_nextOf_tuple_end (A := X.A.in1) (I.ok.hd hc) hit p (by simp; omega) fun h' x he' hx' => ?_)
    obtain ⟨o, ho, hc'⟩ := hx'
    refine wpAny_bind (wpAny_isInstance (T := "StopIteration") (b := true) ⟨o, ho, hc'⟩ isSubtype_stop ?_)
    exact wpAny_pure ⟨rfl, I.turned (t' := s.toks) (fun b o hb q => he' b o hb q) f0 f1 f3 f4 f5⟩
  self := fun A i s Q E st h => let ⟨⟨_, he⟩, _⟩ := st; wpAny_pyIter_enum he h
def iEnumT (K : PySem.W.Frag) (ta : TA) : TI := fun σ H R => ta σ H fun vs H1 => ∃ a xs, vs = [.ref a] ∧ SqT K H1 a xs ∧ R (Iteu K a) H1
theorem pi_enumT {X : Cx} {e : Expr} {ta : TA} {p pos tpos : Pos} {elts : List Expr} {kk : Nat} (hg : Gl X "enumerate") (hm : X.mg "enumerate" = none) (ha : PA X [e] ta) (hs : starEach [e] X.env = [(false, eval e X.env)] := by rfl) :
    PI X (.Tuple elts kk tpos) (.Call (.Name "enumerate" p) [e] [] pos) (iEnumT X.K ta) := by
  refine ⟨fun pins s σ H R I h => ?_⟩
  refine Call_ (ld_blt I hg hm boot_enumerate (PyProof.Rows.callWith_type1 (thn (ha.run pos pins s σ H _ I h) fun us s1 ⟨vs, H1, I1, r1, q1⟩ => ?_) hs rfl))
  obtain ⟨a, xs, ex, hq, q⟩ := q1
  subst ex
  cases r1 with
  | cons r rr =>
    cases rr
    cases r
    obtain ⟨its, rv, p', hz⟩ := I1.tuple hq
    refine call_enum_tup p' fun h' he hit hsz hk => wpAny_pyIter_enum he ?_
    have I2 : Inv X pins σ H1 { s1 with heap := h' } := I1.kept (t' := s1.toks) hk
    refine ⟨s1.heap.objs.size + 1, [s1.heap.objs.size + 1, s1.heap.objs.size], _, _, H1, rfl, I2, turn_enumT a (s1.heap.objs.size + 1) s1.heap.objs.size, ⟨⟨.none, he⟩, hit, Nat.succ_ne_self _⟩, fun b hb => ?_, q⟩
    have e' : b = s1.heap.objs.size + 1 ∨ b = s1.heap.objs.size := by simpa using hb
    have hle : s1.heap.objs.size ≤ b := by
      rcases e' with z | z
      · rw [z]; exact Nat.le_add_right _ _
      · rw [z]; exact Nat.le_refl _
    exact I1.fpOk hle (I1.hok.fresh hle)
theorem walk_enumT {K : PySem.W.Frag} {a : Addr} {xs : List V} : Walk (Iteu K a) xs.length (fun H => SqT K H a xs) (YPair (fun i => some (.int (i : Nat))) (fun i => xs[i]?)) := by
  refine ⟨fun i _ hi q => ⟨xs, xs[i], q, by simp [hi]⟩, fun _ q => ⟨xs, q, Nat.le_refl _⟩, fun i H v H' _ q y => ?_⟩
  obtain ⟨T, x, h1, h2, h3, h4⟩ := y
  exact ⟨T, .int (i : Nat), x, h1, h2, h3, rfl, h4 xs q⟩
end Ws
/-! ## Wb -/
namespace Ws
open PySem PySem.Spec PyProof.Rows L2
/-! ### defs that know that no guard runs around them (for repr) -/
structure FnOkG (P : Program) (w : World) (K : PySem.W.Frag) (mg : Str → Option Value) (base : Heap) (CX : CXT) (k : Nat) (f : Addr) (fd : FuncData) (ps : List Str) (sp : Sp) : Prop where
  len : ∀ vs H Q E, sp vs H Q E → vs.length = ps.length
  run : ∀ (A : Around) (outer : List Env) (s : Shared) (H : Hp) (args : Args) (us : List Value) (vs : List V) (Q : VK) (E : XK), A.guards = some [] → Room k A → Env0 P w K mg base A outer s H → BindsTo s fd args (ps.zip us) → Vals vs us → sp vs H Q E →
    codeAny (model P w) A (.call (.ref f) args) (CR CX outer P w H s Q E) s
theorem FnOkG.of {P : Program} {w : World} {K : PySem.W.Frag} {mg : Str → Option Value} {base : Heap} {CX : CXT} {k : Nat} {f : Addr} {fd : FuncData} {ps : List Str} {sp : Sp} (F : FnOk P w K mg base CX k f fd ps sp) : FnOkG P w K mg base CX k f fd ps sp :=
  ⟨F.len, fun A outer s H args us vs Q E _ hr he hb hv hs => F.run A outer s H args us vs Q E hr he hb hv hs⟩
theorem fn_ofG {CX : CXT} {P : Program} {w : World} {K : PySem.W.Frag} {mg : Str → Option Value} {base : Heap} {k : Nat} {f : Addr} {name qual : Str} {params : Arguments} {body : List Stmt} {scope : Scope} {dV kV doc pm cdv ct oc : Value} {an od : Option Addr}
    {osl : Array (Option Value)} {N ps : List Str} {sp : Sp} (lk : K.lookup f = some ⟨oc, od, .func (PySem.W.fnOf name qual params body scope dV kV doc pm an cdv ct), osl⟩) (hcd : PySem.W.codeIn K cdv qual = true) (S : FnScope N ps scope)
    (len : ∀ vs H Q E, sp vs H Q E → vs.length = ps.length)
    (hbody : ∀ (A : Around) (outer : List Env) (s : Shared) (H : Hp) (vs : List V) (Q : VK) (E : XK), A.guards = some [] → Room k (A.deeper (envOfC qual scope s.heap.objs.size f cdv)) → sp vs H Q E →
      ∃ t, PSs (cxOf CX P w K mg base N qual scope f cdv A outer s H E) body t ∧ t { nx := fun _ H' => Q .non H', rt := Q } (start N vs) H) :
    FnOkG P w K mg base CX (k + 1) f (PySem.W.fnOf name qual params body scope dV kV doc pm an cdv ct) ps sp := by
  refine ⟨len, fun A outer s H args us vs Q E hG hr e0 hb r hsp => ?_⟩
  have hl := len _ _ _ _ hsp
  have KX : K.In s.heap := e0.mod.kin.keeps fun b o e => (e0.bs b o e).1
  have lim : s.heap.NoLimit := e0.mod.nolimit.keeps fun b o e => (e0.bs b o e).1
  have hkind : ∀ y ∈ ps.zip us, scope.names.lookup y.1 = some .local ∨ (scope.names.lookup y.1 = some .cell ∧ ((cellsFrom (s.heap.objs.size + 1) scope.names []).lookup y.1).isSome = true) := fun ⟨n, v⟩ hy => by
    rcases S.par n (List.of_mem_zip hy).1 with q | q
    · exact .inl q
    · exact .inr ⟨q, PySem.W.cellsFrom_some _ _ _ (.inl q)⟩
  refine codeAny_call_function hr.depth (KX _ _ lk) rfl S.co S.gen rfl (PySem.W.codeRec_of KX hcd) (hb _ _ _ _ ?_)
  refine wpAny_newFunctionEnv_cells S.kind hkind fun env he s1 x => ?_
  subst he
  refine ⟨lim.keeps x.toInCall.keep, codeAny_func ?_⟩
  obtain ⟨t, ht, hq⟩ := hbody A outer s H vs Q E hG (hr.deeper _) hsp
  have I : Inv (cxOf CX P w K mg base N qual scope f cdv A outer s H E) [] (start N vs) H s1 := inv_start S hr.hd e0 hl r x
  refine wpAny_mono (ht.run [] s1 (start N vs) H _ I hq) (fun fl s' hs => ?_) fun e s' hs => hs
  have fin : ∀ {σ' : L2.St} {H' : Hp} {v : V} {u : Value}, Inv (cxOf CX P w K mg base N qual scope f cdv A outer s H E) [] σ' H' s' → RelV v u → Q v H' → CE outer P w H s Q u s' :=
    fun {σ' H' v u} J rv q => ⟨v, H', J.os, J.bare, J.base, J.hok, rv, q⟩
  cases fl with
  | ret u =>
    obtain ⟨v, σ', H', J, rv, q⟩ := hs
    exact fin J rv q
  | next =>
    obtain ⟨σ', H', J, q⟩ := hs
    exact fin (v := V.non) (u := Value.none) J rfl q
  | brk =>
    obtain ⟨_, _, _, q⟩ := hs
    exact False.elim q
  | cont =>
    obtain ⟨_, _, _, q⟩ := hs
    exact False.elim q
section
variable {X : Cx} {CX : CXT} {k : Nat} {f : Addr} {fd : FuncData} {ps : List Str} {sp : Sp} {E : XK} {x : Str} {p pos : Pos} {e : Expr} {es : List Expr} {t : TA}
theorem run_fnG {pins : List (Addr × Obj)} {σ : L2.St} {H : Hp} {s : Shared} {Q : VK} {us : List Value} {vs : List V} (F : FnOkG X.prog X.w X.K X.mg X.base CX k f fd ps sp) (hG : X.A.guards = some []) (hr : Room k X.A) (hb : Binds X.K fd ps []) (hx : Passes CX X E)
    (I : Inv X pins σ H s) (r : Vals vs us) (h : sp vs H Q E) : wpAny (model X.prog X.w) X.A (call (.ref f) us) (EP X pins σ Q) X.xe s := by
  have hl : (us ++ []).length = ps.length := by rw [List.append_nil, ← r.length]; exact F.len _ _ _ _ h
  refine wpAny_call (codeAny_mono (F.run X.A X.stack s H ⟨us, []⟩ us vs Q E hG hr I.env0 (by have := hb s us I.kIn hl; rw [List.append_nil] at this; exact this) r h) fun r s' hq => ?_)
  cases r with
  | error e => exact hx pins σ H s e s' I hq
  | ok fl =>
    cases fl with
    | ret u => exact I.after hq
    | next => exact False.elim hq
    | brk => exact False.elim hq
    | cont => exact False.elim hq
/-- f(..) without defaults -/
def tCa (sp : Sp) (E : XK) (t : TA) : TE := fun σ H Q => t σ H fun vs H1 => sp vs H1 Q E
theorem pe_callG (F : FnOkG X.prog X.w X.K X.mg X.base CX k f fd ps sp) (hG : X.A.guards = some []) (hr : Room k X.A) (hg : Gl X x) (hm : X.mg x = some (.ref f)) (hk : PySem.W.keepIn X.K (.ref f) = true) (hb : Binds X.K fd ps []) (hx : Passes CX X E)
    (ha : PA X (e :: es) t) (hdb : (x == ("__debug__" : Str)) = false := by decide) (he : starEach (e :: es) X.env = (false, eval e X.env) :: starEach es X.env := by rfl) (hpl : (backTo pos (starEach es X.env)).any (·.1) = false := by rfl) :
    PE X (.Call (.Name x p) (e :: es) [] pos) (tCa sp E t) := by
  refine ⟨fun pins s σ H Q I h => ?_⟩
  refine wpAny_Call_Name_kw (ld_glob I hg hm ?_ hdb)
  refine PySem.W.callWith_K (h₀ := X.base) I.ok.mod.kin hk (thn (ha.run pos pins s σ H _ I h) fun us s1 ⟨vs, H1, I1, r, q⟩ => ⟨I1.kIn, ?_⟩) he hpl
  exact run_fnG F hG hr hb hx I1 r q
end
/-! ### repr of data -/
theorem call_reprD {X : Cx} (hG : X.A.guards = some []) (hu : X.A.units + 64 < cLine) : CallR X (.builtin "repr") (fun xs H Q => ∃ v d, xs = [v] ∧ Dp X.K H v d ∧ d.showable = true ∧ d.hasDict = false ∧ d.depth ≤ 60 ∧ d.shown.length ≤ sizeLine ∧ Q (.str d.shown) H) := by
  intro pins s σ H xs us Q I r h
  obtain ⟨v, d, rfl, hd, h1, h2, h3, h4, q⟩ := h
  obtain ⟨u, rfl, ru⟩ := vals1 r
  cases hd with
  | non =>
    cases ru
    exact PySem.P.repr_of_none ⟨.str _, H, I.tok _, ⟨_, rfl⟩, q⟩
  | bl b =>
    cases ru
    exact PySem.P.repr_of_bool ⟨.str _, H, I.tok _, ⟨_, rfl⟩, q⟩
  | int i =>
    obtain ⟨t, rfl⟩ := ru
    exact PySem.P.repr_of_int (by simpa [PyData.showable] using h1) ⟨.str _, H, I.tok _, ⟨_, rfl⟩, q⟩
  | str x =>
    obtain ⟨t, rfl⟩ := ru
    exact PySem.P.repr_of_str ⟨.str _, H, I.tok _, ⟨_, rfl⟩, q⟩ h4
  | lst hs ha =>
    obtain ⟨as, rd⟩ := Dp.reads I _ _ u (.lst hs ha) ru
    cases ru
    exact repr_of_reads' rd h1 (PyData.noDict_hsm h2) hG (by omega) (fun _ _ e => e) (fun h' u tk hk => ⟨.str _, H, I.kept hk, ⟨_, rfl⟩, q⟩) h4
  | tup hs ha =>
    obtain ⟨as, rd⟩ := Dp.reads I _ _ u (.tup hs ha) ru
    cases ru
    exact repr_of_reads' rd h1 (PyData.noDict_hsm h2) hG (by omega) (fun _ _ e => e) (fun h' u tk hk => ⟨.str _, H, I.kept hk, ⟨_, rfl⟩, q⟩) h4
end Ws
/-! ## Wc -/
namespace Ws
open PySem PySem.Spec PyProof.Rows L2
/-! ### several except clauses that name their error, by one name in slot i -/
def suiteEnds (D : Ends) (i : Nat) : Ends := { nx := fun σ' H' => D.nx (σ'.set i none) H', rt := D.rt, bk := fun σ' H' => D.bk (σ'.set i none) H', ct := fun σ' H' => D.ct (σ'.set i none) H' }
def wManyA (K : PySem.W.Frag) (i : Nat) (Wout : WX) (D : Ends) : List (Value × (Addr → Value → Option Addr → TS)) → WX
  | [] => Wout
  | (c, ts) :: r => fun cls d σ H => ∃ b, PySem.W.exmOne K cls c = some b ∧ (b = true → ∀ a, H a = none → ts a cls d (suiteEnds D i) (σ.set i (some (.ref a))) H) ∧ (b = false → wManyA K i Wout D r cls d σ H)
inductive HdsA (X : Cx) (n : Str) : List ExceptHandler → List (Value × (Addr → Value → Option Addr → TS)) → Prop
  | nil : HdsA X n [] []
  | cons {x : Str} {c : Value} {ts : Addr → Value → Option Addr → TS} {b₀ : Stmt} {suite : List Stmt} {np pos' : Pos} {hds : List ExceptHandler} {l : List (Value × (Addr → Value → Option Addr → TS))} (hc : Names X x c)
      (hsu : ∀ (a : Addr) (oe : Obj) (cls : Value) (d : Option Addr) (pn : List (Addr × Obj)), Zc cls d oe → (∃ vs, oe.data = .fields vs) → PSs (X.suite a ((a, oe) :: pn)) (b₀ :: suite) (ts a cls d)) (r : HdsA X n hds l) :
      HdsA X n (.ExceptHandler (some (.Name x np)) (some n) (b₀ :: suite) pos' :: hds) ((c, ts) :: l)
section
variable {X : Cx} {n : Str} {i : Nat} {body : List Stmt} {h₀ : ExceptHandler} {hds : List ExceptHandler} {l : List (Value × (Addr → Value → Option Addr → TS))} {pos : Pos} {tb : WX → TS} {Wout : WX}
theorem ps_try_manyA (hs : X.stack = X.env :: X.outer) (hf : X.env.frame = some X.env.locals) (hN : X.N.Nodup) (hi : X.N[i]? = some n) (hln : X.env.kindOf n = some .local) (tk : Takes X Wout)
    (hb : ∀ (W : WX) (pn : List (Addr × Obj)) (xe : Value → Shared → Prop), Takes (X.tr pn xe) W → PassesOwn (model X.prog X.w) X.A X.env xe → PSs (X.tr pn xe) body (tb W))
    (hh : HdsA X n (h₀ :: hds) l) : PS X (.Try body (h₀ :: hds) [] [] pos) (fun D σ H => tb (wManyA X.K i Wout D l) D σ H) := by
  refine ⟨fun pins s σ H D I h => ?_⟩
  have ok := I.ok
  have hfr : X.A.frames = some (X.env :: X.outer) := by rw [ok.frames, hs]
  have hloc : Loc X.env.scope n := .inl hln
  refine wpAny_Try_except ?_
  refine wpAny_mono ((hb (wManyA X.K i Wout D l) (X.pn ++ pins) (fun e s₁ => wpAny (model X.prog X.w) X.A (noteFrame e X.env) (fun _ s₂ => wpAny (model X.prog X.w) X.A (setFlight e none) (fun _ s₃ =>
    wpAny (model X.prog X.w) X.A (handleBy e X.env (h₀ :: hds)) (SP X pins D) X.xe s₃) X.xe s₂) X.xe s₁) (fun u s' xx => ?_) PassesOwn.looking).run [] s σ H D (I.toTry _) h) (fun f s1 hsp => ?_) (fun e s1 he => he)
  · -- the catch
    obtain ⟨a, B, sI, pins', σ', H', cls, d, rfl, J', nb, up, sky, na, os, ag, w⟩ := xx
    have J : Inv X pins σ' H' sI := J'.ofTry ok
    have sky' : Sky B (X.env :: X.outer) a (Zc cls d) X.env.locals s'.heap := by rw [← hs]; exact sky
    show wpAny (model X.prog X.w) X.A (noteFrame (.ref a) X.env) _ _ _
    refine Sky.land Zc.steady hfr hf sky' fun h3 fl3 up3 => ?_
    have J3 : Inv X pins σ' H' { s' with heap := h3 } := J.landed nb fl3.1 (up.trans up3) os ag
    obtain ⟨oe3, vs3, he3, hz3, hd3⟩ := fl3.there
    have notFr : ∀ {h : Heap} {o : Obj} {vs : Array Value}, h.FunFrames B (X.env :: X.outer) → h.get? a = some o → o.data = .fields vs → a ∉ frs (X.env :: X.outer) := fun {h o vs} ff e dd hm => by
      obtain ⟨_, o', e', hnf⟩ := ff.mem hm
      rw [e] at e'; cases e'
      exact hnf _ dd
    have nfr := notFr fl3.2.2.1 he3 hd3
    have nL : a ≠ X.env.locals := fun z => nfr (List.mem_filterMap.mpr ⟨X.env, List.mem_cons_self, by rw [hf, z]⟩)
    have nF : a ∉ X.fs := fun hm => by
      obtain ⟨e, he, q⟩ := List.mem_filterMap.mp hm
      exact nfr (List.mem_filterMap.mpr ⟨e, List.mem_cons_of_mem _ he, q⟩)
    have S3 := J3.suite he3 hd3 na nL nF
    have go : ∀ {hds' : List ExceptHandler} {l' : List (Value × (Addr → Value → Option Addr → TS))}, HdsA X n hds' l' → wManyA X.K i Wout D l' cls d σ' H' →
        wpAny (model X.prog X.w) X.A (handleBy (.ref a) X.env hds') (SP X pins D) X.xe { s' with heap := h3 } := by
      intro hds' l' hk
      induction hk with
      | nil =>
        intro w
        refine wpAny_handleBy_nil ?_
        obtain ⟨k1, k2, k3, oe, vs, T, oT, ts', he, hz, hd, h1, hr⟩ := id fl3
        unfold PySem.passOn
        refine wpAny_bind (wpAny_field he hd h1 ?_)
        rw [if_neg (show ¬ ((Value.ref T == Value.none) = true) from by simp)]
        have fin : wpAny (model X.prog X.w) X.A (setFlight (.ref a) X.env.frame) (fun _ s4 => wpAny (model X.prog X.w) X.A (throw (.ref a) : Sem Flow) (SP X pins D) X.xe s4) X.xe { s' with heap := h3 } := by
          rw [hf]
          refine HandSPX.setFlight_upZ fl3 fun h4 hh4 up4 => wpAny_throw (tk _ _ ?_)
          exact ⟨a, B, sI, pins, σ', H', cls, d, rfl, J, nb, (up.trans up3).trans up4, .inr (.inr (by rw [hs]; exact hh4)), na, os, ag, w⟩
        first
          | exact wpAny_bind (wpAny_pure (wpAny_bind fin))
          | exact wpAny_bind fin
      | @cons x c ts b₀ suite np pos' hds2 l2 hc hsu r ih =>
        intro w
        obtain ⟨b, hb1, hyes, hno⟩ := w
        refine wpAny_handleBy_cons (codeAny_handlers_test ?_) (by intro q; cases q)
        have LT : PySem.W.Looks (model X.prog X.w) h3 (typeOf (.ref a)) cls := fun A Q E s k q => wpAny_typeOf_ref (k _ _ he3) (by rw [hz3.1]; exact q)
        have LM := PySem.W.exm_one (M := model X.prog X.w) (J3.kIn) LT hb1
        have test : ∀ {Q : Value → Shared → Prop} {E : Value → Shared → Prop}, Q c { s' with heap := h3 } → wpAny (model X.prog X.w) (X.A.mark (some (.ref a))) (eval (.Name x np) X.env) Q E { s' with heap := h3 } := fun {Q E} q => by
          obtain ⟨hg, hdbg, hm | ⟨hm, hv, hnn⟩⟩ := hc
          · exact ld_glob (X := X.suite a ((a, oe3) :: (X.pn ++ pins))) S3 hg hm q hdbg
          · exact ld_blt (X := X.suite a ((a, oe3) :: (X.pn ++ pins))) S3 hg hm hv q hnn hdbg
        refine test (LM.here ?_)
        cases b with
        | true =>
          refine codeAny_handlers_suite_as ?_
          refine HandSPX.lands_againZ fl3 fun h4 fl4 up4 => ?_
          have J4 : Inv X pins σ' H' { s' with heap := h4 } := J.landed nb fl4.1 ((up.trans up3).trans up4) os ag
          obtain ⟨oe4, vs4, he4, hz4, hd4⟩ := fl4.there
          have S4 := J4.suite he4 hd4 na nL nF
          refine store_ok (X := X.suite a ((a, oe4) :: (X.pn ++ pins))) (v := .ref a) S4 hN hi hloc rfl (fun s5 S5 => ?_) (.inr hln)
          refine wpAny_mono ((hsu a oe4 cls d (X.pn ++ pins) hz4 ⟨_, hd4⟩).run [] s5 _ H' _ S5 (hyes rfl a na)) (fun f s6 hsp => ?_) (fun _ _ z => False.elim z)
          have end_ : ∀ {σ6 : L2.St} {H6 : Hp} {Q : Shared → Prop}, Inv (X.suite a ((a, oe4) :: (X.pn ++ pins))) [] σ6 H6 s6 → (∀ s7, Inv X pins (σ6.set i none) H6 s7 → Q s7) →
              wpAny (model X.prog X.w) X.A (do bindName X.env n .none; unbindBehindTheSuite X.env n pos') (fun _ s7 => Q s7) X.xe s6 := fun {σ6 H6 Q} S6 hq => gone_ok (S6.unsuite ok) hN hi hln hq
          cases f with
          | next =>
            obtain ⟨σ6, H6, S6, q6⟩ := hsp
            exact end_ S6 fun s7 J7 => ⟨_, _, J7, q6⟩
          | brk =>
            obtain ⟨σ6, H6, S6, q6⟩ := hsp
            exact end_ S6 fun s7 J7 => ⟨_, _, J7, q6⟩
          | cont =>
            obtain ⟨σ6, H6, S6, q6⟩ := hsp
            exact end_ S6 fun s7 J7 => ⟨_, _, J7, q6⟩
          | ret u =>
            obtain ⟨v6, σ6, H6, S6, r6, q6⟩ := hsp
            exact end_ S6 fun s7 J7 => ⟨_, _, _, J7, r6, q6⟩
        | false =>
          show wpAny _ X.A (handleBy (.ref a) X.env hds2) _ _ _
          exact ih (hno rfl)
    exact go hh w
  · cases f with
    | next =>
      obtain ⟨σ', H', J', q⟩ := hsp
      exact wpAny_execs_nil ⟨σ', H', J'.ofTry ok, q⟩
    | brk =>
      obtain ⟨σ', H', J', q⟩ := hsp
      exact ⟨σ', H', J'.ofTry ok, q⟩
    | cont =>
      obtain ⟨σ', H', J', q⟩ := hsp
      exact ⟨σ', H', J'.ofTry ok, q⟩
    | ret u =>
      obtain ⟨v, σ', H', J', r, q⟩ := hsp
      exact ⟨v, σ', H', J'.ofTry ok, r, q⟩
end
end Ws
/-! ## Wd -/
namespace L2
open PySem PySem.Spec PyProof.Rows
/-! ### data and heaps -/
theorem Same.seqT {K : PySem.W.Frag} {H H' : Hp} {a : Addr} {xs : List V} (e : Same H H') (h : SqT K H a xs) : SqT K H' a xs := by
  rcases h with (h | ⟨o, h⟩) | h
  · exact .inl (.inl (e _ _ h))
  · exact .inl (.inr ⟨o, e _ _ h⟩)
  · exact .inr h
theorem Same.new {H : Hp} {p : Addr} {o : HO} (h : H p = none) : Same H (upd H p o) := fun b u e => by
  rw [upd_ne (ne_of_none e h)]
  exact e
/-- what H does not know may change -/
theorem Same.mut {H H' : Hp} {p : Addr} {o : HO} (e : Same H H') (h : H p = none) : Same H (upd H' p o) := fun b u hb => by
  rw [upd_ne (ne_of_none hb h)]
  exact e b u hb
theorem Same.then_new {H H' : Hp} {p : Addr} {o : HO} (e : Same H H') (h : H' p = none) : Same H (upd H' p o) := Same.trans e (Same.new h)
section
variable {K : PySem.W.Frag} {H H' : Hp}
mutual
theorem Dp.same (e : Same H H') : ∀ (d : PyData) (v : V), Dp K H v d → Dp K H' v d
  | .none, _, h => by cases h; exact .non
  | .bool b, _, h => by cases h; exact .bl b
  | .int i, _, h => by cases h; exact .int i
  | .str x, _, h => by cases h; exact .str x
  | .list ds, _, h => by
    cases h with
    | lst hs ha => exact .lst (e.seq hs) (Dp.sameAll e ds _ ha)
  | .tuple ds, _, h => by
    cases h with
    | tup hs ha => exact .tup (Same.seqT e hs) (Dp.sameAll e ds _ ha)
  | .dict _, _, h => by cases h
theorem Dp.sameAll (e : Same H H') : ∀ (ds : List PyData) (vs : List V), DpAll K H vs ds → DpAll K H' vs ds
  | [], _, h => by cases h; exact .nil
  | d :: ds, _, h => by
    cases h with
    | cons h1 h2 => exact .cons (Dp.same e d _ h1) (Dp.sameAll e ds _ h2)
end
theorem Dp.to {v : V} {d : PyData} (h : Dp K H v d) (e : Same H H') : Dp K H' v d := Dp.same e d v h
theorem DpAll.to {vs : List V} {ds : List PyData} (h : DpAll K H vs ds) (e : Same H H') : DpAll K H' vs ds := Dp.sameAll e ds vs h
theorem DpAll.length : ∀ {ds : List PyData} {vs : List V}, DpAll K H vs ds → vs.length = ds.length
  | [], _, h => by cases h; rfl
  | d :: ds, _, h => by
    cases h with
    | cons h1 h2 => simp [DpAll.length h2]
theorem DpAll.get : ∀ {ds : List PyData} {vs : List V} {i : Nat} {d : PyData}, DpAll K H vs ds → ds[i]? = some d → ∃ v, vs[i]? = some v ∧ Dp K H v d
  | [], _, i, d, h, e => by simp at e
  | d' :: ds, _, 0, d, h, e => by
    cases h with
    | cons h1 h2 =>
      have e' : d' = d := by simpa using e
      subst e'
      exact ⟨_, rfl, h1⟩
  | d' :: ds, _, i + 1, d, h, e => by
    cases h with
    | cons h1 h2 =>
      obtain ⟨v, a, b⟩ := DpAll.get h2 (by simpa using e)
      exact ⟨v, by simpa using a, b⟩
theorem DpAll.getV : ∀ {ds : List PyData} {vs : List V} {i : Nat} {v : V}, DpAll K H vs ds → vs[i]? = some v → ∃ d, ds[i]? = some d ∧ Dp K H v d
  | [], _, i, d, h, e => by cases h; simp at e
  | d' :: ds, _, 0, d, h, e => by
    cases h with
    | cons h1 h2 =>
      simp at e
      subst e
      exact ⟨_, rfl, h1⟩
  | d' :: ds, _, i + 1, d, h, e => by
    cases h with
    | cons h1 h2 =>
      obtain ⟨v, a, b⟩ := DpAll.getV h2 (by simpa using e)
      exact ⟨v, by simpa using a, b⟩
theorem DpAll.append : ∀ {ds es : List PyData} {vs ws : List V}, DpAll K H vs ds → DpAll K H ws es → DpAll K H (vs ++ ws) (ds ++ es)
  | [], _, _, _, h, h' => by cases h; exact h'
  | d :: ds, _, _, _, h, h' => by
    cases h with
    | cons h1 h2 => exact .cons h1 (DpAll.append h2 h')
theorem DpAll.snoc {ds : List PyData} {vs : List V} {v : V} {d : PyData} (h : DpAll K H vs ds) (h1 : Dp K H v d) : DpAll K H (vs ++ [v]) (ds ++ [d]) := h.append (.cons h1 .nil)
theorem DpAll.take : ∀ {ds : List PyData} {vs : List V} (n : Nat), DpAll K H vs ds → DpAll K H (vs.take n) (ds.take n)
  | [], _, n, h => by cases h; simp; exact .nil
  | d :: ds, _, 0, h => .nil
  | d :: ds, _, n + 1, h => by
    cases h with
    | cons h1 h2 => exact .cons h1 (DpAll.take n h2)
theorem DpAll.drop : ∀ {ds : List PyData} {vs : List V} (n : Nat), DpAll K H vs ds → DpAll K H (vs.drop n) (ds.drop n)
  | [], _, n, h => by cases h; simp; exact .nil
  | d :: ds, _, 0, h => h
  | d :: ds, _, n + 1, h => by
    cases h with
    | cons h1 h2 => exact DpAll.drop n h2
theorem DpAll.set {v : V} {d : PyData} (h1 : Dp K H v d) : ∀ {ds : List PyData} {vs : List V} (n : Nat), DpAll K H vs ds → DpAll K H (vs.set n v) (ds.set n d)
  | [], _, n, h => by cases h; exact .nil
  | _ :: ds, _, 0, h => by
    cases h with
    | cons h0 h2 => exact .cons h1 h2
  | _ :: ds, _, n + 1, h => by
    cases h with
    | cons h0 h2 => exact .cons h0 (DpAll.set h1 n h2)
theorem DpAll.ints : ∀ (ns : List Int), DpAll K H (ns.map V.int) (ns.map PyData.int)
  | [] => .nil
  | n :: ns => .cons (.int n) (DpAll.ints ns)
theorem DpAll.ints_inv : ∀ {ns : List Int} {vs : List V}, DpAll K H vs (ns.map PyData.int) → vs = ns.map V.int
  | [], _, h => by cases h; rfl
  | n :: ns, _, h => by
    cases h with
    | cons h1 h2 =>
      cases h1
      rw [DpAll.ints_inv h2]
      rfl
theorem Dp.int_inv {v : V} {i : Int} (h : Dp K H v (.int i)) : v = .int i := by cases h; rfl
theorem Dp.bl_inv {v : V} {b : Bool} (h : Dp K H v (.bool b)) : v = .bl b := by cases h; rfl
theorem Dp.tup_inv {v : V} {ds : List PyData} (h : Dp K H v (.tuple ds)) : ∃ a xs, v = .ref a ∧ SqT K H a xs ∧ DpAll K H xs ds := by
  cases h with
  | tup hs ha => exact ⟨_, _, rfl, hs, ha⟩
theorem Dp.lst_inv {v : V} {ds : List PyData} (h : Dp K H v (.list ds)) : ∃ a xs, v = .ref a ∧ SqL K H a xs ∧ DpAll K H xs ds := by
  cases h with
  | lst hs ha => exact ⟨_, _, rfl, hs, ha⟩
theorem Dp.ints_tup {v : V} {ns : List Int} (h : Dp K H v (.tuple (ns.map PyData.int))) : ∃ a, v = .ref a ∧ SqT K H a (ns.map V.int) := by
  obtain ⟨a, xs, rfl, hs, ha⟩ := h.tup_inv
  rw [ha.ints_inv] at hs
  exact ⟨a, rfl, hs⟩
theorem Dp.tup_ints {a : Addr} {ns : List Int} (h : SqT K H a (ns.map V.int)) : Dp K H (.ref a) (.tuple (ns.map PyData.int)) := .tup h (DpAll.ints ns)
end
end L2
namespace Ws
open PySem PySem.Spec PyProof.Rows L2
/-! ### max(ints, default=d) -/
theorem fold_max (n : Int) : ∀ ns : List Int, (ns.foldl max n = n ∨ ns.foldl max n ∈ ns) ∧ n ≤ ns.foldl max n ∧ ∀ y ∈ ns, y ≤ ns.foldl max n := by
  intro ns
  induction ns generalizing n with
  | nil => exact ⟨.inl rfl, Int.le_refl _, fun y hy => absurd hy (by simp)⟩
  | cons a r ih =>
    obtain ⟨h1, h2, h3⟩ := ih (max n a)
    simp only [List.foldl_cons]
    refine ⟨?_, by omega, fun y hy => ?_⟩
    · rcases h1 with h1 | h1
      · rw [h1]
        rcases Int.le_total n a with z | z
        · right; rw [Int.max_eq_right z]; exact List.mem_cons_self ..
        · left; exact Int.max_eq_left z
      · right; exact List.mem_cons_of_mem _ h1
    · rcases List.mem_cons.mp hy with e | hy
      · rw [e]; omega
      · exact h3 y hy
theorem alike_ints (ns : List Int) : PySem.W.AlikeAll (ns.map PyData.int) := by
  refine ⟨fun x hx y hy => ?_, fun x hx => ?_⟩
  · obtain ⟨a, _, rfl⟩ := List.mem_map.mp hx
    obtain ⟨b, _, rfl⟩ := List.mem_map.mp hy
    simp [PySem.W.alike]
  · obtain ⟨a, _, rfl⟩ := List.mem_map.mp hx
    intro z
    cases z
theorem depth_ints : ∀ ns : List Int, PyData.depthAll (ns.map PyData.int) = 0
  | [] => rfl
  | n :: ns => by
    show max 0 (PyData.depthAll (ns.map PyData.int)) = 0
    rw [depth_ints ns]
    rfl
def rMaxD (K : PySem.W.Frag) : List V → List V → Hp → VK → Prop := fun xs zs H Q => ∃ (a : Addr) (ns : List Int) (d : V), xs = [.ref a] ∧ zs = [d] ∧ SqL K H a (ns.map V.int) ∧ (ns = [] → Q d H) ∧ ∀ m, m ∈ ns → (∀ y ∈ ns, y ≤ m) → Q (.int m) H
theorem call_maxD {X : Cx} (hc : X.calm = true) (hu : X.A.units + 64 < cLine) : CallRK X (.builtin "max") ["default"] (rMaxD X.K) := by
  intro pins s σ H xs zs us ws Q I r1 r2 h
  obtain ⟨a, ns, d, rfl, rfl, hs, h0, h1⟩ := h
  obtain ⟨u, rfl, ru⟩ := vals1 r1
  obtain ⟨u', rfl, ru'⟩ := vals1 r2
  cases ru
  obtain ⟨its, rv, p, hz⟩ := I.list hs
  obtain ⟨as, hr⟩ := Dp.readsAll I (ns.map PyData.int) (ns.map V.int) its (DpAll.ints ns) rv
  show wpAny _ _ (call (.builtin "max") [.ref a] [(Str.ofString "default", u')]) _ _ _
  refine PySem.W.max_list_default (xs := ns.map PyData.int) (I.ok.hd hc) p.isList (by simpa using hr) (alike_ints ns) (by rw [depth_ints]; omega) (fun e h' tk hk => ?_) (fun y ys i v h' tk bs e hv hR hk => ?_)
  · exact ⟨d, H, I.kept hk, ru', h0 (by simpa using e)⟩
  · cases ns with
    | nil => cases e
    | cons n r =>
      have e1 : PyData.int n = y := by
        simp only [List.map_cons, List.cons.injEq] at e
        exact e.1
      have e2 : r.map PyData.int = ys := by
        simp only [List.map_cons, List.cons.injEq] at e
        exact e.2
      subst e1 e2
      rw [PySem.W.maxD_ints] at hR
      cases hR with
      | int i t =>
        obtain ⟨g1, g2, g3⟩ := fold_max n r
        refine ⟨.int (r.foldl max n), H, I.kept hk, ⟨_, rfl⟩, h1 _ ?_ fun y hy => ?_⟩
        · rcases g1 with g1 | g1
          · rw [g1]; exact List.mem_cons_self ..
          · exact List.mem_cons_of_mem _ g1
        · rcases List.mem_cons.mp hy with e | hy
          · rw [e]; exact g2
          · exact g3 y hy
/-! ### a def as a fact of the module -/
structure Dt (K : PySem.W.Frag) (mg : Str → Option Value) (x : Str) (st : Stmt) (ps : List Str) : Prop where
  ex : ∃ (f : Addr) (fd : FuncData), Fun K x x st f fd ∧ mg x = some (.ref f) ∧ Binds K fd ps []
structure Df (P : Program) (w : World) (K : PySem.W.Frag) (mg : Str → Option Value) (base : Heap) (CX : CXT) (k : Nat) (x : Str) (ps : List Str) (sp : Sp) : Prop where
  ex : ∃ (f : Addr) (fd : FuncData), FnOk P w K mg base CX k f fd ps sp ∧ mg x = some (.ref f) ∧ PySem.W.keepIn K (.ref f) = true ∧ Binds K fd ps []
structure DfG (P : Program) (w : World) (K : PySem.W.Frag) (mg : Str → Option Value) (base : Heap) (CX : CXT) (k : Nat) (x : Str) (ps : List Str) (sp : Sp) : Prop where
  ex : ∃ (f : Addr) (fd : FuncData), FnOkG P w K mg base CX k f fd ps sp ∧ mg x = some (.ref f) ∧ PySem.W.keepIn K (.ref f) = true ∧ Binds K fd ps []
section
variable {P : Program} {w : World} {K : PySem.W.Frag} {mg : Str → Option Value} {base : Heap} {x : Str} {st : Stmt} {N ps : List Str} {k : Nat} {sp : Sp}
theorem Dt.mk' {h : Heap} {f : Addr} {oc : Value} {od an : Option Addr} {osl : Array (Option Value)} {kV doc pm cdv ct : Value} (X : K.In h) (G : h.Ns mainGlobals mg) (a : PySem.W.nsIn K mainGlobals x = some (some (.ref f)))
    (l : K.lookup f = some ⟨oc, od, .func (PySem.W.fnOf x x (defArgs st) (defBody st) (defScope st) .none kV doc pm an cdv ct), osl⟩) (c : PySem.W.codeIn K cdv x = true) (kp : PySem.W.keepIn K (.ref f) = true)
    (hb : ∀ (kV doc pm : Value) (an : Option Addr) (cdv ct : Value) (us : List Value), us.length = ps.length → bindArgs (PySem.W.fnOf x x (defArgs st) (defBody st) (defScope st) .none kV doc pm an cdv ct) ⟨us, []⟩ = pure (ps.zip us)) : Dt K mg x st ps :=
  ⟨f, _, fun_mk l c kp, PySem.W.mg_of X G a, (fun_mk l c kp).binds hb⟩
theorem Dt.ok (D : Dt K mg x st ps) (S : FnScope N ps (defScope st)) (len : ∀ vs H Q E, sp vs H Q E → vs.length = ps.length)
    (hbody : ∀ (f : Addr) (cdv : Value) (A : Around) (outer : List Env) (s : Shared) (H : Hp) (vs : List V) (Q : VK) (E : XK), Room k (A.deeper (envOfC x (defScope st) s.heap.objs.size f cdv)) → sp vs H Q E →
      ∃ t, PSs (cxOf CX0 P w K mg base N x (defScope st) f cdv A outer s H E).nox (defBody st) t ∧ t { nx := fun _ H' => Q .non H', rt := Q } (start N vs) H) : Df P w K mg base CX0 (k + 1) x ps sp := by
  obtain ⟨f, fd, F, m, b⟩ := D.ex
  exact ⟨f, fd, F.ok S len (hbody f), m, F.kp, b⟩
theorem Dt.okX (D : Dt K mg x st ps) (S : FnScope N ps (defScope st)) (len : ∀ vs H Q E, sp vs H Q E → vs.length = ps.length)
    (hbody : ∀ (f : Addr) (cdv : Value) (A : Around) (outer : List Env) (s : Shared) (H : Hp) (vs : List V) (Q : VK) (E : XK), Room k (A.deeper (envOfC x (defScope st) s.heap.objs.size f cdv)) → sp vs H Q E →
      ∃ t, PSs (cxOf (L2.CX P w) P w K mg base N x (defScope st) f cdv A outer s H E) (defBody st) t ∧ t { nx := fun _ H' => Q .non H', rt := Q } (start N vs) H) : Df P w K mg base (L2.CX P w) (k + 1) x ps sp := by
  obtain ⟨f, fd, F, m, b⟩ := D.ex
  exact ⟨f, fd, F.okX S len (hbody f), m, F.kp, b⟩
theorem Dt.okG (D : Dt K mg x st ps) (S : FnScope N ps (defScope st)) (len : ∀ vs H Q E, sp vs H Q E → vs.length = ps.length)
    (hbody : ∀ (f : Addr) (cdv : Value) (A : Around) (outer : List Env) (s : Shared) (H : Hp) (vs : List V) (Q : VK) (E : XK), A.guards = some [] → Room k (A.deeper (envOfC x (defScope st) s.heap.objs.size f cdv)) → sp vs H Q E →
      ∃ t, PSs (cxOf CX0 P w K mg base N x (defScope st) f cdv A outer s H E).nox (defBody st) t ∧ t { nx := fun _ H' => Q .non H', rt := Q } (start N vs) H) : DfG P w K mg base CX0 (k + 1) x ps sp := by
  obtain ⟨f, fd, F, m, b⟩ := D.ex
  obtain ⟨oc, od, kV, doc, pm, an, cdv, ct, osl, rfl, lk, hcd⟩ := F.ex
  refine ⟨f, _, fn_ofG lk hcd S len fun A outer s H vs Q E hg hr hsp => ?_, m, F.kp, b⟩
  obtain ⟨t, h, q⟩ := hbody f cdv A outer s H vs Q E hg hr hsp
  exact ⟨t, h.nox, q⟩
theorem Df.g {CX : CXT} (D : Df P w K mg base CX k x ps sp) : DfG P w K mg base CX k x ps sp := let ⟨f, fd, a, b, c, d⟩ := D.ex; ⟨f, fd, .of a, b, c, d⟩
end
section
variable {X : Cx} {CX : CXT} {k : Nat} {ps : List Str} {sp : Sp} {E : XK} {x : Str} {p pos : Pos} {e : Expr} {es : List Expr} {t : TA}
theorem pe_f (D : Df X.prog X.w X.K X.mg X.base CX k x ps sp) (hr : Room k X.A) (hx : Passes CX X E)
    (ha : PA X (e :: es) t) (hg : Gl X x := by rfl) (hdb : (x == ("__debug__" : Str)) = false := by decide) (he : starEach (e :: es) X.env = (false, eval e X.env) :: starEach es X.env := by rfl) (hpl : (backTo pos (starEach es X.env)).any (·.1) = false := by rfl) :
    PE X (.Call (.Name x p) (e :: es) [] pos) (tCa sp E t) := by
  obtain ⟨f, fd, F, m, kp, b⟩ := D.ex
  refine ⟨fun pins s σ H Q I h => ?_⟩
  refine (pe_call (dvs := []) F hr hg m kp b .nil hx ha hdb he hpl).run pins s σ H Q I ?_
  have e1 : tCall sp [] E t = tCa sp E t := by
    unfold tCall tCa
    simp only [List.append_nil]
  rw [e1]
  exact h
theorem pe_fG (D : DfG X.prog X.w X.K X.mg X.base CX k x ps sp) (hG : X.A.guards = some []) (hr : Room k X.A) (hx : Passes CX X E)
    (ha : PA X (e :: es) t) (hg : Gl X x := by rfl) (hdb : (x == ("__debug__" : Str)) = false := by decide) (he : starEach (e :: es) X.env = (false, eval e X.env) :: starEach es X.env := by rfl) (hpl : (backTo pos (starEach es X.env)).any (·.1) = false := by rfl) :
    PE X (.Call (.Name x p) (e :: es) [] pos) (tCa sp E t) := by
  obtain ⟨f, fd, F, m, kp, b⟩ := D.ex
  exact pe_callG F hG hr hg m kp b hx ha hdb he hpl
theorem pe_fS {E : L2.St → XK} (D : Df X.prog X.w X.K X.mg X.base CX k x ps sp) (hr : Room k X.A) (hx : ∀ σ, PassesAt CX X σ (E σ))
    (ha : PA X (e :: es) t) (hg : Gl X x := by rfl) (hdb : (x == ("__debug__" : Str)) = false := by decide) (he : starEach (e :: es) X.env = (false, eval e X.env) :: starEach es X.env := by rfl) (hpl : (backTo pos (starEach es X.env)).any (·.1) = false := by rfl) :
    PE X (.Call (.Name x p) (e :: es) [] pos) (tCallS sp E t) := by
  obtain ⟨f, fd, F, m, kp, b⟩ := D.ex
  exact pe_callS F hr hg m kp b hx ha hdb he hpl
end
end Ws
/-! ## We -/
/-! isinstance of a caught error that has fields -/
namespace Ws
open PySem PySem.Spec PySem.Calls PySem.W PyProof.Rows L2
section
variable {prog : Program} {w : World} {A : Around} {E : Value → Shared → Prop} {s : Shared} {K : Frag} {x D : Addr} {ox : Obj} {od : Option Obj}
theorem find_class {g a : Value} {name : Str} (C : ExcC K D) (ha : findIn K (.ref D) name = some (some a)) (hg : specialIn K a "__get__" = some (some g)) (ht : takesIn K a = some true) : findObj K D od name = some (.bind g a) := by
  obtain ⟨cd, hc, _⟩ := any_some C.hd
  have hc : clsIn K D = some cd := hc
  unfold findObj
  rw [hc, Option.bind_some, ha, Option.bind_some]
  simp [hg, ht]
theorem asked_class {Q : Option Value → Shared → Prop} (C : ExcC K D) (X : K.In s.heap) (I : InstAt s.heap x ox D od) (h : Q (some (.ref D)) { s with toks := s.toks + 1 }) : wpAny (model prog w) A (getAttr? (.ref x) "__class__") Q E s := by
  have hf : findObj K D od "__class__" = some (.bind (.builtin "getset_descriptor.__get__") (.builtin "object.__class__")) := find_class C C.ha C.hn C.ht
  obtain ⟨hp, g, d, t, os⟩ := s
  have l0 := I.type (M := model prog w)
  have l1 := looks_findIn (M := model prog w) X C.hg
  have l2 := looks_findIn (M := model prog w) X C.hk
  have l3 := looks_find (M := model prog w) X I hf
  have sub : Looks (model prog w) hp (isInstance (.ref x) (.type "BaseException")) true := l0.andThen (looks_subIn X C.hs)
  have n2 : (Value.builtin "BaseException.__getattribute__" == Value.builtin "object.__getattribute__") = false := by decide +kernel
  have n1 : (onTheHeap (Value.ref D) && Value.builtin "BaseException.__getattribute__" == Value.builtin "object.__getattribute__") = false := by rw [n2]; rfl
  have n0 : (false && onTheHeap (Value.builtin "BaseException.__getattribute__")) = false := rfl
  unfold getAttr? getAttrBy? getAttrBy
  refine wpAny_bind (wpAny_mkText (wpAny_bind (wpAny_attempt (wpAny_holding (wpAny_bind (l0.at (wpAny_bind (l1.at ?_))))))))
  show wpAny _ _ (if (onTheHeap (Value.ref D) && Value.builtin "BaseException.__getattribute__" == Value.builtin "object.__getattribute__") = true then _ else _) _ _ _
  rw [n1, if_neg Bool.false_ne_true]
  unfold getAttrByItsOwn hookBefore
  refine wpAny_bind ?_
  rw [if_pos (show onTheHeap (Value.ref D) = true from rfl)]
  refine l2.at (wpAny_bind (wpAny_attempt (wpAny_holding ?_)))
  unfold callGetattribute
  rw [n0, if_neg Bool.false_ne_true]
  unfold boundAndCalled
  rw [PySem.F.excAttr_ValueError.ga.bind (.ref x)]
  refine wpAny_bind (wpAny_pure ?_)
  show wpAny _ _ (call (.builtin "BaseException.__getattribute__") [.ref x, .str "__class__" t]) _ _ _
  refine wpAny_call (codeAny_call_builtin PySem.F.excAttr_ValueError.ga.plain PySem.F.entry_bexc_ga ?_)
  refine @check_slot (model prog w) _ _ ⟨hp, g, d, t + 1, os⟩ "BaseException.__getattribute__" "BaseException" "__getattribute__" (.ref x) [.str "__class__" t] [] _ (by decide +kernel) (by decide +kernel) sub (PySem.F.args_bexc_ga (.ref x) (.str "__class__" t)) ?_
  unfold Builtin.«object.__getattribute__»
  refine wpAny_bind (wpAny_of_eq (a := ((Value.ref x : Value), [Value.str "__class__" t])) (by first | rfl | (simp only [slotArgs]; rfl)) ?_)
  refine wpAny_bind (wpAny_pure (wpAny_bind (l0.at (wpAny_bind (l3.at ?_)))))
  show wpAny _ _ (holding [Value.builtin "object.__class__"] (call (.builtin "getset_descriptor.__get__") [.builtin "object.__class__", .ref x, .ref D]) >>= ret) _ _ _
  refine wpAny_bind (wpAny_holding (wpAny_call (class_get (s := ⟨hp, g, d, t + 1, os⟩) (ox := ox) (od := od) X I C.hm ?_)))
  refine wpAny_pure ?_
  show wpAny _ _ (handedOut (.ref D)) _ _ _
  rw [handedOut_of (v := .ref D) rfl]
  first
    | exact wpAny_pure (wpAny_pure h)
    | exact wpAny_pure h
    | exact wpAny_pure (wpAny_bind (wpAny_pure (wpAny_pure h)))
theorem kitx_err (C : ExcC K D) : KitX K (.ref x) (.ref D) (fun h => InstAt h x ox D od) where
  ty := fun _ _ _ I => I.type
  it := fun _ _ X _ => by
    obtain ⟨cd, hc, _⟩ := any_some C.hd
    unfold clsIn at hc
    split at hc
    · rename_i ho
      intro A' Q' E' s' k q
      unfold isType loadHead
      exact wpAny_bind (wpAny_loadPart (k _ _ (X _ _ ho)) (wpAny_pure q))
    · cases hc
  ne := fun h tp dd its n sl X htp => by
    obtain ⟨cd, hc, _⟩ := any_some C.hd
    refine Bool.eq_false_iff.mpr fun q => ?_
    have e : D = tp := Value.ref.inj (beq_iff_eq.mp q)
    subst e
    unfold clsIn at hc
    split at hc
    · rename_i ho
      have z := (X _ _ ho).symm.trans htp
      cases z
    · cases hc
  ca := fun X I k => asked_class C X I k
end
/-- isinstance(e, c), e the error of the suite, of the class cls, its fields in the dict d -/
def rIsX (K : Frag) (a : Addr) (cls : Value) (d : Option Addr) : List V → Hp → VK → Prop := fun xs H Q => ∃ (c : V) (cv : Value) (b : Bool) (D dd : Addr) (fs : List (Str × V)), xs = [.ref a, c] ∧ cls = .ref D ∧ ExcC K D ∧ d = some dd ∧ H dd = some (.xd fs) ∧ (∀ u, RelV c u → u = cv) ∧ kitOne K (.ref D) cv = some b ∧ Q (.bl b) H
theorem call_isX {X : Cx} {a : Addr} {cls : Value} {d : Option Addr} {oe : Obj} {pn : List (Addr × Obj)} (hz : Zc cls d oe) (hf : ∃ vs, oe.data = .fields vs) : CallR (X.suite a ((a, oe) :: pn)) (.builtin "isinstance") (rIsX X.K a cls d) := by
  intro pins s σ H xs us Q I r h
  obtain ⟨c, cv, b, D, dd, fs, rfl, rfl, C, rfl, hd, hcv, e, q⟩ := h
  cases r with
  | cons rx rr =>
    cases rr with
    | cons rt rr =>
      cases rr
      cases rx
      have ec := hcv _ rt
      subst ec
      obtain ⟨hget, _⟩ := I.pin (a, oe) (List.mem_append.mpr (.inl List.mem_cons_self))
      obtain ⟨vs, hv⟩ := hf
      have hx : ObjOk X.prog X.w H s.heap dd (.xd fs) := I.hok dd _ hd
      obtain ⟨mA, hns, hr⟩ := hx
      obtain ⟨od, ho, hl⟩ := lookIn_ns hns
      have J : PySem.W.InstAt s.heap a oe D (some od) := ⟨hget, hz.1, by unfold PySem.W.notCls; rw [hv] <;> rfl, by rw [hz.2]; exact ho⟩
      exact PySem.W.kia_one (kitx_err C) I.kIn J e (fun z => nomatch z) fun tk => ⟨.bl b, H, I.kept (t' := tk) fun _ _ z => z, rfl, q⟩
end Ws
/-! ## Wf -/
/-! tuple * int, the empty tuple too -/
namespace Ws
open PySem PySem.Spec PyProof.Rows L2
theorem tuple_mul0 (l : Addr) (n : Nat) (dd : Option Addr) (sl : Array (Option Value)) (x : Int) (u : Tok) (c0 : (decide (x < -(2 ^ 63)) || decide (x ≥ 2 ^ 63)) = false) (c1 : ((#[] : Array Value).isEmpty || x == 1) = true) :
    Meets (Builtin.«tuple.__mul__» ⟨[.ref l, .int x u], []⟩) (fun _ R s => s.heap.get? l = some { cls := .type "tuple", dict := dd, data := .seq #[] n, slots := sl } ∧
      R (.ok (.ret (Value.ref l))) s) :=
  .of_wp fun prog w A R s h => by
    obtain ⟨hp, g, d, tk, os⟩ := s
    obtain ⟨hl, h⟩ := h
    have f1 := AutoSeq1.idx_int
    wp_walk using wpAny_loadPart' hl
    repeat (first
      | (refine wpAny_ite_false (decide_eq_false (by rw [c0]; exact Bool.false_ne_true)) ?_; wp_walk using wpAny_loadPart' hl)
      | (refine wpAny_ite_true (decide_eq_true c1) ?_; wp_walk using wpAny_loadPart' hl))
    exact ⟨_, rfl, h⟩
/-- t * k, k written: the empty tuple is handed back, of another one a new one is made -/
def rRepA (K : PySem.W.Frag) : R2 := fun x y H Q => ∃ l k xs, x = .ref l ∧ y = .int k ∧ SqT K H l xs ∧ 2 ≤ k ∧ k ≤ 1000 ∧ xs.length ≤ 1000 ∧ (xs = [] → Q (.ref l) H) ∧ (xs ≠ [] → ∀ p, H p = none → Q (.ref p) (upd H p (.tup (List.replicate k.toNat xs).flatten)))
theorem op_repA {X : Cx} : OpR X (binaryOp .Mult) (rRepA X.K) := by
  intro pins s σ H x y v u Q I rx ry h
  obtain ⟨l, k, xs, rfl, rfl, hT, h1, h2, hz, q0, q⟩ := h
  by_cases hx : xs = []
  · subst hx
    have rx2 := rx
    cases rx
    obtain ⟨t, rfl⟩ := ry
    obtain ⟨its, r, ⟨⟨cls, dd, data, sl⟩, ho, hc, n, hd⟩, hs⟩ := I.tuple hT
    simp only at hc hd
    subst hc hd
    cases r
    have c0 : (decide (k < -(2 ^ 63)) || decide (k ≥ 2 ^ 63)) = false := by
      rw [decide_eq_false (by omega), decide_eq_false (by omega)] <;> rfl
    refine wpAny_binaryOp_repeat_ref (T := "tuple") (U := "int") (by decide) ⟨_, ho, rfl⟩ (fun s' => typeIs_int s' k t) noFill_tuple_mul F.fills_int_mul F.slot_int_rmul repeat_tuple F.slot_int_index.lookup
      (call_meets F.slot_int_rmul (typeIs_int s k t) F.entry_int_rmul (F.args_int_rmul_2 _ _) (int_rmul_tuple k t l (#[] : Array Value) n dd sl)
        ⟨ho, rfl, ⟨_, ho, rfl⟩, call_meets F.slot_tuple_mul ⟨_, ho, rfl⟩ F.entry_tuple_mul (F.args_tuple_mul_2 _ _) (tuple_mul0 l n dd sl k t c0 rfl) ⟨ho, ?_⟩⟩)
    exact ⟨.ref l, H, I, rx2, q0 rfl⟩
  · exact op_repT pins s σ H _ _ v u Q I rx ry ⟨l, k, xs, rfl, rfl, hT, hx, h1, h2, hz, q hx⟩
theorem tuple_mul1 (l : Addr) (items : Array Value) (n : Nat) (dd : Option Addr) (sl : Array (Option Value)) (x : Int) (u : Tok) (c0 : (decide (x < -(2 ^ 63)) || decide (x ≥ 2 ^ 63)) = false) (c1 : (items.isEmpty || x == 1) = true) :
    Meets (Builtin.«tuple.__mul__» ⟨[.ref l, .int x u], []⟩) (fun _ R s => s.heap.get? l = some { cls := .type "tuple", dict := dd, data := .seq items n, slots := sl } ∧
      R (.ok (.ret (Value.ref l))) s) :=
  .of_wp fun prog w A R s h => by
    obtain ⟨hp, g, d, tk, os⟩ := s
    obtain ⟨hl, h⟩ := h
    have f1 := AutoSeq1.idx_int
    wp_walk using wpAny_loadPart' hl
    repeat (first
      | (refine wpAny_ite_false (decide_eq_false (by rw [c0]; exact Bool.false_ne_true)) ?_; wp_walk using wpAny_loadPart' hl)
      | (refine wpAny_ite_true (decide_eq_true c1) ?_; wp_walk using wpAny_loadPart' hl))
    exact ⟨_, rfl, h⟩
/-- t * k, k from 1 on -/
def rRepB (K : PySem.W.Frag) : R2 := fun x y H Q => ∃ l k xs, x = .ref l ∧ y = .int k ∧ SqT K H l xs ∧ 1 ≤ k ∧ k ≤ 1000 ∧ xs.length ≤ 1000 ∧ (xs = [] ∨ k = 1 → Q (.ref l) H) ∧ (xs ≠ [] → k ≠ 1 → ∀ p, H p = none → Q (.ref p) (upd H p (.tup (List.replicate k.toNat xs).flatten)))
theorem op_repB {X : Cx} : OpR X (binaryOp .Mult) (rRepB X.K) := by
  intro pins s σ H x y v u Q I rx ry h
  obtain ⟨l, k, xs, rfl, rfl, hT, h1, h2, hz, q0, q⟩ := h
  by_cases hx : k = 1
  · subst hx
    have rx2 := rx
    cases rx
    obtain ⟨t, rfl⟩ := ry
    obtain ⟨its, r, ⟨⟨cls, dd, data, sl⟩, ho, hc, n, hd⟩, hs⟩ := I.tuple hT
    simp only at hc hd
    subst hc hd
    have c0 : (decide ((1 : Int) < -(2 ^ 63)) || decide ((1 : Int) ≥ 2 ^ 63)) = false := by decide
    refine wpAny_binaryOp_repeat_ref (T := "tuple") (U := "int") (by decide) ⟨_, ho, rfl⟩ (fun s' => typeIs_int s' 1 t) noFill_tuple_mul F.fills_int_mul F.slot_int_rmul repeat_tuple F.slot_int_index.lookup
      (call_meets F.slot_int_rmul (typeIs_int s 1 t) F.entry_int_rmul (F.args_int_rmul_2 _ _) (int_rmul_tuple 1 t l its.toArray n dd sl)
        ⟨ho, rfl, ⟨_, ho, rfl⟩, call_meets F.slot_tuple_mul ⟨_, ho, rfl⟩ F.entry_tuple_mul (F.args_tuple_mul_2 _ _) (tuple_mul1 l its.toArray n dd sl 1 t c0 (by simp)) ⟨ho, ?_⟩⟩)
    exact ⟨.ref l, H, I, rx2, q0 (.inr rfl)⟩
  · exact op_repA pins s σ H _ _ v u Q I rx ry ⟨l, k, xs, rfl, rfl, hT, by omega, h2, hz, fun e => q0 (.inl e), fun e => q e hx⟩
end Ws
/-! ## T45 -/
namespace Ws
open PySem PySem.Spec PyProof.Rows L2
/-! ### several except clauses that name their error, by one name in slot i -/
def wManyB (K : PySem.W.Frag) (i : Nat) (Wout : WX) (D : Ends) : List (Bool × Value × (Addr → Value → Option Addr → TS)) → WX
  | [] => Wout
  | (m, c, ts) :: r => fun cls d σ H => ∃ b, PySem.W.exmOne K cls c = some b ∧ (b = true → ∀ a, H a = none → (if m = true then ts a cls d (suiteEnds D i) (σ.set i (some (.ref a))) H else ts a cls d D σ H)) ∧ (b = false → wManyB K i Wout D r cls d σ H)
inductive HdsB (X : Cx) (n : Str) : List ExceptHandler → List (Bool × Value × (Addr → Value → Option Addr → TS)) → Prop
  | nil : HdsB X n [] []
  | cons {m : Bool} {x : Str} {c : Value} {ts : Addr → Value → Option Addr → TS} {b₀ : Stmt} {suite : List Stmt} {np pos' : Pos} {hds : List ExceptHandler} {l : List (Bool × Value × (Addr → Value → Option Addr → TS))} (hc : Names X x c)
      (hsu : ∀ (a : Addr) (oe : Obj) (cls : Value) (d : Option Addr) (pn : List (Addr × Obj)), Zc cls d oe → (∃ vs, oe.data = .fields vs) → PSs (X.suite a ((a, oe) :: pn)) (b₀ :: suite) (ts a cls d)) (r : HdsB X n hds l) :
      HdsB X n (.ExceptHandler (some (.Name x np)) (if m = true then some n else none) (b₀ :: suite) pos' :: hds) ((m, c, ts) :: l)
section
variable {X : Cx} {n : Str} {i : Nat} {body : List Stmt} {h₀ : ExceptHandler} {hds : List ExceptHandler} {l : List (Bool × Value × (Addr → Value → Option Addr → TS))} {pos : Pos} {tb : WX → TS} {Wout : WX}
theorem ps_try_manyB (hs : X.stack = X.env :: X.outer) (hf : X.env.frame = some X.env.locals) (hN : X.N.Nodup) (hi : X.N[i]? = some n) (hln : X.env.kindOf n = some .local) (tk : Takes X Wout)
    (hb : ∀ (W : WX) (pn : List (Addr × Obj)) (xe : Value → Shared → Prop), Takes (X.tr pn xe) W → PassesOwn (model X.prog X.w) X.A X.env xe → PSs (X.tr pn xe) body (tb W))
    (hh : HdsB X n (h₀ :: hds) l) : PS X (.Try body (h₀ :: hds) [] [] pos) (fun D σ H => tb (wManyB X.K i Wout D l) D σ H) := by
  refine ⟨fun pins s σ H D I h => ?_⟩
  have ok := I.ok
  have hfr : X.A.frames = some (X.env :: X.outer) := by rw [ok.frames, hs]
  have hloc : Loc X.env.scope n := .inl hln
  refine wpAny_Try_except ?_
  refine wpAny_mono ((hb (wManyB X.K i Wout D l) (X.pn ++ pins) (fun e s₁ => wpAny (model X.prog X.w) X.A (noteFrame e X.env) (fun _ s₂ => wpAny (model X.prog X.w) X.A (setFlight e none) (fun _ s₃ =>
    wpAny (model X.prog X.w) X.A (handleBy e X.env (h₀ :: hds)) (SP X pins D) X.xe s₃) X.xe s₂) X.xe s₁) (fun u s' xx => ?_) PassesOwn.looking).run [] s σ H D (I.toTry _) h) (fun f s1 hsp => ?_) (fun e s1 he => he)
  · -- the catch
    obtain ⟨a, B, sI, pins', σ', H', cls, d, rfl, J', nb, up, sky, na, os, ag, w⟩ := xx
    have J : Inv X pins σ' H' sI := J'.ofTry ok
    have sky' : Sky B (X.env :: X.outer) a (Zc cls d) X.env.locals s'.heap := by rw [← hs]; exact sky
    show wpAny (model X.prog X.w) X.A (noteFrame (.ref a) X.env) _ _ _
    refine Sky.land Zc.steady hfr hf sky' fun h3 fl3 up3 => ?_
    have J3 : Inv X pins σ' H' { s' with heap := h3 } := J.landed nb fl3.1 (up.trans up3) os ag
    obtain ⟨oe3, vs3, he3, hz3, hd3⟩ := fl3.there
    have notFr : ∀ {h : Heap} {o : Obj} {vs : Array Value}, h.FunFrames B (X.env :: X.outer) → h.get? a = some o → o.data = .fields vs → a ∉ frs (X.env :: X.outer) := fun {h o vs} ff e dd hm => by
      obtain ⟨_, o', e', hnf⟩ := ff.mem hm
      rw [e] at e'; cases e'
      exact hnf _ dd
    have nfr := notFr fl3.2.2.1 he3 hd3
    have nL : a ≠ X.env.locals := fun z => nfr (List.mem_filterMap.mpr ⟨X.env, List.mem_cons_self, by rw [hf, z]⟩)
    have nF : a ∉ X.fs := fun hm => by
      obtain ⟨e, he, q⟩ := List.mem_filterMap.mp hm
      exact nfr (List.mem_filterMap.mpr ⟨e, List.mem_cons_of_mem _ he, q⟩)
    have S3 := J3.suite he3 hd3 na nL nF
    have go : ∀ {hds' : List ExceptHandler} {l' : List (Bool × Value × (Addr → Value → Option Addr → TS))}, HdsB X n hds' l' → wManyB X.K i Wout D l' cls d σ' H' →
        wpAny (model X.prog X.w) X.A (handleBy (.ref a) X.env hds') (SP X pins D) X.xe { s' with heap := h3 } := by
      intro hds' l' hk
      induction hk with
      | nil =>
        intro w
        refine wpAny_handleBy_nil ?_
        obtain ⟨k1, k2, k3, oe, vs, T, oT, ts', he, hz, hd, h1, hr⟩ := id fl3
        unfold PySem.passOn
        refine wpAny_bind (wpAny_field he hd h1 ?_)
        rw [if_neg (show ¬ ((Value.ref T == Value.none) = true) from by simp)]
        have fin : wpAny (model X.prog X.w) X.A (setFlight (.ref a) X.env.frame) (fun _ s4 => wpAny (model X.prog X.w) X.A (throw (.ref a) : Sem Flow) (SP X pins D) X.xe s4) X.xe { s' with heap := h3 } := by
          rw [hf]
          refine HandSPX.setFlight_upZ fl3 fun h4 hh4 up4 => wpAny_throw (tk _ _ ?_)
          exact ⟨a, B, sI, pins, σ', H', cls, d, rfl, J, nb, (up.trans up3).trans up4, .inr (.inr (by rw [hs]; exact hh4)), na, os, ag, w⟩
        first
          | exact wpAny_bind (wpAny_pure (wpAny_bind fin))
          | exact wpAny_bind fin
      | @cons m x c ts b₀ suite np pos' hds2 l2 hc hsu r ih =>
        intro w
        obtain ⟨b, hb1, hyes, hno⟩ := w
        refine wpAny_handleBy_cons (codeAny_handlers_test ?_) (by intro q; cases q)
        have LT : PySem.W.Looks (model X.prog X.w) h3 (typeOf (.ref a)) cls := fun A Q E s k q => wpAny_typeOf_ref (k _ _ he3) (by rw [hz3.1]; exact q)
        have LM := PySem.W.exm_one (M := model X.prog X.w) (J3.kIn) LT hb1
        have test : ∀ {Q : Value → Shared → Prop} {E : Value → Shared → Prop}, Q c { s' with heap := h3 } → wpAny (model X.prog X.w) (X.A.mark (some (.ref a))) (eval (.Name x np) X.env) Q E { s' with heap := h3 } := fun {Q E} q => by
          obtain ⟨hg, hdbg, hm | ⟨hm, hv, hnn⟩⟩ := hc
          · exact ld_glob (X := X.suite a ((a, oe3) :: (X.pn ++ pins))) S3 hg hm q hdbg
          · exact ld_blt (X := X.suite a ((a, oe3) :: (X.pn ++ pins))) S3 hg hm hv q hnn hdbg
        refine test (LM.here ?_)
        cases b with
        | true =>
          cases m with
          | true =>
            refine codeAny_handlers_suite_as ?_
            refine HandSPX.lands_againZ fl3 fun h4 fl4 up4 => ?_
            have J4 : Inv X pins σ' H' { s' with heap := h4 } := J.landed nb fl4.1 ((up.trans up3).trans up4) os ag
            obtain ⟨oe4, vs4, he4, hz4, hd4⟩ := fl4.there
            have S4 := J4.suite he4 hd4 na nL nF
            refine store_ok (X := X.suite a ((a, oe4) :: (X.pn ++ pins))) (v := .ref a) S4 hN hi hloc rfl (fun s5 S5 => ?_) (.inr hln)
            refine wpAny_mono ((hsu a oe4 cls d (X.pn ++ pins) hz4 ⟨_, hd4⟩).run [] s5 _ H' _ S5 (by have := hyes rfl a na; rwa [if_pos rfl] at this)) (fun f s6 hsp => ?_) (fun _ _ z => False.elim z)
            have end_ : ∀ {σ6 : L2.St} {H6 : Hp} {Q : Shared → Prop}, Inv (X.suite a ((a, oe4) :: (X.pn ++ pins))) [] σ6 H6 s6 → (∀ s7, Inv X pins (σ6.set i none) H6 s7 → Q s7) →
                wpAny (model X.prog X.w) X.A (do bindName X.env n .none; unbindBehindTheSuite X.env n pos') (fun _ s7 => Q s7) X.xe s6 := fun {σ6 H6 Q} S6 hq => gone_ok (S6.unsuite ok) hN hi hln hq
            cases f with
            | next =>
              obtain ⟨σ6, H6, S6, q6⟩ := hsp
              exact end_ S6 fun s7 J7 => ⟨_, _, J7, q6⟩
            | brk =>
              obtain ⟨σ6, H6, S6, q6⟩ := hsp
              exact end_ S6 fun s7 J7 => ⟨_, _, J7, q6⟩
            | cont =>
              obtain ⟨σ6, H6, S6, q6⟩ := hsp
              exact end_ S6 fun s7 J7 => ⟨_, _, J7, q6⟩
            | ret u =>
              obtain ⟨v6, σ6, H6, S6, r6, q6⟩ := hsp
              exact end_ S6 fun s7 J7 => ⟨_, _, _, J7, r6, q6⟩
          | false =>
            refine codeAny_handlers_suite ?_
            refine HandSPX.lands_againZ fl3 fun h4 fl4 up4 => ?_
            have J4 : Inv X pins σ' H' { s' with heap := h4 } := J.landed nb fl4.1 ((up.trans up3).trans up4) os ag
            obtain ⟨oe4, vs4, he4, hz4, hd4⟩ := fl4.there
            have S4 := J4.suite he4 hd4 na nL nF
            refine wpAny_mono ((hsu a oe4 cls d (X.pn ++ pins) hz4 ⟨_, hd4⟩).run [] _ _ H' _ S4 (by have := hyes rfl a na; rwa [if_neg (by decide)] at this)) (fun f s6 hsp => ?_) (fun _ _ z => False.elim z)
            cases f with
            | next =>
              obtain ⟨σ6, H6, S6, q6⟩ := hsp
              exact ⟨_, _, S6.unsuite ok, q6⟩
            | brk =>
              obtain ⟨σ6, H6, S6, q6⟩ := hsp
              exact ⟨_, _, S6.unsuite ok, q6⟩
            | cont =>
              obtain ⟨σ6, H6, S6, q6⟩ := hsp
              exact ⟨_, _, S6.unsuite ok, q6⟩
            | ret u =>
              obtain ⟨v6, σ6, H6, S6, r6, q6⟩ := hsp
              exact ⟨_, _, _, S6.unsuite ok, r6, q6⟩
        | false =>
          show wpAny _ X.A (handleBy (.ref a) X.env hds2) _ _ _
          exact ih (hno rfl)
    exact go hh w
  · cases f with
    | next =>
      obtain ⟨σ', H', J', q⟩ := hsp
      exact wpAny_execs_nil ⟨σ', H', J'.ofTry ok, q⟩
    | brk =>
      obtain ⟨σ', H', J', q⟩ := hsp
      exact ⟨σ', H', J'.ofTry ok, q⟩
    | cont =>
      obtain ⟨σ', H', J', q⟩ := hsp
      exact ⟨σ', H', J'.ofTry ok, q⟩
    | ret u =>
      obtain ⟨v, σ', H', J', r, q⟩ := hsp
      exact ⟨v, σ', H', J'.ofTry ok, r, q⟩
end
end Ws
/-! ## G0 -/
/-! what serves every law: data, errors, the law's state, small data, the end -/
namespace Ws
open PySem PySem.Spec PyProof.Rows L2

/-! ### what kind of data -/
def tyName : PyData → String
  | .none => "NoneType"
  | .bool _ => "bool"
  | .int _ => "int"
  | .str _ => "str"
  | .list _ => "list"
  | .tuple _ => "tuple"
  | .dict _ => "dict"
def isI : PyData → Bool
  | .int _ => true
  | _ => false
def isBo : PyData → Bool
  | .bool _ => true
  | _ => false
def isIB (d : PyData) : Bool := isI d || isBo d
def isT : PyData → Bool
  | .tuple _ => true
  | _ => false
def isBt (d : PyData) (lo hi : Int) : Bool := match d with
  | .int i => decide (lo ≤ i) && decide (i ≤ hi)
  | _ => false
def isTn (d : PyData) (n : Int) : Bool := match d with
  | .tuple xs => decide ((xs.length : Int) = n)
  | _ => false
def areB (d : PyData) (lo hi : Int) : Bool := match d with
  | .tuple xs => xs.all fun x => isBt x lo hi
  | _ => false
section
variable {K : PySem.W.Frag} {H : Hp} {v : V} {d : PyData}
theorem dp_ty (h : Dp K H v d) : TyX K H v (.type (tyName d)) := by
  cases h with
  | non => exact .base .non
  | bl b => exact .base (.bl b)
  | int i => exact .base (.int i)
  | str x => exact .base (.str x)
  | lst hs ha =>
    rcases hs with (hs | ⟨o, hs⟩) | ⟨o, its, n, hk, hc, _⟩
    · exact .base (.lst hs)
    · exact .base (.frz hs)
    · exact .kList hk hc
  | tup hs ha =>
    rcases hs with (hs | ⟨o, hs⟩) | ⟨o, its, n, hk, hc, _⟩
    · exact .base (.tup hs)
    · exact .fTuple hs
    · exact .kTuple hk hc
theorem kit_int : ∀ d : PyData, PySem.W.kitOne K (.type (tyName d)) (.type "int") = some (isIB d)
  | .none => kit_ty (by decide +kernel)
  | .bool _ => kit_ty (by show kitB "bool" "int" = some true; decide +kernel)
  | .int _ => kit_ty (by show kitB "int" "int" = some true; decide +kernel)
  | .str _ => kit_ty (by show kitB "str" "int" = some false; decide +kernel)
  | .list _ => kit_ty (by show kitB "list" "int" = some false; decide +kernel)
  | .tuple _ => kit_ty (by show kitB "tuple" "int" = some false; decide +kernel)
  | .dict _ => kit_ty (by show kitB "dict" "int" = some false; decide +kernel)
theorem kit_bool : ∀ d : PyData, PySem.W.kitOne K (.type (tyName d)) (.type "bool") = some (isBo d)
  | .none => kit_ty (by decide +kernel)
  | .bool _ => kit_ty (by show kitB "bool" "bool" = some true; decide +kernel)
  | .int _ => kit_ty (by show kitB "int" "bool" = some false; decide +kernel)
  | .str _ => kit_ty (by show kitB "str" "bool" = some false; decide +kernel)
  | .list _ => kit_ty (by show kitB "list" "bool" = some false; decide +kernel)
  | .tuple _ => kit_ty (by show kitB "tuple" "bool" = some false; decide +kernel)
  | .dict _ => kit_ty (by show kitB "dict" "bool" = some false; decide +kernel)
theorem kit_tuple : ∀ d : PyData, PySem.W.kitOne K (.type (tyName d)) (.type "tuple") = some (isT d)
  | .none => kit_ty (by decide +kernel)
  | .bool _ => kit_ty (by show kitB "bool" "tuple" = some false; decide +kernel)
  | .int _ => kit_ty (by show kitB "int" "tuple" = some false; decide +kernel)
  | .str _ => kit_ty (by show kitB "str" "tuple" = some false; decide +kernel)
  | .list _ => kit_ty (by show kitB "list" "tuple" = some false; decide +kernel)
  | .tuple _ => kit_ty (by show kitB "tuple" "tuple" = some true; decide +kernel)
  | .dict _ => kit_ty (by show kitB "dict" "tuple" = some false; decide +kernel)
/-- what isinstance(x, int) asks and gives | .. bool | .. tuple -/
theorem isi_int {Q : VK} (h : Dp K H v d) (q : Q (.bl (isIB d)) H) : rIsi K [v, .ty "int"] H Q := ⟨v, _, _, _, _, rfl, .ty _, dp_ty h, kit_int d, q⟩
theorem isi_bool {Q : VK} (h : Dp K H v d) (q : Q (.bl (isBo d)) H) : rIsi K [v, .ty "bool"] H Q := ⟨v, _, _, _, _, rfl, .ty _, dp_ty h, kit_bool d, q⟩
theorem isi_tuple {Q : VK} (h : Dp K H v d) (q : Q (.bl (isT d)) H) : rIsi K [v, .ty "tuple"] H Q := ⟨v, _, _, _, _, rfl, .ty _, dp_ty h, kit_tuple d, q⟩
end

theorem slt {n : Nat} (h : n < 100000) : n < sizeLine := Nat.lt_of_lt_of_le h (by decide)
/-- a comprehension of scalars that changes nothing but its own list -/
theorem lcS {J : It} {n : Nat} {G : Hp → Prop} {Y : Nat → Hp → V → Hp → Prop} (w : Walk J n G Y) {g : TG} {te : TE} {vs : List Nat} {σ : L2.St} {H1 : Hp} {D : Addr} {Qd : Hp → Prop} (hD : H1 D = none) (hn : n < sizeLine) (R : Nat → V → Prop)
    (hG : ∀ H, Same H1 H → G H)
    (hs : ∀ i x H H' (Q : VK), i < n → Same H1 H → Y i H x H' → (∀ y H4, R i y → Same H H4 → Q y H4) → g x (wipe σ vs) H' fun σ2 H2 => wipe σ2 vs = wipe σ vs ∧ te σ2 H2 Q)
    (hd : ∀ H ys, Same H1 H → H D = some (.lst ys) → ys.length = n → (∀ i y, ys[i]? = some y → R i y) → Qd H) :
    ∃ W : Nat → Nat → Hp → Prop, (∃ m, W 0 m (upd H1 D (.lst []))) ∧ ∀ i m H, W i m H →
      (J.stop i H ∧ Qd H) ∨ (J.go i H ∧ ∃ Nx : Hp → Prop, (∀ H', Nx H' → ∃ m', m' < m ∧ W (i + 1) m' H') ∧ ∀ x H', J.yld i H x H' → g x (wipe σ vs) H' fun σ2 H2 => wipe σ2 vs = wipe σ vs ∧ tYes σ2 H2 fun b H3 =>
        if b = true then te σ2 H3 fun y H4 => ∃ acc, H4 D = some (.lst acc) ∧ acc.length < sizeLine ∧ Nx (upd H4 D (.lst (acc ++ [y]))) else Nx H3) := by
  refine lc_it w (fun i H => Same H1 H ∧ ∃ ys, H D = some (.lst ys) ∧ ys.length = i ∧ ∀ j y, ys[j]? = some y → R j y) ⟨Same.new hD, [], upd_same, rfl, fun j y h => by simp at h⟩ (fun i H _ p => hG H p.1) (fun i x H H' hi p y => ?_) (fun H p => ?_)
  · obtain ⟨s, ys, hy, hl, hr⟩ := p
    have q := hs i x H H' (fun y H4 => ∃ acc, H4 D = some (.lst acc) ∧ acc.length < sizeLine ∧ Same H1 (upd H4 D (.lst (acc ++ [y]))) ∧ ∃ ys, (upd H4 D (.lst (acc ++ [y]))) D = some (.lst ys) ∧ ys.length = i + 1 ∧ ∀ j y, ys[j]? = some y → R j y) hi s y (fun v H4 r s4 => ?_)
    · have e : (fun σ2 H2 => wipe σ2 vs = wipe σ vs ∧ tYes σ2 H2 fun b H3 =>
        if b = true then te σ2 H3 fun y H4 => ∃ acc, H4 D = some (.lst acc) ∧ acc.length < sizeLine ∧ Same H1 (upd H4 D (.lst (acc ++ [y]))) ∧ ∃ ys, (upd H4 D (.lst (acc ++ [y]))) D = some (.lst ys) ∧ ys.length = i + 1 ∧ ∀ j y, ys[j]? = some y → R j y
        else Same H1 H3 ∧ ∃ ys, H3 D = some (.lst ys) ∧ ys.length = i + 1 ∧ ∀ j y, ys[j]? = some y → R j y) =
        (fun σ2 H2 => wipe σ2 vs = wipe σ vs ∧ te σ2 H2 fun y H4 => ∃ acc, H4 D = some (.lst acc) ∧ acc.length < sizeLine ∧ Same H1 (upd H4 D (.lst (acc ++ [y]))) ∧ ∃ ys, (upd H4 D (.lst (acc ++ [y]))) D = some (.lst ys) ∧ ys.length = i + 1 ∧ ∀ j y, ys[j]? = some y → R j y) := by
        funext σ2 H2
        simp only [tYes, if_true]
      rw [e]
      exact q
    · refine ⟨ys, s4 _ _ hy, by omega, (Same.trans s s4).mut hD, _, upd_same, by simp [hl], fun j z hz => ?_⟩
      by_cases hj : j < ys.length
      · rw [List.getElem?_append_left hj] at hz
        exact hr j z hz
      · rw [List.getElem?_append_right (by omega)] at hz
        have e : j = i := by
          have := (List.getElem?_eq_some_iff.mp hz).1
          simp at this
          omega
        subst e
        rw [hl, Nat.sub_self] at hz
        simp at hz
        rw [← hz]
        exact r
  · obtain ⟨s, ys, hy, hl, hr⟩ := p
    exact hd H ys s hy hl hr
theorem vals_bl {n : Nat} {ys : List V} {f : Nat → Bool} (hl : ys.length = n) (h : ∀ i y, ys[i]? = some y → y = V.bl (f i)) : ys = ((List.range n).map f).map V.bl := by
  refine List.ext_getElem? fun i => ?_
  by_cases hi : i < n
  · have hi' : i < ys.length := by omega
    have e := h i ys[i] (by simp [hi'])
    simp [hi, hi', e]
  · rw [List.getElem?_eq_none (by omega), List.getElem?_eq_none (by simp; omega)]
theorem vals_int {n : Nat} {ys : List V} {f : Nat → Int} (hl : ys.length = n) (h : ∀ i y, ys[i]? = some y → y = V.int (f i)) : ys = ((List.range n).map f).map V.int := by
  refine List.ext_getElem? fun i => ?_
  by_cases hi : i < n
  · have hi' : i < ys.length := by omega
    have e := h i ys[i] (by simp [hi'])
    simp [hi, hi', e]
  · rw [List.getElem?_eq_none (by omega), List.getElem?_eq_none (by simp; omega)]

def nI (ns : List Nat) : List Int := ns.map fun (n : Nat) => (n : Int)
theorem nI_length (ns : List Nat) : (nI ns).length = ns.length := by simp [nI]
/-- a row as data -/
def rowD (ns : List Nat) : PyData := .tuple ((nI ns).map PyData.int)

/-! ### errors with one field -/
def spErr (C : Addr) (f : Str) : Sp := fun vs H Q _ => ∃ (a : Addr) (y : V), vs = [.ref a, y] ∧ H a = some (exo a C none) ∧ ∀ dx, H dx = none → dx ≠ a → Q .non (upd (upd H dx (exd dx [(f, y)])) a (exo a C (some dx)))
structure ErT (K : PySem.W.Frag) (mg : Str → Option Value) (x f q : Str) (st : Stmt) (C fI : Addr) (fd : FuncData) : Prop where
  oex : OexC K C
  xf : XfC K C
  no : PySem.W.findIn K (.ref C) f = some none
  mgC : mg x = some (.ref C)
  iC : PySem.W.findIn K (.ref C) "__init__" = some (some (.ref fI))
  tI : PySem.W.typeIn K (.ref fI) = some (.type "function")
  fn : Fun K "__init__" q st fI fd
  b : Binds K fd ["self", f] []
structure ErC (P : Program) (w : World) (K : PySem.W.Frag) (mg : Str → Option Value) (base : Heap) (x f : Str) (C : Addr) : Prop where
  ex : ∃ (fI : Addr) (fd : FuncData), PySem.W.findIn K (.ref C) "__init__" = some (some (.ref fI)) ∧ PySem.W.typeIn K (.ref fI) = some (.type "function") ∧ Binds K fd ["self", f] [] ∧ FnOk P w K mg base CX0 1 fI fd ["self", f] (spErr C f)
  oex : OexC K C
  xf : XfC K C
  no : PySem.W.findIn K (.ref C) f = some none
  mgC : mg x = some (.ref C)
/-- raise X(e): what the making of the error asks of its argument's value -/
def rzQ (C : Addr) (f : Str) (W : WX) (σ : L2.St) (y : V) (H1 : Hp) : Prop := ([y] : List V).length ≤ 1000 ∧ ∀ a, H1 a = none → spErr C f (.ref a :: ([y] ++ [])) (upd H1 a (exo a C none))
  (fun v H2 => v = .non ∧ ∃ (d : Addr) (fs : List (Str × V)), H2 a = some (exo a C (some d)) ∧ H2 d = some (exd d fs) ∧ H1 d = none ∧ W (.ref C) (some d) σ (upd (del H2 a) d (.xd fs))) (fun _ _ _ => False)
def tRz (C : Addr) (f : Str) (W : WX) (te : TE) : TS := fun _ σ H => te σ H fun y H1 => rzQ C f W σ y H1
theorem rz_ok {C : Addr} {f : Str} {W : WX} {σ : L2.St} {y : V} {H1 : Hp} (h : ∀ d, H1 d = none → W (.ref C) (some d) σ (upd H1 d (.xd [(f, y)]))) : rzQ C f W σ y H1 := by
  refine ⟨(by show 1 ≤ 1000; omega), fun a ha => ⟨a, y, rfl, upd_same, fun dx hd hne => ⟨rfl, dx, [(f, y)], upd_same, ?_, ?_, ?_⟩⟩⟩
  · rw [upd_ne hne, upd_same]
  · rwa [upd_ne hne] at hd
  · have hd1 : H1 dx = none := by rwa [upd_ne hne] at hd
    have e : upd (del (upd (upd (upd H1 a (exo a C none)) dx (exd dx [(f, y)])) a (exo a C (some dx))) a) dx (.xd [(f, y)]) = upd H1 dx (.xd [(f, y)]) := by
      funext b
      by_cases h1 : b = dx
      · rw [h1, upd_same, upd_same]
      · rw [upd_ne h1, upd_ne h1]
        by_cases h2 : b = a
        · rw [h2, del_same, ha]
        · rw [del_ne h2, upd_ne h2, upd_ne h1, upd_ne h2]
    rw [e]
    exact h dx hd1
theorem ps_rz {X : Cx} {x f : Str} {C : Addr} {W : WX} {e : Expr} {te : TE} {p pos pos' : Pos} (hc : X.calm = true) (T : ErC X.prog X.w X.K X.mg X.base x f C) (hr : Room 2 X.A) (tk : Takes X W) (hg : Gl X x) (he : PE X e te)
    (hdb : (x == ("__debug__" : Str)) = false := by decide) (hse : starEach [e] X.env = (false, eval e X.env) :: starEach [] X.env := by rfl) :
    PS X (.Raise (some (.Call (.Name x p) [e] [] pos)) none pos') (tRz C f W te) := by
  obtain ⟨fI, fd, iC, tI, bI, F⟩ := T.ex
  refine ⟨fun pins s σ H D I h => ?_⟩
  exact (ps_raise hc tk (pmk_oex T.oex iC tI F hr bI .nil pass0 hg T.mgC (pa_cons (hs := hse) he pa_nil) hdb hse (by rfl))).run pins s σ H D I h
section
variable {P : Program} {w : World} {K : PySem.W.Frag} {mg : Str → Option Value} {base : Heap} {C fI : Addr} {fd : FuncData}
theorem ErT.ok {x f q : Str} {st : Stmt} (T : ErT K mg x f q st C fI fd) (S : FnScope ["self", f] ["self", f] (defScope st))
    (hb : ∀ (cdv : Value) (A : Around) (outer : List Env) (s : Shared) (H : Hp) (E : XK), PSs (cxOf CX0 P w K mg base ["self", f] q (defScope st) fI cdv A outer s H E).nox (defBody st) (tOst K f (tVar 0) (tVar 1))) :
    ErC P w K mg base x f C := by
  refine ⟨⟨fI, fd, T.iC, T.tI, T.b, ?_⟩, T.oex, T.xf, T.no, T.mgC⟩
  refine T.fn.ok S (fun vs H Q E h => ?_) (fun cdv A outer s H vs Q E hr h => ?_)
  · obtain ⟨a, y, rfl, _⟩ := h
    rfl
  · obtain ⟨a, y, rfl, ha, k⟩ := h
    exact ⟨_, hb cdv A outer s H E, _, rfl, _, rfl, a, C, rfl, T.oex, T.no, .inl ⟨ha, k⟩⟩
theorem ErT.mk' {h : Heap} {x f q : Str} {st : Stmt} {nm qc : Str} {N : Addr} {bs bm : List Value} {sn : List Str} {sub : List Value} {ab : Bool} {col : Option Bool} {dd : Option Addr} {k0 k1 k2 k3 k5 : Option Value} {oc : Value} {od an : Option Addr} {osl : Array (Option Value)} {kV doc pm cdv ct : Value}
    (X : K.In h) (G : h.Ns mainGlobals mg) (aC : PySem.W.nsIn K mainGlobals x = some (some (.ref C))) (xL : K.lookup C = some (excClassObj nm qc C N bs bm true sn sub ab col dd k0 k1 k2 k3 k5 "ValueError.__new__")) (rv : PySem.HandSPX.refsVE bm = true)
    (sa : PySem.W.findIn K (.ref C) "__setattr__" = some (some (.builtin "object.__setattr__"))) (ga : PySem.W.findIn K (.ref C) "__getattribute__" = some (some (.builtin "BaseException.__getattribute__"))) (gg : PySem.W.findIn K (.ref C) "__getattr__" = some none) (nb : PySem.W.findIn K (.ref C) f = some none)
    (a1 : PySem.W.findIn K (.ref C) "__init__" = some (some (.ref fI))) (t1 : PySem.W.typeIn K (.ref fI) = some (.type "function")) (l1 : K.lookup fI = some ⟨oc, od, .func (PySem.W.fnOf "__init__" q (defArgs st) (defBody st) (defScope st) .none kV doc pm an cdv ct), osl⟩) (c1 : PySem.W.codeIn K cdv q = true) (k1' : PySem.W.keepIn K (.ref fI) = true)
    (kC : PySem.W.keepIn K (.ref C) = true) (eC : PySem.W.subIn K (.ref C) (.type "BaseException") = some true) (tC : PySem.W.typeIn K (.ref C) = some (.type "type")) (hC : PySem.W.hasDictIn K C = true)
    (hb : ∀ (kV doc pm : Value) (an : Option Addr) (cdv ct : Value) (us : List Value), us.length = (["self", f] : List Str).length → bindArgs (PySem.W.fnOf "__init__" q (defArgs st) (defBody st) (defScope st) .none kV doc pm an cdv ct) ⟨us, []⟩ = pure ((["self", f] : List Str).zip us)) :
    ErT K mg x f q st C fI (PySem.W.fnOf "__init__" q (defArgs st) (defBody st) (defScope st) .none kV doc pm an cdv ct) :=
  ⟨⟨⟨nm, qc, N, bs, bm, sn, sub, ab, col, dd, k0, k1, k2, k3, k5, xL, rv⟩, sa, eC, tC, kC⟩, ⟨ga, gg, eC, hC⟩, nb, PySem.W.mg_of X G aC, a1, t1, fun_mk l1 c1 k1', (fun_mk l1 c1 k1').binds hb⟩

end

def itm : PyData → List PyData
  | .tuple xs => xs
  | _ => []
def boOf : PyData → Bool
  | .bool b => b
  | _ => false
def iOf : PyData → Int
  | .int i => i
  | _ => 0

section
variable {K : PySem.W.Frag} {H : Hp}
theorem _root_.L2.DpAll.at_ {xs : List V} {ds : List PyData} (h : DpAll K H xs ds) {i : Nat} (hi : i < ds.length) : ∃ x, xs[i]? = some x ∧ atI xs (i : Int) = some x ∧ Dp K H x (ds.getD i .none) := by
  obtain ⟨x, h1, h2⟩ := DpAll.get h (i := i) (d := ds.getD i .none) (by simp [hi])
  exact ⟨x, h1, atI_nat h1, h2⟩
theorem isTn_tup {d : PyData} {n : Int} (h : isTn d n = true) : ∃ ds, d = .tuple ds ∧ (ds.length : Int) = n := by
  cases d with
  | tuple ds => exact ⟨ds, rfl, by simpa [isTn] using h⟩
  | _ => cases h
end

/-- x is not b -/
def rNotBA : R2 := fun x y H Q => ∃ b : Bool, y = .bl b ∧ Q (.bl (!decide (x = .bl b))) H
theorem op_notBA {X : Cx} : OpR X (compareOp .IsNot) rNotBA := by
  intro pins s σ H x y v u Q I rx ry h
  obtain ⟨b, rfl, q⟩ := h
  cases (show u = Value.bool b from ry)
  have fin : ∀ c, (x = .bl b) = (c = true) → decide (x = .bl b) = c → EP X pins σ Q (.bool (!c)) s := fun c _ e => ⟨.bl (!c), H, I, rfl, by rw [← e]; exact q⟩
  by_cases e : x = .bl b
  · subst e
    cases (show v = Value.bool b from rx)
    exact wpAny_isNot_self rfl ⟨.bl false, H, I, rfl, by simpa using q⟩
  · have e2 : (!decide (x = .bl b)) = true := by simpa using e
    rw [e2] at q
    have go : plainIs v (.bool b) = true ∧ v ≠ .bool b := by
      cases x with
      | non => cases (show v = Value.none from rx); exact ⟨rfl, fun z => by cases z⟩
      | bl c => cases (show v = Value.bool c from rx); exact ⟨rfl, fun z => by cases z; exact e rfl⟩
      | int i => obtain ⟨t, rfl⟩ := rx; exact ⟨rfl, fun z => by cases z⟩
      | str i => obtain ⟨t, rfl⟩ := rx; exact ⟨rfl, fun z => by cases z⟩
      | byt i => obtain ⟨t, rfl⟩ := rx; exact ⟨rfl, fun z => by cases z⟩
      | flt i => obtain ⟨t, rfl⟩ := rx; exact ⟨rfl, fun z => by cases z⟩
      | ref i => cases (show v = Value.ref i from rx); exact ⟨rfl, fun z => by cases z⟩
      | ty i => cases (show v = Value.type i from rx); exact ⟨rfl, fun z => by cases z⟩
    exact wpAny_isNot_other go.1 go.2 ⟨.bl true, H, I, rfl, q⟩

theorem exm_of {K : PySem.W.Frag} {S c : Addr} {b : Bool} (h1 : PySem.W.subIn K (.ref S) (.type "BaseException") = some true) (h2 : PySem.W.isClsIn K S = true) (h3 : PySem.W.typeIn K (.ref S) = some (.type "type")) (h4 : PySem.W.subIn K (.ref c) (.ref S) = some b) :
    PySem.W.exmOne K (.ref c) (.ref S) = some b := by
  have e1 : (PySem.W.subIn K (.ref S) (.type "BaseException") == some true) = true := by rw [h1] <;> rfl
  have e2 : ((PySem.W.clsIn K S).isSome && PySem.W.typeIn K (.ref S) == some (.type "type")) = true := by
    have h2' : (PySem.W.clsIn K S).isSome = true := h2
    rw [h2', h3] <;> rfl
  show (if (PySem.W.subIn K (.ref S) (.type "BaseException") == some true) = true then (if ((PySem.W.clsIn K S).isSome && PySem.W.typeIn K (.ref S) == some (.type "type")) = true then PySem.W.subIn K (.ref c) (.ref S) else none) else none) = some b
  rw [if_pos e1, if_pos e2]
  exact h4

theorem getD_map {α β : Type} (f : α → β) (l : List α) (i : Nat) (d : α) (e : β) (h : i < l.length) : (l.map f).getD i e = f (l.getD i d) := by simp [h]

/-! ### repr of small data -/
structure Sm (N D : Nat) (d : PyData) : Prop where
  sh : d.showable = true
  lv : d.leavesShort 61 = true
  nd : d.hasDict = false
  bk : d.bulk ≤ N
  dp : d.depth ≤ D
structure SmA (N D : Nat) (xs : List PyData) : Prop where
  sh : PyData.showableAll xs = true
  lv : PyData.leavesShortAll 61 xs = true
  nd : PyData.hasDictAll xs = false
  bk : PyData.bulkAll xs ≤ N
  dp : PyData.depthAll xs ≤ D
theorem Sm.none' {N D : Nat} : Sm N D .none := ⟨rfl, rfl, rfl, Nat.zero_le _, Nat.zero_le _⟩
theorem Sm.bl' {N D : Nat} {b : Bool} : Sm N D (.bool b) := ⟨rfl, rfl, rfl, Nat.zero_le _, Nat.zero_le _⟩
theorem log_60 {n : Nat} (h : n < 10 ^ 60) : n.log2 < 1920 := by
  by_cases e : n = 0
  · subst e; decide
  · have : n.log2 < 200 := by
      rw [Nat.log2_lt e]
      exact Nat.lt_of_lt_of_le h (by decide)
    omega
theorem Sm.int' {N D : Nat} {i : Int} (h : i.natAbs < 10 ^ 60) : Sm N D (.int i) := by
  refine ⟨by simp only [PyData.showable, decide_eq_true_eq]; exact log_60 h, ?_, rfl, Nat.zero_le _, Nat.zero_le _⟩
  have e := int_text_length_le10 (k := 60) (by decide) h
  simp only [PyData.leavesShort, decide_eq_true_eq]
  show (Str.ofString (toString i)).length ≤ 61
  rw [PySem.ofString_length]; exact e
theorem SmA.nil' {N D : Nat} : SmA N D [] := ⟨rfl, rfl, rfl, Nat.zero_le _, Nat.zero_le _⟩
theorem SmA.cons' {N n m D : Nat} {x : PyData} {xs : List PyData} (h : Sm n D x) (r : SmA m D xs) (e : n + 1 + m ≤ N) : SmA N D (x :: xs) := by
  refine ⟨by simp only [PyData.showableAll, h.sh, r.sh, Bool.and_self], by simp only [PyData.leavesShortAll, h.lv, r.lv, Bool.and_self], by simp only [PyData.hasDictAll, h.nd, r.nd, Bool.or_self], ?_, ?_⟩
  · have := h.bk
    have := r.bk
    simp only [PyData.bulkAll]
    omega
  · have := h.dp
    have := r.dp
    simp only [PyData.depthAll]
    omega
theorem SmA.of_all {n D : Nat} : ∀ {xs : List PyData}, (∀ x ∈ xs, Sm n D x) → SmA ((n + 1) * xs.length) D xs
  | [], _ => SmA.nil'
  | x :: xs, h => SmA.cons' (h x (List.mem_cons_self ..)) (SmA.of_all fun y hy => h y (List.mem_cons_of_mem _ hy)) (by rw [List.length_cons, Nat.mul_succ]; omega)
theorem SmA.mono {N M D : Nat} {xs : List PyData} (h : SmA N D xs) (e : N ≤ M) : SmA M D xs := ⟨h.sh, h.lv, h.nd, Nat.le_trans h.bk e, h.dp⟩
theorem SmA.tup {N D : Nat} {xs : List PyData} (h : SmA N D xs) : Sm N (D + 1) (.tuple xs) :=
  ⟨by simpa only [PyData.showable] using h.sh, by simpa only [PyData.leavesShort] using h.lv, by simpa only [PyData.hasDict] using h.nd, by simpa only [PyData.bulk] using h.bk, by simp only [PyData.depth]; have := h.dp; omega⟩
theorem Sm.mono {N M D C : Nat} {d : PyData} (h : Sm N D d) (e : N ≤ M) (f : D ≤ C) : Sm M C d := ⟨h.sh, h.lv, h.nd, Nat.le_trans h.bk e, Nat.le_trans h.dp f⟩
theorem Sm.fits {N D : Nat} {d : PyData} (h : Sm N D d) (e : N ≤ 200000) : d.shown.length ≤ sizeLine := by
  have h1 := PyData.shown_le_bulk 61 (by decide) d h.lv
  have h2 := h.bk
  rw [sizeLine_eq]
  omega
theorem Sm.ints {N : Nat} {ns : List Nat} (h : ∀ n ∈ ns, n < 10 ^ 60) (e : ns.length ≤ N) : Sm N 1 (rowD ns) := by
  refine SmA.tup (SmA.mono (SmA.of_all (n := 0) fun x hx => ?_) (by rw [List.length_map, nI_length]; omega))
  obtain ⟨i, hi, rfl⟩ := List.mem_map.mp hx
  obtain ⟨n, hn, rfl⟩ := List.mem_map.mp hi
  exact Sm.int' (by have := h n hn; simpa using this)
def spLike (K : PySem.W.Frag) : Sp := fun vs H Q _ => ∃ (v u : V) (d : PyData) (N D : Nat), vs = [v, u] ∧ Dp K H v d ∧ Dp K H u d ∧ Sm N D d ∧ N ≤ 200000 ∧ D ≤ 60 ∧ Q (.bl true) H

/-! ### the law's state -/
/-- all but the dict at a and the list at l stands as before -/
def Sbt (a l : Addr) (H H' : Hp) : Prop := ∀ b o, H b = some o → b ≠ a → b ≠ l → H' b = some o
theorem Sbt.refl {a l : Addr} (H : Hp) : Sbt a l H H := fun _ _ e _ _ => e
theorem Sbt.trans {a l : Addr} {H H1 H2 : Hp} (h : Sbt a l H H1) (k : Sbt a l H1 H2) : Sbt a l H H2 := fun b o e h1 h2 => k b o (h b o e h1 h2) h1 h2
theorem Sbt.of {a l : Addr} {H H1 : Hp} (h : Same H H1) : Sbt a l H H1 := fun b o e _ _ => h b o e
theorem Sbt.same {a l : Addr} {H H1 H2 : Hp} (h : Sbt a l H H1) (k : Same H1 H2) : Sbt a l H H2 := fun b o e h1 h2 => k b o (h b o e h1 h2)
theorem Sbt.mut {a l p : Addr} {o : HO} {H H1 : Hp} (h : Sbt a l H H1) (n : H p = none) : Sbt a l H (upd H1 p o) := fun b u e h1 h2 => by
  rw [upd_ne (ne_of_none e n)]
  exact h b u e h1 h2
theorem Sbt.a {a l : Addr} {o : HO} {H H1 : Hp} (h : Sbt a l H H1) : Sbt a l H (upd H1 a o) := fun b u e h1 h2 => by
  rw [upd_ne h1]
  exact h b u e h1 h2
theorem Sbt.l {a l : Addr} {o : HO} {H H1 : Hp} (h : Sbt a l H H1) : Sbt a l H (upd H1 l o) := fun b u e h1 h2 => by
  rw [upd_ne h2]
  exact h b u e h1 h2
def stK (c l : Addr) (m : Nat) : List (Key × V) := [(.inr "cells", .ref c), (.inr "lefts", .ref l), (.inr "at", .int m)]
structure LStX (H : Hp) (a l : Addr) (n : Nat) (c : Addr) (cs ls : List Int) (m : Nat) : Prop where
  top : H a = some (.dK (stK c l m))
  cells : H c = some (.lst (cs.map V.int))
  lefts : H l = some (.lst (ls.map V.int))
  len : ls.length = cs.length
  pos : 0 < cs.length
  few : m ≤ n
  apart : c ≠ l
def LSt (H : Hp) (a l c : Addr) (n : Nat) : Prop := ∃ cs ls m, LStX H a l n c cs ls m
theorem LSt.same {H H' : Hp} {a l c : Addr} {n : Nat} (h : LSt H a l c n) (e : Same H H') : LSt H' a l c n := by
  obtain ⟨cs, ls, m, h⟩ := h
  exact ⟨cs, ls, m, e _ _ h.top, e _ _ h.cells, e _ _ h.lefts, h.len, h.pos, h.few, h.apart⟩
theorem LSt.mono {H : Hp} {a l c : Addr} {n k : Nat} (h : LSt H a l c n) (e : n ≤ k) : LSt H a l c k := by
  obtain ⟨cs, ls, m, h⟩ := h
  exact ⟨cs, ls, m, h.top, h.cells, h.lefts, h.len, h.pos, Nat.le_trans h.few e, h.apart⟩
/-- what is not the state's own may change -/
theorem LSt.put {H : Hp} {a l c p : Addr} {n : Nat} {o : HO} (h : LSt H a l c n) (e1 : p ≠ a) (e2 : p ≠ l) (e3 : p ≠ c) : LSt (upd H p o) a l c n := by
  obtain ⟨cs, ls, m, h⟩ := h
  exact ⟨cs, ls, m, by rw [upd_ne (Ne.symm e1)]; exact h.top, by rw [upd_ne (Ne.symm e3)]; exact h.cells, by rw [upd_ne (Ne.symm e2)]; exact h.lefts, h.len, h.pos, h.few, h.apart⟩
/-- what is none of the state's own -/
theorem LSt.off {H : Hp} {a l c p : Addr} {n : Nat} (h : LSt H a l c n) (e : H p = none) : p ≠ a ∧ p ≠ l ∧ p ≠ c := by
  obtain ⟨cs, ls, m, h⟩ := h
  exact ⟨Ne.symm (ne_of_none h.top e), Ne.symm (ne_of_none h.lefts e), Ne.symm (ne_of_none h.cells e)⟩
theorem LSt.new {H : Hp} {a l c p : Addr} {n : Nat} {o : HO} (h : LSt H a l c n) (e : H p = none) : LSt (upd H p o) a l c n := by
  obtain ⟨e1, e2, e3⟩ := h.off e
  exact h.put e1 e2 e3
section
variable {K : PySem.W.Frag}
mutual
def noList : PyData → Bool
  | .list _ => false
  | .tuple xs => noListAll xs
  | .dict _ => false
  | _ => true
def noListAll : List PyData → Bool
  | [] => true
  | x :: xs => noList x && noListAll xs
end
/-- at a stands no tuple -/
structure NoT (H : Hp) (a : Addr) : Prop where
  tup : ∀ xs, H a ≠ some (.tup xs)
  frz : ∀ o u, H a ≠ some (.frz o u)
theorem NoT.lst {H : Hp} {a : Addr} {xs : List V} (h : H a = some (.lst xs)) : NoT H a := ⟨(fun _ z => by rw [h] at z; cases z), (fun _ _ z => by rw [h] at z; cases z)⟩
theorem NoT.dK {H : Hp} {a : Addr} {xs : List (Key × V)} (h : H a = some (.dK xs)) : NoT H a := ⟨(fun _ z => by rw [h] at z; cases z), (fun _ _ z => by rw [h] at z; cases z)⟩
theorem LSt.noA {H : Hp} {a l c : Addr} {n : Nat} (s : LSt H a l c n) : NoT H a := by
  obtain ⟨cs, ls, m, s⟩ := s
  exact .dK s.top
theorem LSt.noL {H : Hp} {a l c : Addr} {n : Nat} (s : LSt H a l c n) : NoT H l := by
  obtain ⟨cs, ls, m, s⟩ := s
  exact .lst s.lefts
theorem seqTN {H H' : Hp} {a l b : Addr} {xs : List V} (e : Sbt a l H H') (na : NoT H a) (nl : NoT H l) (h : SqT K H b xs) : SqT K H' b xs := by
  rcases h with (h | ⟨o, h⟩) | h
  · exact .inl (.inl (e _ _ h (fun z => na.tup xs (by rw [← z]; exact h)) (fun z => nl.tup xs (by rw [← z]; exact h))))
  · exact .inl (.inr ⟨o, e _ _ h (fun z => na.frz _ _ (by rw [← z]; exact h)) (fun z => nl.frz _ _ (by rw [← z]; exact h))⟩)
  · exact .inr h
theorem Sbt.seqT {H H' : Hp} {a l c b : Addr} {n : Nat} {xs : List V} (e : Sbt a l H H') (s : LSt H a l c n) (h : SqT K H b xs) : SqT K H' b xs := seqTN e s.noA s.noL h
mutual
theorem keepN {H H' : Hp} {a l : Addr} (e : Sbt a l H H') (na : NoT H a) (nl : NoT H l) : ∀ (d : PyData) (v : V), noList d = true → Dp K H v d → Dp K H' v d
  | .none, _, _, h => by cases h; exact .non
  | .bool b, _, _, h => by cases h; exact .bl b
  | .int i, _, _, h => by cases h; exact .int i
  | .str x, _, _, h => by cases h; exact .str x
  | .list ds, _, q, h => by cases q
  | .tuple ds, _, q, h => by
    cases h with
    | tup hs ha => exact .tup (seqTN e na nl hs) (keepNs e na nl ds _ (by simpa only [noList] using q) ha)
  | .dict _, _, _, h => by cases h
theorem keepNs {H H' : Hp} {a l : Addr} (e : Sbt a l H H') (na : NoT H a) (nl : NoT H l) : ∀ (ds : List PyData) (vs : List V), noListAll ds = true → DpAll K H vs ds → DpAll K H' vs ds
  | [], _, _, h => by cases h; exact .nil
  | d :: ds, _, q, h => by
    cases h with
    | cons h1 h2 =>
      simp only [noListAll, Bool.and_eq_true] at q
      exact .cons (keepN e na nl d _ q.1 h1) (keepNs e na nl ds _ q.2 h2)
end
theorem keepT {H H' : Hp} {a l c : Addr} {n : Nat} (e : Sbt a l H H') (s : LSt H a l c n) (d : PyData) (v : V) (q : noList d = true) (h : Dp K H v d) : Dp K H' v d := keepN e s.noA s.noL d v q h
theorem keepTs {H H' : Hp} {a l c : Addr} {n : Nat} (e : Sbt a l H H') (s : LSt H a l c n) (ds : List PyData) (vs : List V) (q : noListAll ds = true) (h : DpAll K H vs ds) : DpAll K H' vs ds := keepNs e s.noA s.noL ds vs q h
/-- a list that changes -/
theorem keepLs {H : Hp} {p : Addr} {xs : List V} {o : HO} (hp : H p = some (.lst xs)) {ds : List PyData} {vs : List V} (q : noListAll ds = true) (h : DpAll K H vs ds) : DpAll K (upd H p o) vs ds :=
  keepNs (a := p) (l := p) (Sbt.refl H).a (.lst hp) (.lst hp) ds vs q h
theorem keepL {H : Hp} {p : Addr} {xs : List V} {o : HO} (hp : H p = some (.lst xs)) {d : PyData} {v : V} (q : noList d = true) (h : Dp K H v d) : Dp K (upd H p o) v d :=
  keepN (a := p) (l := p) (Sbt.refl H).a (.lst hp) (.lst hp) d v q h
theorem noListAll_of : ∀ {xs : List PyData}, (∀ x ∈ xs, noList x = true) → noListAll xs = true
  | [], _ => rfl
  | x :: xs, h => by
    simp only [noListAll, Bool.and_eq_true]
    exact ⟨h x (List.mem_cons_self ..), noListAll_of fun y hy => h y (List.mem_cons_of_mem _ hy)⟩
theorem noList_row (ns : List Nat) : noList (rowD ns) = true := by
  simp only [rowD, noList]
  exact noListAll_of fun x hx => by obtain ⟨i, _, rfl⟩ := List.mem_map.mp hx; rfl
theorem noList_rows (rows : List (List Nat)) : noListAll (rows.map rowD) = true := noListAll_of fun x hx => by obtain ⟨r, _, rfl⟩ := List.mem_map.mp hx; exact noList_row r
end
def spMixed : Sp := fun vs H Q _ => ∃ i k : Int, vs = [.int i, .int k] ∧ 0 ≤ k ∧ k ≤ 10000000 ∧ ∀ r : Int, 0 ≤ r → r < 2147483629 → Q (.int r) H
def spDraw : Sp := fun vs H Q _ => ∃ (a l c : Addr) (n : Nat) (lim : Int), vs = [.ref a, .int lim] ∧ LSt H a l c n ∧ n ≤ 1000000 ∧ 1 ≤ lim ∧ lim < 2 ^ 60 ∧ ∀ H' (r : Int), Sbt a l H H' → LSt H' a l c (n + 1) → 0 ≤ r → r < lim → Q (.int r) H'

theorem ks1 : ¬ (("cells" : Str) = "at") := by decide +kernel
theorem ks2 : ¬ (("lefts" : Str) = "at") := by decide +kernel
theorem ks3 : ¬ (("cells" : Str) = "lefts") := by decide +kernel
theorem dg_cells {H : Hp} {a c l : Addr} {m : Nat} (h : H a = some (.dK (stK c l m))) : DGet H a (V.str "cells") (some (.ref c)) := by
  have e : valV (stK c l m) (.inr "cells" : Key) = some (.ref c) := valV_pos rfl
  rw [← e]
  exact DGet.k (k := (Sum.inr ("cells" : Str) : Key)) h
theorem dg_lefts {H : Hp} {a c l : Addr} {m : Nat} (h : H a = some (.dK (stK c l m))) : DGet H a (V.str "lefts") (some (.ref l)) := by
  have e : valV (stK c l m) (.inr "lefts" : Key) = some (.ref l) := by simp [valV, stK, List.find?, ks3]
  rw [← e]
  exact DGet.k (k := (Sum.inr ("lefts" : Str) : Key)) h
theorem dg_at {H : Hp} {a c l : Addr} {m : Nat} (h : H a = some (.dK (stK c l m))) : DGet H a (V.str "at") (some (.int m)) := by
  have e : valV (stK c l m) (.inr "at" : Key) = some (.int m) := by simp [valV, stK, List.find?, ks1, ks2]
  rw [← e]
  exact DGet.k (k := (Sum.inr ("at" : Str) : Key)) h
theorem dp_at {H : Hp} {a c l : Addr} {m : Nat} (h : H a = some (.dK (stK c l m))) : DPut H a (V.str "at") (V.int ((m : Int) + 1)) (upd H a (.dK (stK c l (m + 1)))) := by
  have e : putK (stK c l m) (.inr "at" : Key) (V.int ((m : Int) + 1)) = stK c l (m + 1) := by simp [putK, stK, ks1, ks2]
  rw [← e]
  exact DPut.k (k := (Sum.inr ("at" : Str) : Key)) h (by show 3 < sizeLine; decide)

theorem Sbt.free {a l q : Addr} {H H' : Hp} (e : Sbt a l H H') (h : H' q = none) (na : q ≠ a) (nl : q ≠ l) : H q = none := by
  cases hq : H q with
  | none => rfl
  | some o =>
    have := e q o hq na nl
    rw [h] at this
    cases this
theorem dp_bools {K : PySem.W.Frag} {H : Hp} : ∀ bs : List Bool, DpAll K H (bs.map V.bl) (bs.map PyData.bool)
  | [] => .nil
  | b :: bs => .cons (.bl b) (dp_bools bs)
/-- a comprehension whose elements draw -/
theorem lcD {J : It} {n : Nat} {G : Hp → Prop} {Y : Nat → Hp → V → Hp → Prop} (w : Walk J n G Y) {g : TG} {te : TE} {vs : List Nat} {σ : L2.St} {H1 : Hp} {D : Addr} {Qd : Hp → Prop} {a l c : Addr} {m : Nat} (st : Nat) (hD : H1 D = none) (hn : n < sizeLine) (R : Nat → V → Prop)
    (hl : LSt H1 a l c m) (hG : ∀ H, G H)
    (hs : ∀ i x H H' (Q : VK), i < n → Sbt a l H1 H → LSt H a l c (m + i * st) → Y i H x H' → (∀ y H4, R i y → Sbt a l H H4 → LSt H4 a l c (m + (i + 1) * st) → Q y H4) → g x (wipe σ vs) H' fun σ2 H2 => wipe σ2 vs = wipe σ vs ∧ te σ2 H2 Q)
    (hd : ∀ H ys, Sbt a l H1 H → LSt H a l c (m + n * st) → H D = some (.lst ys) → ys.length = n → (∀ i y, ys[i]? = some y → R i y) → Qd H) :
    ∃ W : Nat → Nat → Hp → Prop, (∃ m, W 0 m (upd H1 D (.lst []))) ∧ ∀ i m H, W i m H →
      (J.stop i H ∧ Qd H) ∨ (J.go i H ∧ ∃ Nx : Hp → Prop, (∀ H', Nx H' → ∃ m', m' < m ∧ W (i + 1) m' H') ∧ ∀ x H', J.yld i H x H' → g x (wipe σ vs) H' fun σ2 H2 => wipe σ2 vs = wipe σ vs ∧ tYes σ2 H2 fun b H3 =>
        if b = true then te σ2 H3 fun y H4 => ∃ acc, H4 D = some (.lst acc) ∧ acc.length < sizeLine ∧ Nx (upd H4 D (.lst (acc ++ [y]))) else Nx H3) := by
  obtain ⟨da, dl, dc⟩ := hl.off hD
  refine lc_it w (fun i H => Sbt a l H1 H ∧ LSt H a l c (m + i * st) ∧ ∃ ys, H D = some (.lst ys) ∧ ys.length = i ∧ ∀ j y, ys[j]? = some y → R j y) ⟨(Sbt.refl H1).mut hD, by rw [Nat.zero_mul]; exact hl.new hD, [], upd_same, rfl, fun j y h => by simp at h⟩ (fun i H _ p => hG H) (fun i x H H' hi p y => ?_) (fun H p => ?_)
  · obtain ⟨s, sl, ys, hy, hlen, hr⟩ := p
    have q := hs i x H H' (fun y H4 => ∃ acc, H4 D = some (.lst acc) ∧ acc.length < sizeLine ∧ Sbt a l H1 (upd H4 D (.lst (acc ++ [y]))) ∧ LSt (upd H4 D (.lst (acc ++ [y]))) a l c (m + (i + 1) * st) ∧ ∃ ys, (upd H4 D (.lst (acc ++ [y]))) D = some (.lst ys) ∧ ys.length = i + 1 ∧ ∀ j y, ys[j]? = some y → R j y) hi s sl y (fun v H4 r s4 sl4 => ?_)
    · have e : (fun σ2 H2 => wipe σ2 vs = wipe σ vs ∧ tYes σ2 H2 fun b H3 =>
        if b = true then te σ2 H3 fun y H4 => ∃ acc, H4 D = some (.lst acc) ∧ acc.length < sizeLine ∧ Sbt a l H1 (upd H4 D (.lst (acc ++ [y]))) ∧ LSt (upd H4 D (.lst (acc ++ [y]))) a l c (m + (i + 1) * st) ∧ ∃ ys, (upd H4 D (.lst (acc ++ [y]))) D = some (.lst ys) ∧ ys.length = i + 1 ∧ ∀ j y, ys[j]? = some y → R j y
        else Sbt a l H1 H3 ∧ LSt H3 a l c (m + (i + 1) * st) ∧ ∃ ys, H3 D = some (.lst ys) ∧ ys.length = i + 1 ∧ ∀ j y, ys[j]? = some y → R j y) =
        (fun σ2 H2 => wipe σ2 vs = wipe σ vs ∧ te σ2 H2 fun y H4 => ∃ acc, H4 D = some (.lst acc) ∧ acc.length < sizeLine ∧ Sbt a l H1 (upd H4 D (.lst (acc ++ [y]))) ∧ LSt (upd H4 D (.lst (acc ++ [y]))) a l c (m + (i + 1) * st) ∧ ∃ ys, (upd H4 D (.lst (acc ++ [y]))) D = some (.lst ys) ∧ ys.length = i + 1 ∧ ∀ j y, ys[j]? = some y → R j y) := by
        funext σ2 H2
        simp only [tYes, if_true]
      rw [e]
      exact q
    · refine ⟨ys, s4 _ _ hy da dl, by omega, (Sbt.trans s s4).mut hD, sl4.put da dl dc, _, upd_same, by simp [hlen], fun j z hz => ?_⟩
      by_cases hj : j < ys.length
      · rw [List.getElem?_append_left hj] at hz
        exact hr j z hz
      · rw [List.getElem?_append_right (by omega)] at hz
        have e : j = i := by
          have := (List.getElem?_eq_some_iff.mp hz).1
          simp at this
          omega
        subst e
        rw [hlen, Nat.sub_self] at hz
        simp at hz
        rw [← hz]
        exact r
  · obtain ⟨s, sl, ys, hy, hlen, hr⟩ := p
    exact hd H ys s sl hy hlen hr
/-- items that are numbers below a bound -/
theorem ints_of {ys : List V} {b : Nat} (h : ∀ (i : Nat) (y : V), ys[i]? = some y → ∃ r : Nat, y = V.int r ∧ r < b) : ∃ cs : List Nat, ys = (nI cs).map V.int ∧ cs.length = ys.length ∧ ∀ c ∈ cs, c < b := by
  induction ys with
  | nil => exact ⟨[], rfl, rfl, fun c hc => absurd hc (by simp)⟩
  | cons y ys ih =>
    obtain ⟨cs, h1, h2, h3⟩ := ih fun i z hz => h (i + 1) z (by simpa using hz)
    obtain ⟨r, h4, h5⟩ := h 0 y rfl
    refine ⟨r :: cs, by rw [h4, h1]; rfl, by simp [h2], fun c hc => ?_⟩
    rcases List.mem_cons.mp hc with e | e
    · rw [e]; exact h5
    · exact h3 c e
theorem bools_of {ys : List V} (h : ∀ (i : Nat) (y : V), ys[i]? = some y → ∃ b : Bool, y = V.bl b) : ∃ bs : List Bool, ys = bs.map V.bl ∧ bs.length = ys.length := by
  induction ys with
  | nil => exact ⟨[], rfl, rfl⟩
  | cons y ys ih =>
    obtain ⟨bs, h1, h2⟩ := ih fun i z hz => h (i + 1) z (by simpa using hz)
    obtain ⟨b, h4⟩ := h 0 y rfl
    exact ⟨b :: bs, by rw [h4, h1]; rfl, by simp [h2]⟩

section
variable {K : PySem.W.Frag} {H : Hp}
theorem cat_ok {a b : Addr} {xs ys : List V} {Q : VK} (h1 : SqT K H a xs) (h2 : SqT K H b ys) (hz : xs.length + ys.length ≤ sizeLine) (q : ∀ r H', Same H H' → SqT K H' r (xs ++ ys) → Q (.ref r) H') : rCatA K (.ref a) (.ref b) H Q := by
  refine ⟨a, b, xs, ys, rfl, rfl, h1, h2, hz, fun e => ?_, fun _ e => ?_, fun _ _ p hp => q p _ (Same.new hp) (.of upd_same)⟩
  · subst e
    exact q b H (Same.refl _) h2
  · subst e
    exact q a H (Same.refl _) (by rw [List.append_nil]; exact h1)
theorem sl_ok {a : Addr} {xs : List V} {lo hi : Option Int} {Q : VK} (h1 : SqT K H a xs) (q : ∀ r H', Same H H' → SqT K H' r (cutV xs lo hi) → Q (.ref r) H') : rSlA K (.ref a) lo hi H Q := by
  refine ⟨a, xs, rfl, h1, fun e => q a H (Same.refl _) ?_, fun _ p hp => q p _ (Same.new hp) (.of upd_same)⟩
  have : cutV xs lo hi = xs := by
    unfold cutV
    rw [e.1, e.2]
    simp
  rw [this]
  exact h1
theorem DpAll_cut {xs : List V} {ds : List PyData} (h : DpAll K H xs ds) (lo hi : Option Int) : ∃ es, DpAll K H (cutV xs lo hi) es ∧ (∀ d ∈ es, d ∈ ds) :=
  ⟨_, (h.drop _).take _, fun d hd => List.mem_of_mem_drop (List.mem_of_mem_take hd)⟩
end
theorem _root_.L2.SqT.to' {K : PySem.W.Frag} {H H' : Hp} {a : Addr} {xs : List V} (h : SqT K H a xs) (e : Same H H') : SqT K H' a xs := e.seqT h
/-! ### data that stays while the state, the lists of H0 change -/
def IsT (o : HO) : Prop := (∃ xs, o = .tup xs) ∨ ∃ ob u, o = .frz ob u
def Kp (H0 H H' : Hp) : Prop := ∀ b o, H b = some o → (H0 b = none ∨ IsT o) → H' b = some o
theorem Kp.refl {H0 H : Hp} : Kp H0 H H := fun _ _ e _ => e
theorem Kp.trans {H0 H H1 H2 : Hp} (h : Kp H0 H H1) (k : Kp H0 H1 H2) : Kp H0 H H2 := fun b o e c => k b o (h b o e c) c
theorem Kp.same {H0 H H1 : Hp} (h : Same H H1) : Kp H0 H H1 := fun b o e _ => h b o e
theorem Kp.sbt {H0 H H1 : Hp} {a l c : Addr} {n : Nat} (h : Sbt a l H H1) (s : LSt H a l c n) (ha : H0 a ≠ none) (hl : H0 l ≠ none) : Kp H0 H H1 := fun b o e k => by
  have nt : ∀ {x : Addr}, NoT H x → H0 x ≠ none → b ≠ x := fun {x} hn h0 z => by
    subst z
    rcases k with k | ⟨xs, k⟩ | ⟨ob, u, k⟩
    · exact h0 k
    · exact hn.tup xs (by rw [e, k])
    · exact hn.frz ob u (by rw [e, k])
  exact h b o e (nt s.noA ha) (nt s.noL hl)
theorem Kp.put {H0 H : Hp} {p : Addr} {xs : List V} {o : HO} (hp : H p = some (.lst xs)) (h0 : H0 p ≠ none) : Kp H0 H (upd H p o) := fun b u e k => by
  have : b ≠ p := fun z => by
    subst z
    rcases k with k | ⟨ys, k⟩ | ⟨ob, w, k⟩
    · exact h0 k
    · rw [hp] at e; cases e; cases k
    · rw [hp] at e; cases e; cases k
  rw [upd_ne this]
  exact e
def DpN (H0 : Hp) (K : PySem.W.Frag) (H : Hp) (v : V) (d : PyData) : Prop := ∀ H', Kp H0 H H' → Dp K H' v d
theorem DpN.dp {H0 H : Hp} {K : PySem.W.Frag} {v : V} {d : PyData} (h : DpN H0 K H v d) : Dp K H v d := h H .refl
theorem DpN.step {H0 H H' : Hp} {K : PySem.W.Frag} {v : V} {d : PyData} (h : DpN H0 K H v d) (e : Kp H0 H H') : DpN H0 K H' v d := fun H2 k => h H2 (e.trans k)
theorem DpN.base {H0 H1 H : Hp} {K : PySem.W.Frag} {v : V} {d : PyData} (h : DpN H1 K H v d) (e : ∀ b, H1 b = none → H0 b = none) : DpN H0 K H v d := fun H2 k => h H2 fun b o x y => k b o x (y.imp (e b) id)
theorem seqTK {H0 H H' : Hp} {K : PySem.W.Frag} {b : Addr} {xs : List V} (e : Kp H0 H H') (h : SqT K H b xs) : SqT K H' b xs := by
  rcases h with (h | ⟨o, h⟩) | h
  · exact .inl (.inl (e _ _ h (.inr (.inl ⟨_, rfl⟩))))
  · exact .inl (.inr ⟨o, e _ _ h (.inr (.inr ⟨_, _, rfl⟩))⟩)
  · exact .inr h
mutual
theorem DpN.flat {H0 H : Hp} {K : PySem.W.Frag} : ∀ (d : PyData) (v : V), noList d = true → Dp K H v d → DpN H0 K H v d
  | .none, _, _, h => by cases h; exact fun _ _ => .non
  | .bool b, _, _, h => by cases h; exact fun _ _ => .bl b
  | .int i, _, _, h => by cases h; exact fun _ _ => .int i
  | .str x, _, _, h => by cases h; exact fun _ _ => .str x
  | .list ds, _, q, h => by cases q
  | .tuple ds, _, q, h => by
    cases h with
    | tup hs ha => exact fun H' e => .tup (seqTK e hs) (DpN.flats ds _ (by simpa only [noList] using q) ha H' e)
  | .dict _, _, _, h => by cases h
theorem DpN.flats {H0 H : Hp} {K : PySem.W.Frag} : ∀ (ds : List PyData) (vs : List V), noListAll ds = true → DpAll K H vs ds → ∀ H', Kp H0 H H' → DpAll K H' vs ds
  | [], _, _, h, _, _ => by cases h; exact .nil
  | d :: ds, _, q, h, H', e => by
    cases h with
    | cons h1 h2 =>
      simp only [noListAll, Bool.and_eq_true] at q
      exact .cons (DpN.flat d _ q.1 h1 H' e) (DpN.flats ds _ q.2 h2 H' e)
end

def spBegin (K : PySem.W.Frag) : Sp := fun vs H Q _ => ∃ (p : Addr) (is : List Int), vs = [.ref p] ∧ SqL K H p (is.map V.int) ∧ is.length ≤ 1000 ∧ ∀ H' a l c, Same H H' → LSt H' a l c 0 → Q (.ref a) H'

theorem _root_.L2.SqT.cast {K : PySem.W.Frag} {H : Hp} {a : Addr} {xs ys : List V} (h : SqT K H a xs) (e : xs = ys) : SqT K H a ys := by rw [← e]; exact h

theorem canLay_ints : ∀ is : List Int, PyData.canLayAll0 (is.map PyData.int) = true
  | [] => rfl
  | i :: is => by
    simp only [List.map_cons, PyData.canLayAll0, PyData.canLay0, Bool.true_and]
    exact canLay_ints is
theorem shaped_ints (is : List Int) : SeqAt.shaped (.list (is.map PyData.int)) = true := by
  unfold SeqAt.shaped
  simp only [PyData.canLay0, canLay_ints, PyData.depth, depth_ints, Bool.true_and]
  rfl
theorem ints_any {ys : List V} (h : ∀ (i : Nat) (y : V), ys[i]? = some y → ∃ z : Int, y = .int z) : ∃ zs : List Int, ys = zs.map V.int ∧ zs.length = ys.length := by
  induction ys with
  | nil => exact ⟨[], rfl, rfl⟩
  | cons y ys ih =>
    obtain ⟨zs, h1, h2⟩ := ih fun i z hz => h (i + 1) z (by simpa using hz)
    obtain ⟨b, h4⟩ := h 0 y rfl
    exact ⟨b :: zs, by rw [h4, h1]; rfl, by simp [h2]⟩

/-! ### the end -/
theorem lawCallG {P : Program} {w : World} {K : PySem.W.Frag} {mg mb : Str → Option Value} {k : Nat} {fa a : Addr} {fd : FuncData} {x : Str} {sp : Sp} {s₁ : Shared} {vs : List Value} {ns : List Int}
    (KX : K.In s₁.heap) (hns : s₁.heap.Ns mainGlobals mg) (hb : s₁.heap.Ns builtinsNs mb) (hbb : ∀ y : Str, y ≠ "__name__" → mb y = bootBuiltins y) (hlim : s₁.heap.NoLimit) (hg : s₁.gens = #[])
    (ha : s₁.heap.get? a = some { cls := .type "list", data := .seq vs.toArray }) (hi : IntsAre vs ns) (hl : ns.length ≤ sizeLine) (hr : Room k callerA)
    (F : ∀ base : Heap, K.In base → base.Ns mainGlobals mg → FnOkG P w K mg base CX0 k fa fd [x] sp) (hbind : ∀ (s : Shared) (u : Value), BindsTo s fd ⟨[u], []⟩ [(x, u)])
    (hsp : ∀ H : Hp, Only H → SqL K H a (ns.map V.int) → sp [.ref a] H (fun v _ => v = .bl true) fun _ _ _ => False) :
    codeAny (model P w) callerA (.call (.ref fa) ⟨[.ref a], []⟩) (fun r s' => r = .ok (.ret (.bool true)) ∧ PySem.OldK s₁.heap s'.heap ∧ s'.os = s₁.os ∧ AllBare s'.gens) s₁ := by
  have rv := vals_ints hi
  have lv := hi.length
  have main : ∀ T : Hp, Only T → SqL K T a (ns.map V.int) → HOk P w T s₁.heap → (∀ b, T b ≠ none → b = a) → (T a ≠ none → K.lookup a = none) →
      codeAny (model P w) callerA (.call (.ref fa) ⟨[.ref a], []⟩) (fun r s' => r = .ok (.ret (.bool true)) ∧ PySem.OldK s₁.heap s'.heap ∧ s'.os = s₁.os ∧ AllBare s'.gens) s₁ := fun T tO tS tk tA tK => by
    have at_a : ∀ {b : Addr} {u : HO}, T b = some u → b = a := fun {b u} z => tA b (by rw [z]; exact fun y => nomatch y)
    have dict0 : ∀ {b : Addr} {o : Obj} {es : Array DictEntry} {ep : Nat}, s₁.heap.get? b = some o → o.data = .dict es ep → T b = none := fun {b o es ep} z d => by
      cases t : T b with
      | none => rfl
      | some u =>
        obtain rfl := at_a t
        have z2 := ha.symm.trans z
        cases z2
        exact nomatch d
    have dicts : ∀ {b : Addr} {m : Str → Option Value}, s₁.heap.Ns b m → (hidT s₁.heap T).Ns b m := fun {b m} z =>
      let ⟨o, es, ep, g1, g2, g3⟩ := z
      ⟨o, es, ep, hidT_get g1 (dict0 g1 g2), g2, g3⟩
    have kin : K.In (hidT s₁.heap T) := fun b o z => hidT_get (KX b o z) (by
      cases t : T b with
      | none => rfl
      | some u =>
        obtain rfl := at_a t
        have no := tK (fun y => by rw [t] at y; exact nomatch y)
        rw [no] at z
        exact nomatch z)
    obtain ⟨mc, lim1, lim2⟩ := hlim
    have mods : Mod K mg (hidT s₁.heap T) := ⟨kin, dicts hns, ⟨mb, dicts hb, hbb⟩, ⟨mc, dicts lim1, lim2⟩⟩
    have nil : ∀ {b : Addr}, b ∈ frs ([] : List Env) → False := fun {b} z => by cases z
    have env : Env0 P w K mg (hidT s₁.heap T) callerA [] s₁ T := ⟨rfl, mods, fun b o z => of_hidT z, Nat.le_of_eq (hidT_size ..), trivial, fun b z => (nil z).elim, tk, .of_eq hg⟩
    refine codeAny_mono ((F _ kin (dicts hns)).run _ [] s₁ T ⟨[.ref a], []⟩ [.ref a] [.ref a] _ _ rfl hr env (hbind _ _) (.cons rfl .nil) (hsp T tO tS)) fun r s' z => ?_
    cases r with
    | error e => exact False.elim z
    | ok fl =>
      cases fl with
      | ret u =>
        obtain ⟨v, H2, z1, z2, un, z4, z5, z6⟩ := z
        obtain rfl : v = .bl true := z6
        refine ⟨by rw [show u = Value.bool true from z5], PySem.OldK.of_keep fun b o g => ?_, z1, z2⟩
        rcases tO b with t | ⟨ob, xs, t⟩
        · exact un.keep b o g t (fun y => nil y) (fun y => nomatch y)
        · have g1 := (tk b _ t).1
          have g2 := (z4 b _ (un.frzs b ob _ t)).1
          rw [g1] at g
          cases g
          exact g2
      | next => exact False.elim z
      | brk => exact False.elim z
      | cont => exact False.elim z
  cases own : K.lookup a with
  | some o =>
    obtain rfl : o = { cls := .type "list", data := .seq vs.toArray } := Option.some.inj ((KX a o own).symm.trans ha)
    exact main (fun _ => none) (fun _ => .inl rfl) (.inr ⟨_, _, _, own, rfl, rfl, rfl, by simp only [List.size_toArray]; omega, by simpa using rv⟩) (fun b u z => nomatch z) (fun b z => (z rfl).elim) fun z => (z rfl).elim
  | none =>
    have hit : ∀ {b : Addr} {u : HO}, (if b = a then some (HO.frz { cls := .type "list", data := .seq vs.toArray } (.lst (ns.map V.int))) else none) = some u → b = a ∧ u = .frz { cls := .type "list", data := .seq vs.toArray } (.lst (ns.map V.int)) := fun {b u} z => by
      by_cases c : b = a
      · rw [if_pos c] at z
        exact ⟨c, (Option.some.inj z).symm⟩
      · rw [if_neg c] at z
        exact nomatch z
    refine main (fun b => if b = a then some (.frz { cls := .type "list", data := .seq vs.toArray } (.lst (ns.map V.int))) else none) (fun b => ?_) (.inl (.inr ⟨_, if_pos rfl⟩)) (fun b u z => ?_) (fun b z => ?_) fun _ => own
    · by_cases c : b = a
      · exact .inr ⟨_, _, if_pos c⟩
      · exact .inl (if_neg c)
    · obtain ⟨rfl, rfl⟩ := hit z
      exact ⟨ha, by simpa using hl, vs, _, rv, ha⟩
    · by_cases c : b = a
      · exact c
      · exact (z (if_neg c)).elim
/-- the goal that the head leaves, from the promise of the law's def; the loose values are told by XP -/
theorem walkG {l : PySem.W.OpenLaw} {n k : Nat} {q : Program} {loose : List Str} {XP : (Str → Option Value) → Heap → Prop} {YP : World → Heap → Prop} {d : DefRec} {K : Params → PySem.W.Frag} {sp : PySem.W.Frag → Sp} {x : Str}
    (hn : l.most = some n) (hn2 : n ≤ sizeLine) (hdf : d.params.defaults = []) (hr : Room k callerA) (hY : ∀ (w : World) (h : Heap), YP w h → (K w.params).In h)
    (F : ∀ (w : World) (mg : Str → Option Value) (fa : Addr) (h : Heap), (K w.params).In h → h.Ns mainGlobals mg → XP mg h → mg d.name = some (.ref fa) →
      ∃ fd : FuncData, (∀ (s : Shared) (u : Value), BindsTo s fd ⟨[u], []⟩ [(x, u)]) ∧ ∀ base : Heap, FnOkG l.prog w (K w.params) mg base CX0 k fa fd [x] (sp (K w.params)))
    (hsp : ∀ (K : PySem.W.Frag) (H : Hp) (a : Addr) (ns : List Int), ns.length ≤ n → Only H → SqL K H a (ns.map V.int) → sp K [.ref a] H (fun v _ => v = .bl true) fun _ _ _ => False) :
    PySem.W.WalkO q loose XP YP l.row.toRowW d [] (fun f vs => PySem.call f vs) := by
  refine Att.attach_call hn hdf fun w s₀ s₁ mg mb fa o pm cd doc a vs ns G Y ho hd hcd hmg hobj hints hlen hg => ?_
  have KX := hY w _ Y
  obtain ⟨fd, hb, hF⟩ := F w mg fa _ KX G.T.g G.X hmg
  exact lawCallG KX G.T.g G.T.b G.T.builtins G.T.nolimit hg hobj hints (Nat.le_trans hlen hn2) hr (fun base _ _ => hF base) hb fun H hO hS => hsp _ H a ns hlen hO hS

end Ws
/-! ## G1 -/
namespace Ws
open PySem PySem.Spec PyProof.Rows L2
/-- what the list ys holds: for the kept places of 0 .. n - 1, in their order, an item each -/
structure Got (R : Nat → V → Hp → Prop) (keep : Nat → Bool) (n : Nat) (H : Hp) (ys : List V) : Prop where
  len : ys.length = ((List.range n).filter keep).length
  at_ : ∀ (j i : Nat) (y : V), ys[j]? = some y → ((List.range n).filter keep)[j]? = some i → R i y H
theorem Got.skip {R : Nat → V → Hp → Prop} {keep : Nat → Bool} {n : Nat} {H : Hp} {ys : List V} (h : Got R keep n H ys) (k : keep n = false) : Got R keep (n + 1) H ys := by
  have e : (List.range (n + 1)).filter keep = (List.range n).filter keep := by
    rw [List.range_succ, List.filter_append]
    simp [k]
  exact ⟨by rw [e]; exact h.len, fun j i y h1 h2 => h.at_ j i y h1 (by rw [← e]; exact h2)⟩
theorem Got.add {R : Nat → V → Hp → Prop} {keep : Nat → Bool} {n : Nat} {H : Hp} {ys : List V} {y : V} (h : Got R keep n H ys) (k : keep n = true) (r : R n y H) : Got R keep (n + 1) H (ys ++ [y]) := by
  have e : (List.range (n + 1)).filter keep = (List.range n).filter keep ++ [n] := by
    rw [List.range_succ, List.filter_append]
    simp [k]
  refine ⟨by rw [e, List.length_append, List.length_append, h.len]; rfl, fun j i z h1 h2 => ?_⟩
  rw [e] at h2
  by_cases hj : j < ys.length
  · rw [List.getElem?_append_left hj] at h1
    rw [List.getElem?_append_left (by rw [← h.len]; exact hj)] at h2
    exact h.at_ j i z h1 h2
  · rw [List.getElem?_append_right (by omega)] at h1
    rw [List.getElem?_append_right (by rw [← h.len]; omega), ← h.len] at h2
    have e0 : j - ys.length = 0 := by
      have := (List.getElem?_eq_some_iff.mp h1).1
      simpa using this
    rw [e0] at h1 h2
    have e1 : y = z := by simpa using h1
    have e2 : n = i := by simpa using h2
    rw [← e1, ← e2]
    exact r
theorem Got.map {R R' : Nat → V → Hp → Prop} {keep : Nat → Bool} {n : Nat} {H H' : Hp} {ys : List V} (h : Got R keep n H ys) (f : ∀ i y, R i y H → R' i y H') : Got R' keep n H' ys := ⟨h.len, fun j i y h1 h2 => f i y (h.at_ j i y h1 h2)⟩
/-- a comprehension with a test, whose items may be new objects -/
theorem lcF {J : It} {n : Nat} {G : Hp → Prop} {Y : Nat → Hp → V → Hp → Prop} (w : Walk J n G Y) {g : TG} {tt : TT} {te : TE} {vs : List Nat} {σ : L2.St} {H1 : Hp} {D : Addr} {Qd : Hp → Prop} (hD : H1 D = none) (hn : n < sizeLine) (keep : Nat → Bool) (R : Nat → V → Hp → Prop)
    (hR : ∀ i y H H', Sbt D D H H' → NoT H D → R i y H → R i y H') (hG : ∀ H, Same H1 H → G H)
    (hs : ∀ i x H H' (Q1 : VK) (Q0 : Hp → Prop), i < n → Same H1 H → Y i H x H' → (keep i = true → ∀ y H4, R i y H4 → Same H H4 → Q1 y H4) → (keep i = false → ∀ H4, Same H H4 → Q0 H4) →
      g x (wipe σ vs) H' fun σ2 H2 => wipe σ2 vs = wipe σ vs ∧ tt σ2 H2 fun b H3 => if b = true then te σ2 H3 Q1 else Q0 H3)
    (hd : ∀ H ys, Same H1 H → H D = some (.lst ys) → Got R keep n H ys → Qd H) :
    ∃ W : Nat → Nat → Hp → Prop, (∃ m, W 0 m (upd H1 D (.lst []))) ∧ ∀ i m H, W i m H →
      (J.stop i H ∧ Qd H) ∨ (J.go i H ∧ ∃ Nx : Hp → Prop, (∀ H', Nx H' → ∃ m', m' < m ∧ W (i + 1) m' H') ∧ ∀ x H', J.yld i H x H' → g x (wipe σ vs) H' fun σ2 H2 => wipe σ2 vs = wipe σ vs ∧ tt σ2 H2 fun b H3 =>
        if b = true then te σ2 H3 fun y H4 => ∃ acc, H4 D = some (.lst acc) ∧ acc.length < sizeLine ∧ Nx (upd H4 D (.lst (acc ++ [y]))) else Nx H3) := by
  have short : ∀ i, ((List.range i).filter keep).length ≤ i := fun i => by
    have := List.length_filter_le keep (List.range i)
    simpa using this
  refine lc_it w (fun i H => Same H1 H ∧ ∃ ys, H D = some (.lst ys) ∧ Got R keep i H ys) ⟨Same.new hD, [], upd_same, rfl, fun j i y h _ => by simp at h⟩ (fun i H _ p => hG H p.1) (fun i x H H' hi p y => ?_) (fun H p => ?_)
  · obtain ⟨s, ys, hy, hg⟩ := p
    refine hs i x H H' _ _ hi s y (fun k z H4 r s4 => ?_) (fun k H4 s4 => ?_)
    · have hy4 := s4 _ _ hy
      have no : NoT H4 D := .lst hy4
      have sb : Sbt D D H4 (upd H4 D (.lst (ys ++ [z]))) := (Sbt.refl H4).a
      have sb0 : Sbt D D H (upd H4 D (.lst (ys ++ [z]))) := (Sbt.of s4).trans sb
      exact ⟨ys, hy4, by have := short i; rw [hg.len]; omega, (Same.trans s s4).mut hD, _, upd_same, (hg.map fun i y q => hR i y _ _ sb0 (.lst hy) q).add k (hR i z _ _ sb no r)⟩
    · exact ⟨Same.trans s s4, ys, s4 _ _ hy, (hg.map fun i y q => hR i y _ _ (Sbt.of s4) (.lst hy) q).skip k⟩
  · obtain ⟨s, ys, hy, hg⟩ := p
    exact hd H ys s hy hg
theorem dpAll_of {K : PySem.W.Frag} {H : Hp} : ∀ {ys : List V} {ds : List PyData}, ys.length = ds.length → (∀ (j : Nat) (y : V) (d : PyData), ys[j]? = some y → ds[j]? = some d → Dp K H y d) → DpAll K H ys ds
  | [], [], _, _ => .nil
  | [], _ :: _, h, _ => by simp at h
  | _ :: _, [], h, _ => by simp at h
  | y :: ys, d :: ds, h, k => .cons (k 0 y d rfl rfl) (dpAll_of (by simpa using h) fun j z e h1 h2 => k (j + 1) z e (by simpa using h1) (by simpa using h2))
theorem Got.dp {K : PySem.W.Frag} {R : Nat → V → Hp → Prop} {keep : Nat → Bool} {n : Nat} {H : Hp} {ys : List V} (h : Got R keep n H ys) (f : Nat → PyData) (k : ∀ i y, R i y H → Dp K H y (f i)) : DpAll K H ys (((List.range n).filter keep).map f) := by
  refine dpAll_of (by rw [h.len, List.length_map]) fun j y d h1 h2 => ?_
  rw [List.getElem?_map] at h2
  cases e : ((List.range n).filter keep)[j]? with
  | none => rw [e] at h2; cases h2
  | some i =>
    rw [e] at h2
    cases h2
    exact k i y (h.at_ j i y h1 e)
theorem Got.vals {R : Nat → V → Hp → Prop} {keep : Nat → Bool} {n : Nat} {H : Hp} {ys : List V} (h : Got R keep n H ys) (f : Nat → V) (k : ∀ i y, R i y H → y = f i) : ys = ((List.range n).filter keep).map f := by
  refine List.ext_getElem? fun j => ?_
  rw [List.getElem?_map]
  cases e : ((List.range n).filter keep)[j]? with
  | none =>
    rw [List.getElem?_eq_none_iff] at e
    rw [List.getElem?_eq_none (by rw [h.len]; exact e)]
    rfl
  | some i =>
    have hj : j < ys.length := by
      rw [h.len]
      exact (List.getElem?_eq_some_iff.mp e).1
    rw [List.getElem?_eq_getElem hj]
    have := k i ys[j] (h.at_ j i _ (List.getElem?_eq_getElem hj) e)
    rw [this]
    rfl
/-- a list by its places -/
theorem filter_get {α : Type} (l : List α) (d : α) (q : α → Bool) : ((List.range l.length).filter fun i => q (l.getD i d)).map (fun i => l.getD i d) = l.filter q := by
  have h : ∀ (l : List α), (List.range l.length).map (fun i => l.getD i d) = l := fun l => by
    refine List.ext_getElem (by simp) fun i h1 h2 => ?_
    simp [h2]
  have e := congrArg (List.filter q) (h l)
  rw [List.filter_map] at e
  exact e
theorem by_places {α β : Type} (l : List α) (d : α) (f : α → β) : (List.range l.length).map (fun i => f (l.getD i d)) = l.map f := by
  refine List.ext_getElem (by simp) fun i h1 h2 => ?_
  have : i < l.length := by simpa using h1
  simp [this]
theorem all_kept (n : Nat) : (List.range n).filter (fun _ => true) = List.range n := List.filter_eq_self.mpr fun _ _ => rfl
theorem atI_getD {ns : List Int} {j : Nat} (h : j < ns.length) : atI (ns.map V.int) (j : Int) = some (.int (ns.getD j 0)) := atI_nat (by simp [h])
end Ws
/-! ## G2 -/
namespace Ws
open PySem PySem.Spec PyProof.Rows L2 LamX
local macro_rules | `(tactic| walk_at "nf") => `(tactic| dsimp only [tNext, tSeq, tDrop, tRet, tRetN, tIfS, tAsg, gName, gTup, gCons, gNil, tVar, tC, tOp, tUn, rI, rI0, rU, rEq, rNe, tTest, tChain, tAnd, tOr, tNot, tAndV, tOrV, tNotV, tIf, tCB, tCKw, tCons, tNil, tTup, tLst, tCa, tCallS, tB, rIxT, rIxL, rIxS, cxOf, Cx.nox, Cx.wish, Cx.blk, L2.start, tPar, tPar3, tNever, tYes, tBits, tRz, tBM, rAppend, tyV, tXf, suiteEnds, gSub, rSetL, tBreak, rMax, tDGet, sDPut, tSl, tNoPart, tPart, tDisp, tPairs, tDGet2, tDNewK])
local macro_rules | `(tactic| walk_at "sx") => `(tactic| simp only [wipe, List.cons.injEq, and_assoc, exists_and_left, and_true, List.map_cons, List.map_nil, List.length_cons, List.length_nil, List.cons_append, List.nil_append, List.append_nil, Nat.reduceAdd, Nat.reduceSub, List.replicate, List.getElem?_cons_zero, List.getElem?_cons_succ, List.set_cons_zero, List.set_cons_succ, Option.some.injEq, V.int.injEq, V.bl.injEq, V.ref.injEq, V.str.injEq, exists_eq_left', exists_eq_left, true_and, Bool.true_eq_false, Bool.false_eq_true, if_true, if_false])

/-! ### a def that makes lambdas; what stays while tables grow -/
structure DtC (K : PySem.W.Frag) (mg : Str → Option Value) (x : Str) (st : Stmt) (ps : List Str) (c : Addr) : Prop where
  ex : ∃ (f : Addr) (oc : Value) (od : Option Addr) (kV doc pm : Value) (an : Option Addr) (ct : Value) (osl : Array (Option Value)), K.lookup f = some ⟨oc, od, .func (PySem.W.fnOf x x (defArgs st) (defBody st) (defScope st) .none kV doc pm an (.ref c) ct), osl⟩ ∧
    PySem.W.codeIn K (.ref c) x = true ∧ PySem.W.keepIn K (.ref f) = true ∧ mg x = some (.ref f) ∧ Binds K (PySem.W.fnOf x x (defArgs st) (defBody st) (defScope st) .none kV doc pm an (.ref c) ct) ps []
theorem DtC.okG {P : Program} {w : World} {K : PySem.W.Frag} {mg : Str → Option Value} {base : Heap} {x : Str} {st : Stmt} {N ps : List Str} {c : Addr} {k : Nat} {sp : Sp} (D : DtC K mg x st ps c) (S : FnScope N ps (defScope st)) (len : ∀ vs H Q E, sp vs H Q E → vs.length = ps.length)
    (hbody : ∀ (f : Addr) (A : Around) (outer : List Env) (s : Shared) (H : Hp) (vs : List V) (Q : VK) (E : XK), A.guards = some [] → Room k (A.deeper (envOfC x (defScope st) s.heap.objs.size f (.ref c))) → sp vs H Q E →
      ∃ t, PSs (cxOf CX0 P w K mg base N x (defScope st) f (.ref c) A outer s H E).nox (defBody st) t ∧ t { nx := fun _ H' => Q .non H', rt := Q } (start N vs) H) : DfG P w K mg base CX0 (k + 1) x ps sp := by
  obtain ⟨f, oc, od, kV, doc, pm, an, ct, osl, lk, hcd, kp, m, b⟩ := D.ex
  refine ⟨f, _, fn_ofG lk hcd S len fun A outer s H vs Q E hg hr hsp => ?_, m, kp, b⟩
  obtain ⟨t, h, q⟩ := hbody f A outer s H vs Q E hg hr hsp
  exact ⟨t, h.nox, q⟩
theorem Same.extN {H H' : Hp} (e : Same H H') : ExtN H H' := ExtN.of e
section
variable {K : PySem.W.Frag} {H H' : Hp}
theorem seqTE {b : Addr} {xs : List V} (e : ExtN H H') (h : SqT K H b xs) : SqT K H' b xs := by
  rcases h with (h | ⟨o, h⟩) | h
  · exact .inl (.inl (e _ _ h (fun ps z => by cases z)))
  · exact .inl (.inr ⟨o, e _ _ h (fun ps z => by cases z)⟩)
  · exact .inr h
theorem seqLE {b : Addr} {xs : List V} (e : ExtN H H') (h : SqL K H b xs) : SqL K H' b xs := by
  rcases h with (h | ⟨o, h⟩) | h
  · exact .inl (.inl (e _ _ h (fun ps z => by cases z)))
  · exact .inl (.inr ⟨o, e _ _ h (fun ps z => by cases z)⟩)
  · exact .inr h
mutual
theorem Dp.ext (e : ExtN H H') : ∀ (d : PyData) (v : V), Dp K H v d → Dp K H' v d
  | .none, _, h => by cases h; exact .non
  | .bool b, _, h => by cases h; exact .bl b
  | .int i, _, h => by cases h; exact .int i
  | .str x, _, h => by cases h; exact .str x
  | .list ds, _, h => by
    cases h with
    | lst hs ha => exact .lst (seqLE e hs) (Dp.exts e ds _ ha)
  | .tuple ds, _, h => by
    cases h with
    | tup hs ha => exact .tup (seqTE e hs) (Dp.exts e ds _ ha)
  | .dict _, _, h => by cases h
theorem Dp.exts (e : ExtN H H') : ∀ (ds : List PyData) (vs : List V), DpAll K H vs ds → DpAll K H' vs ds
  | [], _, h => by cases h; exact .nil
  | d :: ds, _, h => by
    cases h with
    | cons h1 h2 => exact .cons (Dp.ext e d _ h1) (Dp.exts e ds _ h2)
end
theorem LSt.ext {a l c : Addr} {n : Nat} (h : LSt H a l c n) (e : ExtN H H') : LSt H' a l c n := by
  obtain ⟨cs, ls, m, h⟩ := h
  exact ⟨cs, ls, m, e _ _ h.top (fun ps z => by cases z), e _ _ h.cells (fun ps z => by cases z), e _ _ h.lefts (fun ps z => by cases z), h.len, h.pos, h.few, h.apart⟩
end
theorem Tabs.same {T : List (Addr × Str)} {H H' : Hp} (t : Tabs T H) (e : Same H H') : Tabs T H' := t.ext e

/-! ### written data: what an expression makes of it, lists that grow put aside -/
def hid (S : List Addr) (H : Hp) : Hp := fun a => if a ∈ S then none else H a
def Ev (T : List (Addr × Str)) (H H' : Hp) : Prop := ExtN H H' ∧ (Tabs T H → Tabs T H')
def Lsts (S : List Addr) (H : Hp) : Prop := ∀ a ∈ S, ∃ o, H a = some o ∧ ((∃ xs, o = .lst xs) ∨ ∃ kvs, o = .dK kvs)
theorem Ev.refl {T : List (Addr × Str)} (H : Hp) : Ev T H H := ⟨ExtN.refl H, fun t => t⟩
theorem Ev.trans {T : List (Addr × Str)} {H H1 H2 : Hp} (a : Ev T H H1) (b : Ev T H1 H2) : Ev T H H2 := ⟨a.1.trans b.1, fun t => b.2 (a.2 t)⟩
theorem Ev.of {T : List (Addr × Str)} {H H1 : Hp} (e : Same H H1) : Ev T H H1 := ⟨Same.extN e, fun t => Tabs.same t e⟩
theorem Ev.new {T : List (Addr × Str)} {H : Hp} {p : Addr} {o : HO} (h : H p = none) : Ev T H (upd H p o) := Ev.of (Same.new h)
theorem Ev.lsts {T : List (Addr × Str)} {S : List Addr} {H H1 : Hp} (e : Ev T H H1) (h : Lsts S H) : Lsts S H1 := fun a m => by
  obtain ⟨o, q, z⟩ := h a m
  refine ⟨o, e.1 _ _ q (fun ps y => ?_), z⟩
  subst y
  rcases z with ⟨_, z⟩ | ⟨_, z⟩ <;> cases z
theorem hid_ext {S : List Addr} {H H1 : Hp} (e : ExtN H H1) : ExtN (hid S H) (hid S H1) := fun b o h n => by
  unfold hid at h ⊢
  split at h
  · cases h
  · rename_i m
    rw [if_neg m]
    exact e b o h n
theorem hid_out {S : List Addr} {H : Hp} : ExtN (hid S H) H := fun b o h n => by
  unfold hid at h
  split at h
  · cases h
  · exact h
theorem hid_nil (H : Hp) : hid [] H = H := funext fun a => by simp [hid]
theorem hid_upd {S : List Addr} {H : Hp} {p : Addr} {o : HO} (m : p ∈ S) : hid S (upd H p o) = hid S H := funext fun a => by
  unfold hid
  split
  · rfl
  · rename_i n
    exact upd_ne (fun z => n (z ▸ m))
theorem hid_more {S : List Addr} {H : Hp} {q : Addr} {o : HO} (h : H q = none) : ExtN (hid S H) (hid (q :: S) (upd H q o)) := fun b u hb n => by
  unfold hid at hb ⊢
  split at hb
  · cases hb
  · rename_i m
    have nb : b ≠ q := fun z => by rw [z, h] at hb; cases hb
    rw [if_neg (by simp only [List.mem_cons, not_or]; exact ⟨nb, m⟩), upd_ne nb]
    exact hb
theorem hid_sub {S R : List Addr} {H : Hp} (h : ∀ a ∈ R, a ∈ S) : ExtN (hid S H) (hid R H) := fun b u hb n => by
  unfold hid at hb ⊢
  split at hb
  · cases hb
  · rename_i m
    rw [if_neg fun z => m (h b z)]
    exact hb
section
variable {K : PySem.W.Frag} {S : List Addr}
theorem seqT_hid {H : Hp} {b : Addr} {xs : List V} (l : Lsts S H) (h : SqT K H b xs) : SqT K (hid S H) b xs := by
  have off : ∀ o, H b = some o → (∀ ys, o ≠ .lst ys) → (∀ ys, o ≠ .dK ys) → hid S H b = some o := fun o e n n2 => by
    unfold hid
    rw [if_neg fun m => by
      obtain ⟨u, q, z⟩ := l b m
      rw [e] at q
      obtain rfl := Option.some.inj q
      rcases z with ⟨_, z⟩ | ⟨_, z⟩
      · exact n _ z
      · exact n2 _ z]
    exact e
  rcases h with (h | ⟨o, h⟩) | h
  · exact .inl (.inl (off _ h (fun ys z => by cases z) (fun ys z => by cases z)))
  · exact .inl (.inr ⟨o, off _ h (fun ys z => by cases z) (fun ys z => by cases z)⟩)
  · exact .inr h
mutual
theorem Dp.hid {H : Hp} (l : Lsts S H) : ∀ (d : PyData) (v : V), noList d = true → Dp K H v d → Dp K (Ws.hid S H) v d
  | .none, _, _, h => by cases h; exact .non
  | .bool b, _, _, h => by cases h; exact .bl b
  | .int i, _, _, h => by cases h; exact .int i
  | .str x, _, _, h => by cases h; exact .str x
  | .list ds, _, n, h => by cases n
  | .tuple ds, _, n, h => by
    cases h with
    | tup hs ha => exact .tup (seqT_hid l hs) (Dp.hids l ds _ n ha)
  | .dict _, _, _, h => by cases h
theorem Dp.hids {H : Hp} (l : Lsts S H) : ∀ (ds : List PyData) (vs : List V), noListAll ds = true → DpAll K H vs ds → DpAll K (Ws.hid S H) vs ds
  | [], _, _, h => by cases h; exact .nil
  | d :: ds, _, n, h => by
    cases h with
    | cons h1 h2 => exact .cons (Dp.hid l d _ (Bool.and_eq_true_iff.mp n).1 h1) (Dp.hids l ds _ (Bool.and_eq_true_iff.mp n).2 h2)
end
theorem _root_.L2.Dp.out {H : Hp} {v : V} {d : PyData} (h : Dp K (Ws.hid S H) v d) : Dp K H v d := Dp.ext hid_out d v h
theorem _root_.L2.Dp.ev {T : List (Addr × Str)} {H H1 : Hp} {v : V} {d : PyData} (h : Dp K (Ws.hid S H) v d) (e : Ev T H H1) : Dp K (Ws.hid S H1) v d := Dp.ext (hid_ext e.1) d v h
theorem Dp.evs {T : List (Addr × Str)} {H H1 : Hp} {v : List V} {d : List PyData} (h : DpAll K (Ws.hid S H) v d) (e : Ev T H H1) : DpAll K (Ws.hid S H1) v d := Dp.exts (hid_ext e.1) d v h
theorem nws {H : Hp} {v : List V} {d : List PyData} {p : Addr} {o : HO} (h : DpAll K (Ws.hid S H) v d) (hp : H p = none) : DpAll K (Ws.hid S (upd H p o)) v d := Dp.evs h (Ev.new (T := []) hp)
end
section
variable {K : PySem.W.Frag}
theorem _root_.L2.DpAll.two {H : Hp} {vs : List V} {d e : PyData} (h : DpAll K H vs [d, e]) : ∃ v u, vs = [v, u] ∧ Dp K H v d ∧ Dp K H u e := by
  cases h with
  | cons h1 h2 =>
    cases h2 with
    | cons h3 h4 =>
      cases h4
      exact ⟨_, _, rfl, h1, h3⟩
theorem _root_.L2.DpAll.three {H : Hp} {vs : List V} {d e f : PyData} (h : DpAll K H vs [d, e, f]) : ∃ v u z, vs = [v, u, z] ∧ Dp K H v d ∧ Dp K H u e ∧ Dp K H z f := by
  cases h with
  | cons h1 h2 =>
    obtain ⟨v, u, rfl, h3, h4⟩ := h2.two
    exact ⟨_, _, _, rfl, h1, h3, h4⟩
theorem _root_.L2.DpAll.one' {H : Hp} {vs : List V} {d : PyData} (h : DpAll K H vs [d]) : ∃ v, vs = [v] ∧ Dp K H v d := by
  cases h with
  | cons h1 h2 =>
    cases h2
    exact ⟨_, rfl, h1⟩
end
section
variable (K : PySem.W.Frag) (S : List Addr) (T : List (Addr × Str))
/-- te makes the data d -/
def DE (te : TE) (σ : L2.St) (H : Hp) (d : PyData) : Prop := ∀ H1, Ev T H H1 → Lsts S H1 → Tabs T H1 → ∀ Q : VK, (∀ H' v, Ev T H1 H' → Dp K (hid S H') v d → Q v H') → te σ H1 Q
def DEs (ta : TA) (σ : L2.St) (H : Hp) (ds : List PyData) : Prop := ∀ H1, Ev T H H1 → Lsts S H1 → Tabs T H1 → ∀ Q : List V → Hp → Prop, (∀ H' vs, Ev T H1 H' → DpAll K (hid S H') vs ds → Q vs H') → ta σ H1 Q
/-- te makes a new list of the data ds -/
def LE (te : TE) (σ : L2.St) (H : Hp) (ds : List PyData) : Prop := ∀ H1, Ev T H H1 → Lsts S H1 → Tabs T H1 → ∀ Q : VK, (∀ H2 p ys, Ev T H1 H2 → H2 p = none → DpAll K (hid S H2) ys ds → Q (.ref p) (upd H2 p (.lst ys))) → te σ H1 Q
/-- te tells a list of the data ds -/
def RE (te : TE) (σ : L2.St) (H : Hp) (ds : List PyData) : Prop := ∀ H1, Ev T H H1 → Lsts S H1 → Tabs T H1 → ∀ Q : VK, (∀ H' a ys, Ev T H1 H' → H' a = some (.lst ys) → DpAll K (hid S H') ys ds → Q (.ref a) H') → te σ H1 Q
end
section
variable {K : PySem.W.Frag} {S : List Addr} {T : List (Addr × Str)} {te ta tb : TE} {tas : TA} {σ : L2.St} {H : Hp} {d : PyData} {ds es : List PyData}
theorem DE.to {H1 : Hp} (h : DE K S T te σ H d) (e : Ev T H H1) : DE K S T te σ H1 d := fun H2 e2 => h H2 (e.trans e2)
theorem DEs.to {H1 : Hp} (h : DEs K S T tas σ H ds) (e : Ev T H H1) : DEs K S T tas σ H1 ds := fun H2 e2 => h H2 (e.trans e2)
theorem DE.int {i : Int} : DE K S T (tC (.int i)) σ H (.int i) := fun H1 _ _ _ Q q => q H1 _ (Ev.refl _) (.int i)
theorem DE.str {x : Str} : DE K S T (tC (.str x)) σ H (.str x) := fun H1 _ _ _ Q q => q H1 _ (Ev.refl _) (.str x)
theorem DE.bl {b : Bool} : DE K S T (tC (.bl b)) σ H (.bool b) := fun H1 _ _ _ Q q => q H1 _ (Ev.refl _) (.bl b)
theorem DE.non : DE K S T (tC .non) σ H .none := fun H1 _ _ _ Q q => q H1 _ (Ev.refl _) .non
theorem DE.var {i : Nat} {v : V} (h : σ[i]? = some (some v)) (hd : Dp K (hid S H) v d) : DE K S T (tVar i) σ H d := fun H1 e _ _ Q q => ⟨v, h, q H1 v (Ev.refl _) (hd.ev e)⟩
theorem DE.eq {d' : PyData} (h : DE K S T te σ H d) (e : d = d') : DE K S T te σ H d' := e ▸ h
theorem DEs.nil : DEs K S T tNil σ H [] := fun H1 _ _ _ Q q => q H1 [] (Ev.refl _) .nil
theorem DEs.cons (a : DE K S T te σ H d) (b : DEs K S T tas σ H ds) : DEs K S T (tCons te tas) σ H (d :: ds) := fun H1 e l t Q q =>
  a H1 e l t _ fun H2 v e2 hv => b H2 (e.trans e2) (e2.lsts l) (e2.2 t) _ fun H3 vs e3 hs => q H3 (v :: vs) (e2.trans e3) (.cons (hv.ev e3) hs)
theorem DEs.one (a : DE K S T te σ H d) : DEs K S T (tCons te tNil) σ H [d] := DEs.cons a .nil
theorem DE.tup (a : DEs K S T tas σ H ds) (hl : ds.length ≤ 1000 := by exact Nat.le_of_ble_eq_true rfl) : DE K S T (tTup tas) σ H (.tuple ds) := fun H1 e l t Q q =>
  a H1 e l t _ fun H2 vs e2 hs => ⟨by rw [hs.length, sizeLine_eq]; omega, fun p hp => q _ _ (e2.trans (Ev.new hp)) (by
    have l3 := (e2.trans (Ev.new (o := .tup vs) hp)).lsts l
    exact .tup (seqT_hid l3 (.of upd_same)) (nws hs hp))⟩
theorem LE.lst (a : DEs K S T tas σ H ds) (hl : ds.length ≤ 1000 := by exact Nat.le_of_ble_eq_true rfl) : LE K S T (tLst tas) σ H ds := fun H1 e l t Q q =>
  a H1 e l t _ fun H2 vs e2 hs => ⟨by rw [hs.length, sizeLine_eq]; omega, fun p hp => q H2 p vs e2 hp hs⟩
theorem LE.to {H1 : Hp} (h : LE K S T te σ H ds) (e : Ev T H H1) : LE K S T te σ H1 ds := fun H2 e2 => h H2 (e.trans e2)
theorem LE.re (h : LE K S T te σ H ds) : RE K S T te σ H ds := fun H1 e l t Q q => h H1 e l t Q fun H2 p ys e2 hp hs => q _ p ys (e2.trans (Ev.new hp)) upd_same (nws hs hp)
theorem RE.var {i : Nat} {a : Addr} {ys : List V} (h : σ[i]? = some (some (.ref a))) (ha : H a = some (.lst ys)) (hd : DpAll K (hid S H) ys ds) : RE K S T (tVar i) σ H ds := fun H1 e _ _ Q q =>
  ⟨_, h, q H1 a ys (Ev.refl _) (e.1 _ _ ha (fun ps z => by cases z)) (Dp.evs hd e)⟩
theorem LE.cat (a : RE K S T ta σ H ds) (b : RE K S T tb σ H es) (hl : ds.length + es.length ≤ 1000 := by exact Nat.le_of_ble_eq_true rfl) : LE K S T (tOp rCat ta tb) σ H (ds ++ es) := fun H1 e l t Q q =>
  a H1 e l t _ fun H2 x xs e2 hx hxs => b H2 (e.trans e2) (e2.lsts l) (e2.2 t) _ fun H3 y zs e3 hy hys =>
    ⟨x, y, xs, zs, rfl, rfl, e3.1 _ _ hx (fun ps z => by cases z), hy, by rw [hxs.length, hys.length, sizeLine_eq]; omega, fun p hp => q H3 p _ (e2.trans e3) hp ((Dp.evs hxs e3).append hys)⟩
theorem LE.rep {k : Int} (a : RE K S T ta σ H ds) (b : DE K S T tb σ H (.int k)) (h1 : -(2 ^ 63) ≤ k := by decide) (h2 : k < 2 ^ 63 := by decide) (hl : ds.length * k.toNat ≤ 1000 := by decide) : LE K S T (tOp rRep ta tb) σ H (List.replicate k.toNat ds).flatten := fun H1 e l t Q q =>
  a H1 e l t _ fun H2 x xs e2 hx hxs => b H2 (e.trans e2) (e2.lsts l) (e2.2 t) _ fun H3 y e3 hy => by
    obtain rfl := hy.int_inv
    exact ⟨x, k, xs, rfl, rfl, e3.1 _ _ hx (fun ps z => by cases z), h1, h2, by rw [hxs.length, sizeLine_eq]; omega, fun p hp => q H3 p _ (e2.trans e3) hp (by
      have h3 := Dp.evs hxs e3
      induction k.toNat with
      | zero => exact .nil
      | succ n ih => rw [List.replicate_succ, List.replicate_succ, List.flatten_cons, List.flatten_cons]; exact h3.append ih)⟩
theorem DE.lst (a : LE K S T te σ H ds) : DE K S T te σ H (.list ds) := fun H1 e l t Q q => a H1 e l t Q fun H2 p ys e2 hp hs => q _ _ (e2.trans (Ev.new hp)) (by
  refine .lst (.of ?_) (nws hs hp)
  unfold Ws.hid
  rw [if_neg fun m => by
    obtain ⟨o, z, _⟩ := e2.lsts l _ m
    rw [hp] at z
    cases z]
  exact upd_same)
theorem DE.op0 {g : Int → Int → V} {i j k : Int} (a : DE K S T ta σ H (.int i)) (b : DE K S T tb σ H (.int j)) (hg : g i j = .int k) : DE K S T (tOp (rI0 g) ta tb) σ H (.int k) := fun H1 e l t Q q =>
  a H1 e l t _ fun H2 x e2 hx => b H2 (e.trans e2) (e2.lsts l) (e2.2 t) _ fun H3 y e3 hy => by
    obtain rfl := hx.int_inv
    obtain rfl := hy.int_inv
    exact ⟨i, j, rfl, rfl, by rw [hg]; exact q H3 _ (e2.trans e3) (.int k)⟩
theorem DE.opC {C : Int → Int → Prop} {g : Int → Int → V} {i j k : Int} (a : DE K S T ta σ H (.int i)) (b : DE K S T tb σ H (.int j)) (hc : C i j) (hg : g i j = .int k) : DE K S T (tOp (rI C g) ta tb) σ H (.int k) := fun H1 e l t Q q =>
  a H1 e l t _ fun H2 x e2 hx => b H2 (e.trans e2) (e2.lsts l) (e2.2 t) _ fun H3 y e3 hy => by
    obtain rfl := hx.int_inv
    obtain rfl := hy.int_inv
    exact ⟨i, j, rfl, rfl, hc, by rw [hg]; exact q H3 _ (e2.trans e3) (.int k)⟩
theorem DE.un {g : Int → V} {i k : Int} (a : DE K S T ta σ H (.int i)) (hg : g i = .int k) : DE K S T (tUn (rU g) ta) σ H (.int k) := fun H1 e l t Q q =>
  a H1 e l t _ fun H2 x e2 hx => by
    obtain rfl := hx.int_inv
    exact ⟨i, rfl, by rw [hg]; exact q H2 _ e2 (.int k)⟩
theorem DE.repT {k : Int} (a : DE K S T ta σ H (.tuple ds)) (b : DE K S T tb σ H (.int k)) (h0 : ds ≠ [] := by decide) (h1 : 2 ≤ k := by decide) (h2 : k ≤ 1000 := by decide) (hl : ds.length ≤ 1000 := by exact Nat.le_of_ble_eq_true rfl) : DE K S T (tOp (rRepT K) ta tb) σ H (.tuple (List.replicate k.toNat ds).flatten) := fun H1 e l t Q q =>
  a H1 e l t _ fun H2 x e2 hx => b H2 (e.trans e2) (e2.lsts l) (e2.2 t) _ fun H3 y e3 hy => by
    obtain rfl := hy.int_inv
    obtain ⟨p, xs, rfl, hs, hxs⟩ := hx.tup_inv
    have hxs2 := Dp.evs hxs e3
    have hn : xs ≠ [] := fun z => h0 (by subst z; cases hxs; rfl)
    refine ⟨p, k, xs, rfl, rfl, seqTE e3.1 (seqTE hid_out hs), hn, h1, h2, by rw [hxs.length]; exact hl, fun r hr => q _ _ ((e2.trans e3).trans (Ev.new hr)) ?_⟩
    refine .tup (seqT_hid (((e2.trans e3).trans (Ev.new hr)).lsts l) (.of upd_same)) (nws ?_ hr)
    induction k.toNat with
    | zero => exact .nil
    | succ n ih => rw [List.replicate_succ, List.replicate_succ, List.flatten_cons, List.flatten_cons]; exact hxs2.append ih
end
/-! ### lists that grow -/
def adr (L : List (Addr × List PyData)) (X : List Addr) : List Addr := L.map (·.1) ++ X
structure LsS (K : PySem.W.Frag) (T : List (Addr × Str)) (X : List Addr) (L : List (Addr × List PyData)) (H : Hp) : Prop where
  tabs : Tabs T H
  nd : (L.map (·.1)).Nodup
  off : Lsts X H
  apart : ∀ a ∈ L.map (·.1), a ∉ X
  at_ : ∀ x ∈ L, ∃ ys, H x.1 = some (.lst ys) ∧ DpAll K (hid (adr L X) H) ys x.2
theorem Tabs.put {T : List (Addr × Str)} {H : Hp} {p : Addr} {xs : List V} {o : HO} (t : Tabs T H) (h : H p = some (.lst xs)) : Tabs T (upd H p o) := fun x hx => by
  obtain ⟨ps, h1, h2, h3⟩ := t x hx
  refine ⟨ps, by rw [upd_ne (fun z => by rw [z, h] at h1; cases h1)]; exact h1, h2, fun pos cv hc => ?_⟩
  obtain ⟨c, e1, e2⟩ := h3 pos cv hc
  exact ⟨c, e1, by rw [upd_ne (fun z => by rw [z, h] at e2; cases e2)]; exact e2⟩
section
variable {K : PySem.W.Frag} {T : List (Addr × Str)} {X : List Addr} {L : List (Addr × List PyData)} {H : Hp}
theorem LsS.lsts (h : LsS K T X L H) : Lsts (adr L X) H := fun a m => by
  rcases List.mem_append.mp m with m | m
  · obtain ⟨x, hx, rfl⟩ := List.mem_map.mp m
    obtain ⟨ys, q, _⟩ := h.at_ x hx
    exact ⟨_, q, .inl ⟨ys, rfl⟩⟩
  · exact h.off a m
theorem LsS.nil (t : Tabs T H) (o : Lsts X H) : LsS K T X [] H := ⟨t, List.nodup_nil, o, (fun a h => by cases h), fun x hx => by cases hx⟩
theorem LsS.ev {H1 : Hp} (h : LsS K T X L H) (e : Ev T H H1) : LsS K T X L H1 := ⟨e.2 h.tabs, h.nd, e.lsts h.off, h.apart, fun x hx => by
  obtain ⟨ys, q, d⟩ := h.at_ x hx
  exact ⟨ys, e.1 _ _ q (fun ps z => by cases z), Dp.evs d e⟩⟩
theorem LsS.new {p : Addr} {ys : List V} {ds : List PyData} (h : LsS K T X L H) (hp : H p = none) (hd : DpAll K (hid (adr L X) H) ys ds) : LsS K T X ((p, ds) :: L) (upd H p (.lst ys)) := by
  have e := hid_more (S := adr L X) (o := .lst ys) hp
  have np : p ∉ adr L X := fun m => by
    obtain ⟨o, q, _⟩ := h.lsts p m
    rw [hp] at q
    cases q
  refine ⟨(Ev.new hp).2 h.tabs, ?_, Ev.lsts (T := T) (Ev.new hp) h.off, ?_, fun x hx => ?_⟩
  · rw [List.map_cons, List.nodup_cons]
    exact ⟨fun m => np (List.mem_append.mpr (.inl m)), h.nd⟩
  · intro a m
    rcases List.mem_cons.mp m with rfl | m
    · exact fun z => np (List.mem_append.mpr (.inr z))
    · exact h.apart a m
  · rcases List.mem_cons.mp hx with rfl | hx
    · exact ⟨ys, upd_same, Dp.exts e _ _ hd⟩
    · obtain ⟨zs, q, d⟩ := h.at_ x hx
      exact ⟨zs, by rw [upd_ne (fun z => by rw [z, hp] at q; cases q)]; exact q, Dp.exts e _ _ d⟩
/-- the list at the place k has one more item -/
theorem LsS.app {k : Nat} {p : Addr} {ds : List PyData} {u : V} {d : PyData} {ys : List V} (h : LsS K T X L H) (hk : L[k]? = some (p, ds)) (hp : H p = some (.lst ys)) (hu : Dp K (hid (adr L X) H) u d) : LsS K T X (L.set k (p, ds ++ [d])) (upd H p (.lst (ys ++ [u]))) := by
  have hlt := (List.getElem?_eq_some_iff.mp hk).1
  have hm : p ∈ L.map (·.1) := List.mem_map.mpr ⟨_, List.mem_of_getElem? hk, rfl⟩
  have hm2 : p ∈ adr L X := List.mem_append.mpr (.inl hm)
  have em : (L.set k (p, ds ++ [d])).map (·.1) = L.map (·.1) := by
    rw [List.map_set]
    refine List.ext_getElem? fun n => ?_
    rw [List.getElem?_set]
    split
    · rename_i z
      subst z
      rw [List.getElem?_map, hk]
      simp [hlt]
    · rfl
  have eh : hid (adr L X) (upd H p (.lst (ys ++ [u]))) = hid (adr L X) H := hid_upd hm2
  have em2 : adr (L.set k (p, ds ++ [d])) X = adr L X := by unfold adr; rw [em]
  refine ⟨Tabs.put h.tabs hp, by rw [em]; exact h.nd, fun a ha => ?_, by rw [em]; exact h.apart, fun x hx => ?_⟩
  · obtain ⟨o, q, z⟩ := h.off a ha
    exact ⟨o, by rw [upd_ne (fun w : a = p => h.apart p hm (by rw [← w]; exact ha))]; exact q, z⟩
  rw [em2, eh]
  obtain ⟨n, hn⟩ := List.mem_iff_getElem?.mp hx
  rw [List.getElem?_set] at hn
  split at hn
  · rename_i z
    subst z
    obtain rfl := Option.some.inj hn
    obtain ⟨zs, q, dd⟩ := h.at_ _ (List.mem_of_getElem? hk)
    rw [hp] at q
    obtain rfl : ys = zs := HO.lst.inj (Option.some.inj q)
    exact ⟨_, upd_same, dd.append (.cons hu .nil)⟩
  · rename_i z
    have hx2 := List.mem_of_getElem? hn
    obtain ⟨zs, q, dd⟩ := h.at_ x hx2
    have ne : x.1 ≠ p := fun w => by
      have n1 : (L.map (·.1))[k]? = some p := by rw [List.getElem?_map, hk]; rfl
      have n2 : (L.map (·.1))[n]? = some p := by rw [List.getElem?_map, hn, ← w]; rfl
      have l1 := (List.getElem?_eq_some_iff.mp n1).1
      exact z ((List.getElem?_inj l1 h.nd).mp (n1.trans n2.symm))
    exact ⟨zs, by rw [upd_ne ne]; exact q, dd⟩
theorem st_app {k i : Nat} {p : Addr} {ds : List PyData} {d : PyData} {te : TE} {D : Ends} {σ : L2.St} (h : LsS K T X L H) (hi : σ[i]? = some (some (.ref p))) (hk : L[k]? = some (p, ds)) (hl : ds.length ≤ 100000) (hd : DE K (adr L X) T te σ H d)
    (q : ∀ H', LsS K T X (L.set k (p, ds ++ [d])) H' → ExtN (hid (adr L X) H) (hid (adr L X) H') → D.nx σ H') : tDrop (tBM K "list" rAppend (tVar i) (tCons te tNil)) D σ H := by
  obtain ⟨ys, hp, hys⟩ := h.at_ _ (List.mem_of_getElem? hk)
  refine ⟨_, hi, .inl ⟨rfl, ys, .of hp⟩, hd H (Ev.refl H) h.lsts h.tabs _ fun H' u e hu => ?_⟩
  have hp2 := e.1 _ _ hp (fun ps z => by cases z)
  have hy := hys.length
  refine ⟨p, ys, u, rfl, rfl, hp2, by rw [hy, sizeLine_eq]; show ds.length < _; omega, q _ ((h.ev e).app hk hp2 hu) ?_⟩
  have hm3 : p ∈ adr L X := List.mem_append.mpr (.inl (List.mem_map.mpr ⟨(p, ds), List.mem_of_getElem? hk, rfl⟩))
  rw [hid_upd hm3]
  exact hid_ext e.1
theorem for_de {S : List Addr} {bads : List PyData} {te : TE} {tb : TS} {k : Nat} {D : Ends} {σ : L2.St} (hde : DE K S T te σ H (.tuple bads)) (l : Lsts S H) (t : Tabs T H) (Pv : Nat → L2.St → Hp → Prop)
    (h0 : ∀ H', Ev T H H' → Pv 0 σ H')
    (hs : ∀ H0 i x σ H, i < bads.length → Pv i σ H → ExtN (hid S H0) (hid S H) → Dp K (hid S H) x (bads.getD i .none) → tb { D with nx := fun σ' H' => Pv (i + 1) σ' H' ∧ ExtN (hid S H0) (hid S H'), ct := fun σ' H' => Pv (i + 1) σ' H' ∧ ExtN (hid S H0) (hid S H'), bk := D.nx } (σ.set k (some x)) H)
    (hd : ∀ σ H, Pv bads.length σ H → D.nx σ H) : tFor (iTup K te) (gName k) tb D σ H := by
  refine hde H (Ev.refl H) l t _ fun H0 v e hv => ?_
  obtain ⟨a, xs, rfl, ha, hxs⟩ := hv.tup_inv
  have hn := hxs.length
  refine ⟨a, rfl, ⟨xs, seqTE hid_out ha⟩, for_tup (xs := xs) (fun i σ H => Pv i σ H ∧ ExtN (hid S H0) (hid S H)) ⟨h0 H0 e, ExtN.refl _⟩ (fun i σ H _ p => seqTE hid_out (seqTE p.2 ha)) (fun i x σ H hx p => ?_) (fun σ H p => hd σ H (by rw [← hn]; exact p.1))⟩
  have hi : i < bads.length := by rw [← hn]; exact (List.getElem?_eq_some_iff.mp hx).1
  obtain ⟨y, hy, _, hdy⟩ := hxs.at_ hi
  rw [hx] at hy
  obtain rfl := Option.some.inj hy
  exact hs H0 i x σ H hi p.1 p.2 (Dp.ext p.2 _ _ hdy)
end
section
variable {K : PySem.W.Frag} {T : List (Addr × Str)} {X : List Addr} {L : List (Addr × List PyData)} {H : Hp} {te : TE} {D : Ends} {σ : L2.St} {ds : List PyData} {d : PyData}
theorem seqI {t u : TS} (h : t { D with nx := u D } σ H) : tSeq t u D σ H := h
theorem st_new {i : Nat} (h : LsS K T X L H) (hd : LE K (adr L X) T te σ H ds) (q : ∀ H' p, LsS K T X ((p, ds) :: L) H' → ExtN (hid (adr L X) H) (hid (p :: adr L X) H') → D.nx (σ.set i (some (.ref p))) H') : tAsg te (gName i) D σ H :=
  hd H (Ev.refl H) h.lsts h.tabs _ fun H2 p ys e hp hs => q _ p ((h.ev e).new hp hs) ((hid_ext e.1).trans (hid_more hp))
theorem st_val {i : Nat} (h : LsS K T X L H) (hd : DE K (adr L X) T te σ H d) (q : ∀ H' v, LsS K T X L H' → ExtN (hid (adr L X) H) (hid (adr L X) H') → Dp K (hid (adr L X) H') v d → D.nx (σ.set i (some v)) H') : tAsg te (gName i) D σ H :=
  hd H (Ev.refl H) h.lsts h.tabs _ fun H2 v e hv => q H2 v (h.ev e) (hid_ext e.1) hv
theorem sq_new {i : Nat} {u : TS} (h : LsS K T X L H) (hd : LE K (adr L X) T te σ H ds) (q : ∀ H' p, LsS K T X ((p, ds) :: L) H' → ExtN (hid (adr L X) H) (hid (p :: adr L X) H') → u D (σ.set i (some (.ref p))) H') : tSeq (tAsg te (gName i)) u D σ H := st_new (D := { D with nx := u D }) h hd q
theorem sq_val {i : Nat} {u : TS} (h : LsS K T X L H) (hd : DE K (adr L X) T te σ H d) (q : ∀ H' v, LsS K T X L H' → ExtN (hid (adr L X) H) (hid (adr L X) H') → Dp K (hid (adr L X) H') v d → u D (σ.set i (some v)) H') : tSeq (tAsg te (gName i)) u D σ H := st_val (D := { D with nx := u D }) h hd q
theorem sq_app {k i : Nat} {p : Addr} {u : TS} (h : LsS K T X L H) (hi : σ[i]? = some (some (.ref p))) (hk : L[k]? = some (p, ds)) (hl : ds.length ≤ 100000) (hd : DE K (adr L X) T te σ H d)
    (q : ∀ H', LsS K T X (L.set k (p, ds ++ [d])) H' → ExtN (hid (adr L X) H) (hid (adr L X) H') → u D σ H') : tSeq (tDrop (tBM K "list" rAppend (tVar i) (tCons te tNil))) u D σ H := st_app (D := { D with nx := u D }) h hi hk hl hd q
theorem sq_for {S : List Addr} {bads : List PyData} {tb u : TS} {k : Nat} (hde : DE K S T te σ H (.tuple bads)) (l : Lsts S H) (t : Tabs T H) (Pv : Nat → L2.St → Hp → Prop)
    (h0 : ∀ H', Ev T H H' → Pv 0 σ H')
    (hs : ∀ (D : Ends) H0 i x σ H, i < bads.length → Pv i σ H → ExtN (hid S H0) (hid S H) → Dp K (hid S H) x (bads.getD i .none) → (∀ σ' H', Pv (i + 1) σ' H' ∧ ExtN (hid S H0) (hid S H') → D.nx σ' H') → tb D (σ.set k (some x)) H)
    (hd : ∀ σ H, Pv bads.length σ H → u D σ H) : tSeq (tFor (iTup K te) (gName k) tb) u D σ H :=
  for_de (D := { D with nx := u D }) hde l t Pv h0 (fun H0 i x σ H hi p e hx => hs _ H0 i x σ H hi p e hx fun _ _ z => z) hd
theorem take_snoc {bads : List PyData} {i : Nat} (f : PyData → PyData) (h : i < bads.length) : (bads.take (i + 1)).map f = (bads.take i).map f ++ [f (bads.getD i .none)] := by
  rw [List.take_succ_eq_append_getElem h, List.map_append]
  simp [h]
theorem LsS.dp {k : Nat} {p : Addr} (h : LsS K T X L H) (hk : L[k]? = some (p, ds)) : Dp K H (.ref p) (.list ds) := by
  obtain ⟨ys, hp, hd⟩ := h.at_ _ (List.mem_of_getElem? hk)
  exact .lst (.of hp) (Dp.exts hid_out _ _ hd)
theorem LsS.re {k i : Nat} {p : Addr} (h : LsS K T X L H) (hk : L[k]? = some (p, ds)) (hi : σ[i]? = some (some (.ref p))) : RE K (adr L X) T (tVar i) σ H ds := by
  obtain ⟨ys, hp, hd⟩ := h.at_ _ (List.mem_of_getElem? hk)
  exact RE.var hi hp hd
end
/-! ### a comprehension of data without lists whose items draw -/
theorem lcN {K : PySem.W.Frag} {J : It} {n : Nat} {G : Hp → Prop} {Y : Nat → Hp → V → Hp → Prop} (w : Walk J n G Y) {g : TG} {te : TE} {vs : List Nat} {σ : L2.St} {H1 : Hp} {D : Addr} {Qd : Hp → Prop} {a l c : Addr} {m : Nat} (st : Nat) (hD : H1 D = none) (hn : n < sizeLine) (P : Nat → PyData → Prop) (hP : ∀ i d, P i d → noList d = true)
    (hl : LSt H1 a l c m) (hG : ∀ H, Sbt a l H1 H → G H)
    (hs : ∀ i x H H' (Q : VK), i < n → Sbt a l H1 H → LSt H a l c (m + i * st) → Y i H x H' → (∀ y H4 d, P i d → Dp K H4 y d → Sbt a l H H4 → LSt H4 a l c (m + (i + 1) * st) → Q y H4) → g x (wipe σ vs) H' fun σ2 H2 => wipe σ2 vs = wipe σ vs ∧ te σ2 H2 Q)
    (hd : ∀ H ys ds, Sbt a l H1 H → LSt H a l c (m + n * st) → H D = some (.lst ys) → DpAll K H ys ds → ds.length = n → (∀ i d, ds[i]? = some d → P i d) → noListAll ds = true → Qd H) :
    ∃ W : Nat → Nat → Hp → Prop, (∃ m, W 0 m (upd H1 D (.lst []))) ∧ ∀ i m H, W i m H →
      (J.stop i H ∧ Qd H) ∨ (J.go i H ∧ ∃ Nx : Hp → Prop, (∀ H', Nx H' → ∃ m', m' < m ∧ W (i + 1) m' H') ∧ ∀ x H', J.yld i H x H' → g x (wipe σ vs) H' fun σ2 H2 => wipe σ2 vs = wipe σ vs ∧ tYes σ2 H2 fun b H3 =>
        if b = true then te σ2 H3 fun y H4 => ∃ acc, H4 D = some (.lst acc) ∧ acc.length < sizeLine ∧ Nx (upd H4 D (.lst (acc ++ [y]))) else Nx H3) := by
  obtain ⟨da, dl, dc⟩ := hl.off hD
  let Pv : Nat → Hp → Prop := fun i H => Sbt a l H1 H ∧ LSt H a l c (m + i * st) ∧ ∃ ys ds, H D = some (.lst ys) ∧ DpAll K H ys ds ∧ ds.length = i ∧ ∀ j d, ds[j]? = some d → P j d
  have nl : ∀ {ds : List PyData}, (∀ j d, ds[j]? = some d → P j d) → noListAll ds = true := fun {ds} h => noListAll_of fun x hx => by
    obtain ⟨j, hj⟩ := List.mem_iff_getElem?.mp hx
    exact hP j x (h j x hj)
  refine lc_it w Pv ⟨(Sbt.refl H1).mut hD, by rw [Nat.zero_mul]; exact hl.new hD, [], [], upd_same, .nil, rfl, fun j y h => by simp at h⟩ (fun i H _ p => hG H p.1) (fun i x H H' hi p y => ?_) (fun H p => ?_)
  · obtain ⟨s, sl, ys, ds, hy, ha, hlen, hr⟩ := p
    have q := hs i x H H' (fun y H4 => ∃ acc, H4 D = some (.lst acc) ∧ acc.length < sizeLine ∧ Pv (i + 1) (upd H4 D (.lst (acc ++ [y])))) hi s sl y (fun v H4 d r hv s4 sl4 => ?_)
    · have e : (fun σ2 H2 => wipe σ2 vs = wipe σ vs ∧ tYes σ2 H2 fun b H3 =>
        if b = true then te σ2 H3 fun y H4 => ∃ acc, H4 D = some (.lst acc) ∧ acc.length < sizeLine ∧ Pv (i + 1) (upd H4 D (.lst (acc ++ [y]))) else Pv (i + 1) H3) =
        (fun σ2 H2 => wipe σ2 vs = wipe σ vs ∧ te σ2 H2 fun y H4 => ∃ acc, H4 D = some (.lst acc) ∧ acc.length < sizeLine ∧ Pv (i + 1) (upd H4 D (.lst (acc ++ [y])))) := by
        funext σ2 H2
        simp only [tYes, if_true]
      rw [e]
      exact q
    · have hy4 := s4 _ _ hy da dl
      have ha4 := keepTs s4 sl ds ys (nl hr) ha
      refine ⟨ys, hy4, by rw [ha.length]; omega, (Sbt.trans s s4).mut hD, sl4.put da dl dc, ys ++ [v], ds ++ [d], upd_same, (keepLs hy4 (nl hr) ha4).snoc (keepL hy4 (hP _ _ r) hv), by simp [hlen], fun j z hz => ?_⟩
      by_cases hj : j < ds.length
      · rw [List.getElem?_append_left hj] at hz
        exact hr j z hz
      · rw [List.getElem?_append_right (by omega)] at hz
        have e : j = i := by
          have := (List.getElem?_eq_some_iff.mp hz).1
          simp at this
          omega
        subst e
        rw [hlen, Nat.sub_self] at hz
        simp at hz
        rw [← hz]
        exact r
  · obtain ⟨s, sl, ys, ds, hy, ha, hlen, hr⟩ := p
    exact hd H ys ds s sl hy ha hlen hr (nl hr)
end Ws
/-! ## R45 -/
/-! rules: xs[i] op= e, t.count(d), any(ints), sum(t) -/
namespace Ws
open PySem PySem.Spec PyProof.Rows L2
section
variable {X : Cx}
def rGetL (K : PySem.W.Frag) : V → V → Hp → VK → Prop := fun o i H Q => ∃ p xs k v, o = .ref p ∧ i = .int k ∧ SqL K H p xs ∧ 0 ≤ k ∧ atI xs k = some v ∧ Q v H
theorem get_list : PGet X (rGetL X.K) := by
  intro pins s σ H o i ov iv Q I ro ri h
  obtain ⟨p, xs, k, v, rfl, rfl, hq, h0, he, q⟩ := h
  cases ro
  obtain ⟨t, rfl⟩ := ri
  obtain ⟨its, r, pl, hz⟩ := I.list hq
  obtain ⟨j, h1, h2, h3, h4, h5⟩ := atI_get he
  obtain ⟨w, ew, rw'⟩ := r.get h2
  have hl := r.length
  have hn := line63
  have hj : k.toNat = j := by
    rw [seqIndex_of h0 h5] at h1
    exact Option.some.inj h1
  exact wpAny_getItem_list pl.isList h0 (by omega) (by rw [hj]; simpa using ew) ⟨v, H, I, rw', q⟩
/-- t.count(x), x any data -/
def rCountD (K : PySem.W.Frag) : V → List V → Hp → VK → Prop := fun x xs H Q => ∃ (y : V) (d : PyData) (ds : List PyData), xs = [y] ∧ Dp K H x (.tuple ds) ∧ Dp K H y d ∧
  SeqAt.shaped (.tuple ds) = true ∧ SeqAt.shaped d = true ∧ Q (.int ((ds.countP fun z => PyData.eqv z d : Nat) : Int)) H
theorem mt_tcountD (hu : X.A.units + 65 < cLine) : MtR X "tuple.count" (rCountD X.K) := by
  intro pins s σ H x xs v us Q I rx rxs h
  obtain ⟨y, d, ds, rfl, hx, hy, s1, s2, q⟩ := h
  obtain ⟨a, ws, rfl, hs, ha⟩ := hx.tup_inv
  cases rx
  obtain ⟨u, rfl, ru⟩ := rxs.one
  obtain ⟨bs, r1⟩ := Dp.reads I d y u hy ru
  obtain ⟨its, rv, ht, _⟩ := I.tuple hs
  obtain ⟨as, h4⟩ := Dp.readsAll I ds ws its ha rv
  have c1 := SeqAt.canLay_of_shaped s1
  have c2 := SeqAt.canLay_of_shaped s2
  have d2 := SeqAt.depth_of_shaped s2
  refine PySem.SeqAt.count_tuple_data ht (by simpa using h4) r1 (PySem.PyData.plainAll_of_canLay0 ds (by simpa only [PyData.canLay0] using c1)) (PySem.PyData.plain_of_canLay0 d c2) (by omega) ?_
  exact ⟨.int ((ds.countP fun z => PyData.eqv z d : Nat) : Int), H, I.tok _, ⟨s.toks, rfl⟩, q⟩
/-- any(xs) of ints -/
def rAnyI (K : PySem.W.Frag) : List V → Hp → VK → Prop := fun vs H Q => ∃ (a : Addr) (ns : List Int), vs = [V.ref a] ∧ SqL K H a (ns.map V.int) ∧ Q (.bl (ns.any fun n => n != 0)) H
theorem plain_ints : ∀ ns : List Int, PyData.plainAll (ns.map PyData.int) = true
  | [] => rfl
  | n :: ns => by
    simp only [List.map_cons, PyData.plainAll, PyData.plain, Bool.true_and]
    exact plain_ints ns
theorem cr_anyI (hc : X.calm = true) : CallR X (.builtin "any") (rAnyI X.K) := by
  intro pins s σ H vs us Q I r h
  obtain ⟨a, ns, rfl, hs, q⟩ := h
  obtain ⟨its, rv, hl, _⟩ := I.list hs
  rw [Vals.ref1 r]
  obtain ⟨as, h4⟩ := Dp.readsAll I (ns.map PyData.int) (ns.map V.int) its (DpAll.ints ns) rv
  refine PySem.W.any_list_data (xs := ns.map PyData.int) (I.ok.hd hc) hl.isList (by simpa using h4) (plain_ints ns) (fun x hx => ?_) fun h' tk hk => ⟨.bl (ns.any fun n => n != 0), H, I.kept hk, ?_, q⟩
  · obtain ⟨i, _, rfl⟩ := List.mem_map.mp hx
    exact trivial
  · show Value.bool _ = Value.bool _
    rw [List.any_map]
    rfl
/-- sum(t) of a tuple of ints -/
def rSumT (K : PySem.W.Frag) : List V → Hp → VK → Prop := fun vs H Q => ∃ (a : Addr) (ns : List Int), vs = [V.ref a] ∧ SqT K H a (ns.map V.int) ∧ Q (.int ns.sum) H
theorem cr_sumT (hc : X.calm = true) : CallR X (.builtin "sum") (rSumT X.K) := by
  intro pins s σ H vs us Q I r h
  obtain ⟨a, ns, rfl, hs, q⟩ := h
  obtain ⟨its, rv, ht, _⟩ := I.tuple hs
  rw [Vals.ref1 r]
  have hi := rv.ints
  obtain ⟨xs, hx⟩ := hi.allInts.items
  have ht' := ht
  have hn : numsOf its.toArray.toList = ns := by rw [show its.toArray.toList = its from rfl, hi.numsOf]
  rw [hx] at ht' hn
  rw [nums_intItems] at hn
  refine PySem.W.ktm_sumG (I.ok.hd hc) ht' fun h' tk t' hk => ?_
  refine ⟨.int ns.sum, H, I.kept hk, ⟨t', ?_⟩, q⟩
  rw [preSum_eq, List.take_of_length_le (by simp), hn]
end
/-- a dict comprehension over what is walked -/
theorem dc_walk {B : L2.It} {len : Nat} {Gd : Hp → Prop} {Yd : Nat → Hp → V → Hp → Prop} (wk : Walk B len Gd Yd) {tgt : TG} {ts : TT} {kx vx : TE} {ws : List Nat} {st : L2.St} {Hs : Hp} {d : Addr} {Fin : Hp → Prop} (P : Nat → Hp → Prop) (start : P 0 (upd Hs d (.dK []))) (keep : ∀ i H, i ≤ len → P i H → Gd H)
    (turn : ∀ i x Ha Hb, i < len → P i Ha → Yd i Ha x Hb → tgt x (wipe st ws) Hb fun σ2 H2 => wipe σ2 ws = wipe st ws ∧ ts σ2 H2 fun b H3 => if b = true then kx σ2 H3 fun y H4 => vx σ2 H4 fun z H5 => ∃ kvs k, y = kV k ∧ H5 d = some (.dK kvs) ∧ kvs.length < sizeLine ∧ P (i + 1) (upd H5 d (.dK (putK kvs k z))) else P (i + 1) H3)
    (fin : ∀ H, P len H → Fin H) :
    ∃ W : Nat → Nat → Hp → Prop, (∃ m, W 0 m (upd Hs d (.dK []))) ∧ ∀ i m H, W i m H → (B.stop i H ∧ Fin H) ∨ (B.go i H ∧ ∃ Nx : Hp → Prop, (∀ H', Nx H' → ∃ m', m' < m ∧ W (i + 1) m' H') ∧ ∀ x H', B.yld i H x H' → tgt x (wipe st ws) H' fun σ2 H2 => wipe σ2 ws = wipe st ws ∧ ts σ2 H2 fun b H3 =>
        if b = true then kx σ2 H3 fun y H4 => vx σ2 H4 fun z H5 => ∃ kvs k, y = kV k ∧ H5 d = some (.dK kvs) ∧ kvs.length < sizeLine ∧ Nx (upd H5 d (.dK (putK kvs k z))) else Nx H3) := by
  refine ⟨fun i left H => left + i = len ∧ P i H, ⟨len, rfl, start⟩, fun i left H w => ?_⟩
  obtain ⟨sum, p⟩ := w
  by_cases more : i < len
  · exact .inr ⟨wk.goes i H more (keep i H (by omega) p), P (i + 1), fun H' p' => ⟨left - 1, by omega, by omega, p'⟩, fun x H' y => turn i x H H' more p (wk.yields i H x H' more (keep i H (by omega) p) y)⟩
  · obtain rfl : i = len := by omega
    exact .inl ⟨wk.stops H (keep i H (by omega) p), fin H p⟩
end Ws
/-! ## R27 -/
/-! rules: sorted of a list of data, t < u and t <= u of data -/
namespace Ws
open PySem PySem.Spec PyProof.Rows L2
/-- what a list of data is sorted to -/
def Ord (es : List PyData) : Prop := es.Pairwise fun x y => PySem.W.dataLt y x = false
def rSortedD (K : PySem.W.Frag) : List V → Hp → VK → Prop := fun vs H Q => ∃ (a : Addr) (ys : List V) (ds : List PyData), vs = [.ref a] ∧ SqL K H a ys ∧ DpAll K H ys ds ∧ PySem.W.AllAlike ds ∧ PySem.W.Sortable ds ∧ (∀ d ∈ ds, d.depth ≤ 30) ∧
  ∀ (zs : List V) (es : List PyData) (p : Addr), DpAll K H zs es → es.Perm ds → Ord es → H p = none → Q (.ref p) (upd H p (.lst zs))
section
variable {X : Cx}
theorem sortD_pairs {ps : List (V × PyData)} : ((ps.mergeSort (PySem.W.dataLe false (·.2))).map (·.2)).Perm (ps.map (·.2)) ∧ Ord ((ps.mergeSort (PySem.W.dataLe false (·.2))).map (·.2)) := by
  refine ⟨(List.mergeSort_perm ps _).map _, ?_⟩
  unfold Ord
  rw [List.pairwise_map]
  have T := PySem.W.sortLe_total (listOrd itemOrd) false (fun b : V × PyData => PySem.W.keyToks b.2)
  refine (List.pairwise_mergeSort (le := PySem.W.dataLe false fun b : V × PyData => b.2) (fun a b c h1 h2 => T.trans a b c h1 h2) (fun a b => Bool.or_eq_true_iff.mpr (T.total a b)) ps).imp fun {x y} h => ?_
  have e : PySem.W.dataLe false (fun b : V × PyData => b.2) x y = !PySem.W.dataLt y.2 x.2 := by rw [PySem.W.dataLe_eq]; rfl
  rw [e] at h
  simpa using h
theorem vals_each {pins : List (Addr × Obj)} {s : Shared} {σ : L2.St} {H : Hp} (I : Inv X pins σ H s) : ∀ {ys : List V} {its : List Value} {ds : List PyData}, Vals ys its → DpAll X.K H ys ds → PySem.W.EachIs (fun (v : Value) (b : V × PyData) => RelV b.1 v ∧ Dp X.K H b.1 b.2) its (ys.zip ds)
  | [], _, [], r, _ => by cases r; exact .nil
  | y :: ys, _, d :: ds, r, h => by
    cases r with
    | cons r1 r2 =>
      cases h with
      | cons h1 h2 => exact .cons ⟨r1, h1⟩ (vals_each I r2 h2)
theorem each_vals {H : Hp} {K : PySem.W.Frag} : ∀ {its : List Value} {bs : List (V × PyData)}, PySem.W.EachIs (fun (v : Value) (b : V × PyData) => RelV b.1 v ∧ Dp K H b.1 b.2) its bs → Vals (bs.map (·.1)) its ∧ DpAll K H (bs.map (·.1)) (bs.map (·.2))
  | _, _, .nil => ⟨.nil, .nil⟩
  | _, _, .cons h t => ⟨.cons h.1 (each_vals t).1, .cons h.2 (each_vals t).2⟩
theorem cr_sortedD (hu : X.A.units + 65 < cLine) : CallR X (.builtin "sorted") (rSortedD X.K) := by
  intro pins s σ H vs us Q I r h
  obtain ⟨a, ys, ds, rfl, hs, ha, hal, hk, hdp, q⟩ := h
  obtain ⟨its, rv, hl, hz⟩ := I.list hs
  rw [Vals.ref1 r]
  have ez : (ys.zip ds).map (·.2) = ds := List.map_snd_zip (by rw [ha.length]; exact Nat.le_refl _)
  have e1 := vals_each I rv ha
  have e2 : PySem.W.EachIs (fun (v : Value) (b : V × PyData) => ∃ as, Reads s.heap v b.2 as) its (ys.zip ds) := e1.mono fun v b h => Dp.reads I b.2 b.1 v h.2 h.1
  have len : (ys.zip ds).length = ys.length := by rw [List.length_zip, ha.length, Nat.min_self]
  refine PySem.W.sorted_data (vs := its) (bs := ys.zip ds) (enc := (·.2)) hl.isList e1 e2 (by rw [ez]; exact hal) (by rw [ez]; exact hk) (by rw [len]; exact hz) (fun b hb => ?_) fun out ho hE => ?_
  · have : b.2 ∈ ds := by rw [← ez]; exact List.mem_map.mpr ⟨b, hb, rfl⟩
    have := hdp _ this
    omega
  · obtain ⟨v1, v2⟩ := each_vals hE
    obtain ⟨p1, p2⟩ := sortD_pairs (ps := ys.zip ds)
    rw [ez] at p1
    obtain ⟨cap, hc⟩ := PyProof.Rows.sortedAll_at s.heap its out.toArray
    have hz2 : (((ys.zip ds).mergeSort (PySem.W.dataLe false (·.2))).map (·.1)).length ≤ sizeLine := by rw [List.length_map, List.length_mergeSort, len]; exact hz
    exact ⟨.ref (s.heap.objs.size + 1), upd H (s.heap.objs.size + 1) (.lst (((ys.zip ds).mergeSort (PySem.W.dataLe false (·.2))).map (·.1))),
      I.laid (t' := s.toks) (fun b o e => PyProof.Rows.sortedAll_old e) (Nat.le_succ _) ⟨hz2, out, cap, v1, hc⟩, rfl, q _ _ _ v2 p1 p2 (I.hok.fresh (Nat.le_succ _))⟩
/-- t < u of data -/
def rLtD (K : PySem.W.Frag) : R2 := fun x y H Q => ∃ d e : PyData, Dp K H x d ∧ Dp K H y e ∧ PySem.W.alike d e = true ∧ d ≠ .none ∧ d.depth ≤ 30 ∧ Q (.bl (PySem.W.dataLt d e)) H
theorem op_ltD (hu : X.A.units + 65 < cLine) : OpR X (compareOp .Lt) (rLtD X.K) := by
  intro pins s σ H x y v u Q I rx ry h
  obtain ⟨d, e, hd, he, hal, hn, hdp, q⟩ := h
  obtain ⟨as, r1⟩ := Dp.reads I d x v hd rx
  obtain ⟨bs, r2⟩ := Dp.reads I e y u he ry
  exact PySem.W.lt_data r1 r2 hal hn (by omega) ⟨.bl _, H, I, rfl, q⟩
def rLeD (K : PySem.W.Frag) : R2 := fun x y H Q => ∃ d e : PyData, Dp K H x d ∧ Dp K H y e ∧ PySem.W.alike d e = true ∧ d ≠ .none ∧ d.depth ≤ 30 ∧ Q (.bl (!PySem.W.dataLt e d)) H
theorem op_leD (hu : X.A.units + 65 < cLine) : OpR X (compareOp .LtE) (rLeD X.K) := by
  intro pins s σ H x y v u Q I rx ry h
  obtain ⟨d, e, hd, he, hal, hn, hdp, q⟩ := h
  obtain ⟨as, r1⟩ := Dp.reads I d x v hd rx
  obtain ⟨bs, r2⟩ := Dp.reads I e y u he ry
  exact PySem.W.le_data r1 r2 hal hn (by omega) ⟨.bl _, H, I, rfl, q⟩
end
end Ws
/-! ## D27 -/
namespace Ws
open PySem PySem.Spec PyProof.Rows L2
def top (i : Nat) : Stmt := PySem.Challenge.pw_wholesay_k23_whole_turns_and_bars.main.body.getD i (.Pass ⟨0, 0, 0, 0⟩)
/-! ### what the top has written -/
structure Bl (mg : Str → Option Value) : Prop where
  isinstance : mg "isinstance" = none
  int : mg "int" = none
  bool : mg "bool" = none
  tuple : mg "tuple" = none
  list : mg "list" = none
  str : mg "str" = none
  len : mg "len" = none
  all : mg "all" = none
  any : mg "any" = none
  sum : mg "sum" = none
  max : mg "max" = none
  min : mg "min" = none
  range : mg "range" = none
  enumerate : mg "enumerate" = none
  repr : mg "repr" = none
  abs : mg "abs" = none
  sorted : mg "sorted" = none
  zip : mg "zip" = none
local macro_rules | `(tactic| walk_at "nf") => `(tactic| dsimp only [tNext, tSeq, tDrop, tRet, tRetN, tIfS, tAsg, gName, gCons, gNil, tVar, tC, tOp, tUn, rI, rI0, rU, rEq, rNe, tTest, tChain, tAnd, tOr, tNot, tAndV, tOrV, tNotV, tIf, tCB, tCKw, tCons, tNil, tTup, tLst, tCa, tCallS, tB, rIxT, rIxL, rIxS, cxOf, Cx.nox, Cx.wish, Cx.blk, L2.start, tPar, tPar3, tNever, tYes])
local macro_rules | `(tactic| walk_at "sx") => `(tactic| simp only [wipe, List.map_cons, List.map_nil, List.length_cons, List.length_nil, List.cons_append, List.nil_append, List.append_nil, Nat.reduceAdd, Nat.reduceSub, List.replicate, List.getElem?_cons_zero, List.getElem?_cons_succ, List.set_cons_zero, List.set_cons_succ, Option.some.injEq, V.int.injEq, V.bl.injEq, V.ref.injEq, V.str.injEq, exists_eq_left', exists_eq_left, true_and, Bool.true_eq_false, Bool.false_eq_true, if_true, if_false])
/-! ### wholesay.kinds -/
def spIsInteger (K : PySem.W.Frag) : Sp := fun vs H Q _ => ∃ v d, vs = [v] ∧ Dp K H v d ∧ Q (.bl (isI d)) H
def spIsBetween (K : PySem.W.Frag) : Sp := fun vs H Q _ => ∃ v d lo hi, vs = [v, .int lo, .int hi] ∧ Dp K H v d ∧ Q (.bl (isBt d lo hi)) H
def spIsTupleOf (K : PySem.W.Frag) : Sp := fun vs H Q _ => ∃ v d n, vs = [v, .int n] ∧ Dp K H v d ∧ Q (.bl (isTn d n)) H
def spAreBetween (K : PySem.W.Frag) : Sp := fun vs H Q _ => ∃ v d lo hi, vs = [v, .int lo, .int hi] ∧ Dp K H v d ∧ (∀ ds, d = .tuple ds → ds.length < 100000) ∧ ∀ H', Same H H' → Q (.bl (areB d lo hi)) H'
def spIsRow (K : PySem.W.Frag) : Sp := fun vs H Q _ => ∃ v d n, vs = [v, .int n] ∧ Dp K H v d ∧ n < 100000 ∧ ∀ H', Same H H' → Q (.bl (isTn d n && areB d 0 (10 ^ 60))) H'
abbrev s_is_integer : Stmt := top 10
abbrev nm_is_integer : List Str := ["value"]
abbrev pr_is_integer : List Str := ["value"]
theorem sc_is_integer : FnScope nm_is_integer pr_is_integer (defScope s_is_integer) := ⟨rfl, rfl, rfl, by decide +kernel, rfl, by decide +kernel, by decide +kernel⟩
abbrev s_is_between : Stmt := top 11
abbrev nm_is_between : List Str := ["value", "low", "high"]
abbrev pr_is_between : List Str := ["value", "low", "high"]
theorem sc_is_between : FnScope nm_is_between pr_is_between (defScope s_is_between) := ⟨rfl, rfl, rfl, by decide +kernel, rfl, by decide +kernel, by decide +kernel⟩
abbrev s_is_tuple_of : Stmt := top 12
abbrev nm_is_tuple_of : List Str := ["value", "many"]
abbrev pr_is_tuple_of : List Str := ["value", "many"]
theorem sc_is_tuple_of : FnScope nm_is_tuple_of pr_is_tuple_of (defScope s_is_tuple_of) := ⟨rfl, rfl, rfl, by decide +kernel, rfl, by decide +kernel, by decide +kernel⟩
abbrev s_are_between : Stmt := top 13
abbrev nm_are_between : List Str := ["value", "low", "high", "item"]
abbrev pr_are_between : List Str := ["value", "low", "high"]
theorem sc_are_between : FnScope nm_are_between pr_are_between (defScope s_are_between) := ⟨rfl, rfl, rfl, by decide +kernel, rfl, by decide +kernel, by decide +kernel⟩
abbrev s_is_row : Stmt := top 14
abbrev nm_is_row : List Str := ["value", "many"]
abbrev pr_is_row : List Str := ["value", "many"]
theorem sc_is_row : FnScope nm_is_row pr_is_row (defScope s_is_row) := ⟨rfl, rfl, rfl, by decide +kernel, rfl, by decide +kernel, by decide +kernel⟩
structure Cs0 (mg : Str → Option Value) : Prop where
  MOST_NUMBER : ∃ t, mg "MOST_NUMBER" = some (.int (10 ^ 60) t)
section
variable {P : Program} {w : World} {K : PySem.W.Frag} {mg : Str → Option Value} {base : Heap}
theorem ok_is_integer (B : Bl mg) (D : Dt K mg "is_integer" s_is_integer pr_is_integer) : Df P w K mg base CX0 1 "is_integer" pr_is_integer (spIsInteger K) := by
  refine D.ok sc_is_integer (fun vs H Q E h => ?_) (fun f cdv A outer s H vs Q E hr h => ?_)
  · obtain ⟨v, d, rfl, _⟩ := h
    rfl
  · obtain ⟨v, d, rfl, hd, k⟩ := h
    refine ⟨_, (pss_one (ps_ret (pe_and (pe_callB call_isi (by rfl) B.isinstance boot_isinstance (pa_cons (pv 0) (pa_cons (pe_bltn (v := .ty "int") (by rfl) B.int PyProof.Rows.boot_int rfl) pa_nil))) (pe_one (pe_not (pe_callB call_isi (by rfl) B.isinstance boot_isinstance (pa_cons (pv 0) (pa_cons (pe_bltn (v := .ty "bool") (by rfl) B.bool PyProof.Rows.boot_bool rfl) pa_nil)))))))), ?_⟩
    walk_at "nf"
    walk_at "sx"
    refine isi_int hd ⟨_, rfl, ?_⟩
    cases hx : isIB d with
    | true =>
      refine iteT (isi_bool hd ⟨_, rfl, ?_⟩)
      have e : (!isBo d) = isI d := by cases d <;> first | rfl | (simp [isIB, isI, isBo] at hx)
      rw [e]
      exact k
    | false =>
      refine iteF ?_
      have e : isI d = false := by cases d <;> first | rfl | (simp [isIB, isI, isBo] at hx)
      rw [← e]
      exact k
theorem ok_is_between (B : Bl mg) (F1 : Df P w K mg base CX0 1 "is_integer" pr_is_integer (spIsInteger K)) (D : Dt K mg "is_between" s_is_between pr_is_between) : Df P w K mg base CX0 2 "is_between" pr_is_between (spIsBetween K) := by
  refine D.ok sc_is_between (fun vs H Q E h => ?_) (fun f cdv A outer s H vs Q E hr h => ?_)
  · obtain ⟨v, d, lo, hi, rfl, _⟩ := h
    rfl
  · obtain ⟨v, d, lo, hi, rfl, hd, k⟩ := h
    refine ⟨_, (pss_one (ps_ret (pe_and (pe_f F1 (hr.mono (by decide)) pass0 (pa_cons (pv 0) pa_nil)) (pe_one (pe_chain op_le op_le (pv 1) (pv 0) (pv 2)))))), ?_⟩
    walk_at "nf"
    walk_at "sx"
    refine ⟨v, d, rfl, hd, _, rfl, ?_⟩
    cases hd with
    | int i =>
      refine iteT ⟨lo, i, rfl, rfl, ?_⟩
      by_cases c : lo ≤ i
      · rw [decide_eq_true c]
        refine iteT ⟨i, hi, rfl, rfl, ?_⟩
        have e : isBt (.int i) lo hi = decide (i ≤ hi) := by simp [isBt, c]
        rw [← e]
        exact k
      · rw [decide_eq_false c]
        refine iteF ?_
        have e : isBt (.int i) lo hi = false := by simp [isBt, c]
        rw [← e]
        exact k
    | _ => exact iteF k
theorem ok_is_tuple_of (B : Bl mg) (D : Dt K mg "is_tuple_of" s_is_tuple_of pr_is_tuple_of) : Df P w K mg base CX0 1 "is_tuple_of" pr_is_tuple_of (spIsTupleOf K) := by
  refine D.ok sc_is_tuple_of (fun vs H Q E h => ?_) (fun f cdv A outer s H vs Q E hr h => ?_)
  · obtain ⟨v, d, n, rfl, _⟩ := h
    rfl
  · obtain ⟨v, d, n, rfl, hd, k⟩ := h
    refine ⟨_, (pss_one (ps_ret (pe_and (pe_callB call_isi (by rfl) B.isinstance boot_isinstance (pa_cons (pv 0) (pa_cons (pe_bltn (v := .ty "tuple") (by rfl) B.tuple PyProof.Rows.boot_tuple rfl) pa_nil))) (pe_one (pe_cmpR op_eq (pe_callB call_len_seq (by rfl) B.len PySem.boot_len (pa_cons (pv 0) pa_nil)) (pv 1) (nomark _)))))), ?_⟩
    walk_at "nf"
    walk_at "sx"
    refine isi_tuple hd ⟨_, rfl, ?_⟩
    cases hd with
    | tup hs ha =>
      refine iteT ⟨_, _, rfl, .inr hs, rfl, ?_⟩
      rename_i a xs ds
      have e : isTn (.tuple ds) n = decide (((xs.length : Nat) : Int) = n) := by
        have := ha.length
        simp only [isTn, this]
      rw [← e]
      exact k
    | _ => exact iteF k
theorem ok_are_between (B : Bl mg) (F1 : Df P w K mg base CX0 2 "is_between" pr_is_between (spIsBetween K)) (D : Dt K mg "are_between" s_are_between pr_are_between) : Df P w K mg base CX0 3 "are_between" pr_are_between (spAreBetween K) := by
  refine D.ok sc_are_between (fun vs H Q E h => ?_) (fun f cdv A outer s H vs Q E hr h => ?_)
  · obtain ⟨v, d, lo, hi, rfl, _⟩ := h
    rfl
  · obtain ⟨v, d, lo, hi, rfl, hd, hz, k⟩ := h
    refine ⟨_, (pss_one (ps_ret (pe_and (pe_callB call_isi (by rfl) B.isinstance boot_isinstance (pa_cons (pv 0) (pa_cons (pe_bltn (v := .ty "tuple") (by rfl) B.tuple PyProof.Rows.boot_tuple rfl) pa_nil))) (pe_one (pe_callB (cr_all rfl) (by rfl) B.all boot_all (pa_cons (pe_lc (own := [("item", 3)]) (g := gName 3) (tt := tYes) (by rfl) sc_are_between.nd (pi_tup (pv 0)) (blkOk_by (own := [("item", 3)]) (N := nm_are_between) (sc := defScope s_are_between) (by decide +kernel)) (fun _ _ _ _ _ => pg_name (i := 3) sc_are_between.nd rfl (Or.inl rfl)) (fun _ _ _ _ _ => pts_nil) (fun _ _ _ _ _ => (pe_f F1 (hr.mono (by decide)) pass0 (pa_cons (pv 3) (pa_cons (pv 1) (pa_cons (pv 2) pa_nil)))))) pa_nil)))))), ?_⟩
    walk_at "nf"
    walk_at "sx"
    refine isi_tuple hd ⟨_, rfl, ?_⟩
    cases hd with
    | tup hs ha =>
      rename_i a xs ds
      refine iteT ?_
      have hl := ha.length
      refine ⟨_, rfl, a, rfl, ⟨_, hs⟩, fun L hL => lcS (walk_tup (K := K) (a := a) (xs := xs)) hL (by rw [hl]; exact slt (hz ds rfl)) (fun i y => y = V.bl (isBt (ds.getD i .none) lo hi)) (fun H1 e => Same.seqT e hs) (fun i x H1 H2 Q1 hi1 e y q => ?_) (fun H1 ys e hy hn hr => ?_)⟩
      · obtain ⟨rfl, hx⟩ := y
        obtain ⟨d, hd1, hd2⟩ := ha.getV hx
        walk_at "nf"
        walk_at "sx"
        refine ⟨x, d, lo, hi, rfl, hd2.to e, ?_⟩
        exact q _ _ (by simp [hd1]) (Same.refl _)
      · refine ⟨_, _, rfl, .of (by rw [hy]; exact congrArg (fun z => some (HO.lst z)) (vals_bl hn hr)), ?_⟩
        have e2 : (((List.range xs.length).map fun i => isBt (ds.getD i .none) lo hi).all id) = areB (.tuple ds) lo hi := by
          rw [hl]
          simp only [areB, List.all_map]
          rw [Bool.eq_iff_iff]
          simp only [List.all_eq_true, List.mem_range, Function.comp, id]
          constructor
          · intro h x hx
            obtain ⟨i, hi, rfl⟩ := List.mem_iff_getElem.mp hx
            have := h i hi
            simpa [hi] using this
          · intro h i hi
            have := h ds[i] (List.getElem_mem hi)
            simpa [hi] using this
        rw [e2]
        exact k _ e
    | _ => exact iteF (k _ (Same.refl _))
theorem ok_is_row (C : Cs0 mg) (F1 : Df P w K mg base CX0 1 "is_tuple_of" pr_is_tuple_of (spIsTupleOf K)) (F2 : Df P w K mg base CX0 3 "are_between" pr_are_between (spAreBetween K)) (D : Dt K mg "is_row" s_is_row pr_is_row) : Df P w K mg base CX0 4 "is_row" pr_is_row (spIsRow K) := by
  refine D.ok sc_is_row (fun vs H Q E h => ?_) (fun f cdv A outer s H vs Q E hr h => ?_)
  · obtain ⟨v, d, n, rfl, _⟩ := h
    rfl
  · obtain ⟨v, d, n, rfl, hd, hn, k⟩ := h
    refine ⟨_, (pss_one (ps_ret (pe_and (pe_f F1 (hr.mono (by decide)) pass0 (pa_cons (pv 0) (pa_cons (pv 1) pa_nil))) (pe_one (pe_f F2 (hr.mono (by decide)) pass0 (pa_cons (pv 0) (pa_cons pe_int (pa_cons (pe_glob (v := .int (10 ^ 60)) rfl C.MOST_NUMBER.choose_spec ⟨_, rfl⟩) pa_nil)))))))), ?_⟩
    walk_at "nf"
    walk_at "sx"
    refine ⟨v, d, n, rfl, hd, _, rfl, ?_⟩
    cases e : isTn d n with
    | true =>
      refine iteT ⟨v, d, 0, 10 ^ 60, rfl, hd, fun ds e2 => ?_, fun H' e3 => ?_⟩
      · subst e2
        simp only [isTn, decide_eq_true_eq] at e
        omega
      · have := k H' e3
        rw [e, Bool.true_and] at this
        exact this
    | false =>
      refine iteF ?_
      have := k H (Same.refl _)
      rw [e, Bool.false_and] at this
      exact this
end
/-! ### the defs that the laws share -/
local macro_rules | `(tactic| walk_at "nf") => `(tactic| dsimp only [tNext, tSeq, tDrop, tRet, tRetN, tIfS, tAsg, gName, gTup, gCons, gNil, tVar, tC, tOp, tUn, rI, rI0, rU, rEq, rNe, tTest, tChain, tAnd, tOr, tNot, tAndV, tOrV, tNotV, tIf, tCB, tCKw, tCons, tNil, tTup, tLst, tCa, tCallS, tB, rIxT, rIxL, rIxS, cxOf, Cx.nox, Cx.wish, Cx.blk, L2.start, tPar, tPar3, tNever, tYes, tBits, tRz, tBM, rAppend, tyV, tXf, suiteEnds, gSub, rSetL, tBreak, rMax, tDGet, sDPut, tSl, tNoPart, tPart, tDisp, tPairs, tDGet2, tDNewK])
local macro_rules | `(tactic| walk_at "sx") => `(tactic| simp only [wipe, List.cons.injEq, and_assoc, exists_and_left, and_true, List.map_cons, List.map_nil, List.length_cons, List.length_nil, List.cons_append, List.nil_append, List.append_nil, Nat.reduceAdd, Nat.reduceSub, List.replicate, List.getElem?_cons_zero, List.getElem?_cons_succ, List.set_cons_zero, List.set_cons_succ, Option.some.injEq, V.int.injEq, V.bl.injEq, V.ref.injEq, V.str.injEq, exists_eq_left', exists_eq_left, true_and, Bool.true_eq_false, Bool.false_eq_true, if_true, if_false])

def spDrawW : Sp := fun vs H Q _ => ∃ (a l c : Addr) (n : Nat) (lim : Int), vs = [.ref a, .int lim] ∧ LSt H a l c n ∧ n ≤ 1000000 ∧ 1 ≤ lim ∧ lim < 2 ^ 220 ∧ ∀ H' (r : Int), Sbt a l H H' → LSt H' a l c (n + 1) → 0 ≤ r → r < lim → Q (.int r) H'
def spOf : Sp := fun vs H Q _ => ∃ (a l c p : Addr) (n : Nat) (xs : List V), vs = [.ref a, .ref p] ∧ LSt H a l c n ∧ n ≤ 1000000 ∧ H p = some (.lst xs) ∧ p ≠ a ∧ p ≠ l ∧ 1 ≤ xs.length ∧ xs.length ≤ 1000 ∧ ∀ H' x, Sbt a l H H' → LSt H' a l c (n + 1) → x ∈ xs → Q x H'
abbrev s__law_mixed : Stmt := top 51
abbrev nm__law_mixed : List Str := ["cell", "k"]
abbrev pr__law_mixed : List Str := ["cell", "k"]
theorem sc__law_mixed : FnScope nm__law_mixed pr__law_mixed (defScope s__law_mixed) := ⟨rfl, rfl, rfl, by decide +kernel, rfl, by decide +kernel, by decide +kernel⟩
abbrev s__law_draw : Stmt := top 53
abbrev nm__law_draw : List Str := ["state", "limit", "at", "place", "left", "number"]
abbrev pr__law_draw : List Str := ["state", "limit"]
theorem sc__law_draw : FnScope nm__law_draw pr__law_draw (defScope s__law_draw) := ⟨rfl, rfl, rfl, by decide +kernel, rfl, by decide +kernel, by decide +kernel⟩
abbrev s__law_like : Stmt := top 56
abbrev nm__law_like : List Str := ["got", "due"]
abbrev pr__law_like : List Str := ["got", "due"]
theorem sc__law_like : FnScope nm__law_like pr__law_like (defScope s__law_like) := ⟨rfl, rfl, rfl, by decide +kernel, rfl, by decide +kernel, by decide +kernel⟩
abbrev s__law_begin : Stmt := top 52
abbrev nm__law_begin : List Str := ["script", "cells_so", "cell"]
abbrev pr__law_begin : List Str := ["script"]
theorem sc__law_begin : FnScope nm__law_begin pr__law_begin (defScope s__law_begin) := ⟨rfl, rfl, rfl, by decide +kernel, rfl, by decide +kernel, by decide +kernel⟩
section
variable {P : Program} {w : World} {K : PySem.W.Frag} {mg : Str → Option Value} {base : Heap}
theorem ok_mixed (B : Bl mg) (D : Dt K mg "_law_mixed" s__law_mixed pr__law_mixed) : Df P w K mg base CX0 1 "_law_mixed" pr__law_mixed spMixed := by
  refine D.ok sc__law_mixed (fun vs H Q E h => ?_) (fun f cdv A outer s H vs Q E hr h => ?_)
  · obtain ⟨i, k, rfl, _⟩ := h
    rfl
  · obtain ⟨i, k, rfl, hk1, hk2, q⟩ := h
    refine ⟨_, (pss_cons (ps_set (i := 0) sc__law_mixed.nd rfl (Or.inl rfl) (pe_op op_mod (pe_callTy call_int1 (by rfl) B.int PyProof.Rows.boot_int (pa_cons (pv 0) pa_nil)) pe_int)) (pss_one (ps_ret (pe_op op_mod (pe_op op_mul (pe_op op_mod (pe_op op_add (pe_op op_add (pe_op op_mul (pv 0) (pe_op op_add pe_int (pe_op op_mul (pe_op op_mul pe_int (pv 1)) (pv 1)))) (pe_op op_mul pe_int (pv 1))) pe_int) pe_int) pe_int) pe_int)))), ?_⟩
    walk_at "nf"
    walk_at "sx"
    have m1 := Int.emod_nonneg i (show (2147483647 : Int) ≠ 0 by decide)
    have m2 := Int.emod_lt_of_pos i (show (0 : Int) < 2147483647 by decide)
    generalize hz : (i % 2147483647 * (48271 + 2 * k * k) + 69621 * k + 11) = z
    refine .inl ⟨by decide, .inl ⟨by decide, by decide⟩, .inr ⟨by omega, by omega⟩, .inl ⟨by omega, by omega⟩, .inl ⟨by decide, by decide⟩, by decide, .inr ⟨by decide, by decide⟩, by decide, q _ (Int.emod_nonneg _ (by decide)) (Int.emod_lt_of_pos _ (by decide))⟩
theorem ok_draw (B : Bl mg) (F1 : Df P w K mg base CX0 1 "_law_mixed" pr__law_mixed spMixed) (D : Dt K mg "_law_draw" s__law_draw pr__law_draw) : Df P w K mg base CX0 2 "_law_draw" pr__law_draw spDrawW := by
  refine D.ok sc__law_draw (fun vs H Q E h => ?_) (fun f cdv A outer s H vs Q E hr h => ?_)
  · obtain ⟨a, l, c, n, lim, rfl, _⟩ := h
    rfl
  · obtain ⟨a, l, c, n, lim, rfl, hs, hn, h1, h2, k⟩ := h
    refine ⟨_, (pss_cons (ps_set (i := 2) sc__law_draw.nd rfl (Or.inl rfl) (pe_dget (hu_of hr) (pv 0) pe_str (fun _ _ => rfl))) (pss_cons (ps_dput (hu_of hr) (pv 0) pe_str (pe_op op_add (pv 2) pe_int) rfl) (pss_cons (ps_set (i := 3) sc__law_draw.nd rfl (Or.inl rfl) (pe_op op_mod (pe_callTy call_int1 (by rfl) B.int PyProof.Rows.boot_int (pa_cons (pv 2) pa_nil)) (pe_callB call_len_seq (by rfl) B.len PySem.boot_len (pa_cons (pe_dget (hu_of hr) (pv 0) pe_str (fun _ _ => rfl)) pa_nil)))) (pss_cons (ps_set (i := 4) sc__law_draw.nd rfl (Or.inl rfl) (pe_ix ix_list (pe_dget (hu_of hr) (pv 0) pe_str (fun _ _ => rfl)) (pv 3) (fun _ _ => rfl))) (pss_cons (ps_if (pt_cmpR op_gt (pv 4) pe_int (nomark _)) (pss_cons (ps_asg (pe_op op_fdivW (pv 4) (pv 1)) (pg_sub (pe_dget (hu_of hr) (pv 0) pe_str (fun _ _ => rfl)) (pv 3) set_list)) (pss_one (ps_ret (pe_op op_mod (pe_callTy call_int1 (by rfl) B.int PyProof.Rows.boot_int (pa_cons (pv 4) pa_nil)) (pv 1))))) pss_nil) (pss_cons (ps_set (i := 5) sc__law_draw.nd rfl (Or.inl rfl) (pe_f F1 (hr.mono (by decide)) pass0 (pa_cons (pe_f F1 (hr.mono (by decide)) pass0 (pa_cons (pe_ix ix_list (pe_dget (hu_of hr) (pv 0) pe_str (fun _ _ => rfl)) (pv 3) (fun _ _ => rfl)) (pa_cons (pv 2) pa_nil))) (pa_cons (pe_op op_add pe_int (pv 2)) pa_nil)))) (pss_one (ps_ret (pe_op op_mod (pe_op op_fdiv (pe_callTy call_int1 (by rfl) B.int PyProof.Rows.boot_int (pa_cons (pe_op op_add (pe_op op_mul (pv 5) pe_int) (pe_f F1 (hr.mono (by decide)) pass0 (pa_cons (pv 5) (pa_cons (pe_op op_add pe_int (pv 2)) pa_nil)))) pa_nil)) pe_int) (pv 1)))))))))), ?_⟩
    walk_at "nf"
    walk_at "sx"
    obtain ⟨cs, ls, m, S⟩ := hs
    have hac : a ≠ c := ne_of S.top S.cells (by intro z; cases z)
    have hal : a ≠ l := ne_of S.top S.lefts (by intro z; cases z)
    have hq : m % cs.length < cs.length := Nat.mod_lt _ S.pos
    have hq2 : m % cs.length < ls.length := by rw [S.len]; exact hq
    have em : ((m : Nat) : Int) % (((cs.map V.int).length : Nat) : Int) = ((m % cs.length : Nat) : Int) := by
      rw [List.length_map]
      exact (Int.natCast_emod m cs.length).symm
    have top1 : upd H a (.dK (stK c l (m + 1))) a = some (.dK (stK c l (m + 1))) := upd_same
    have cells1 : upd H a (.dK (stK c l (m + 1))) c = some (.lst (cs.map V.int)) := by rw [upd_ne (Ne.symm hac)]; exact S.cells
    have lefts1 : upd H a (.dK (stK c l (m + 1))) l = some (.lst (ls.map V.int)) := by rw [upd_ne (Ne.symm hal)]; exact S.lefts
    have few := S.few
    refine ⟨_, dg_at S.top, m, rfl, _, dp_at S.top, .inl ⟨m, rfl, _, dg_cells top1, c, rfl, _, .inl (.of cells1), by rw [List.length_map]; have := S.pos; omega, _, dg_lefts top1, l, rfl, _, .of lefts1, ?_⟩⟩
    rw [em]
    refine ⟨V.int (ls.getD (m % cs.length) 0), atI_nat (by simp [hq2]), _, rfl, ?_⟩
    generalize hleft : ls.getD (m % cs.length) 0 = left
    by_cases hp : 0 < left
    · rw [decide_eq_true hp]
      refine iteT ⟨left, rfl, wide_div (b := 220) (by omega) (by omega) (by decide) (by decide), _, dg_lefts top1, l, rfl, _, lefts1, m % cs.length, ?_, .inl ⟨left, rfl, by omega, ?_⟩⟩
      · unfold ixN
        rw [if_pos (by omega), List.length_map, if_pos (by omega), Int.toNat_natCast]
      · refine k _ _ (Sbt.refl H).a.l ⟨cs, ls.set (m % cs.length) (left / lim), m + 1, ?_, ?_, ?_, by rw [List.length_set]; exact S.len, S.pos, by omega, S.apart⟩ (Int.emod_nonneg _ (by omega)) (Int.emod_lt_of_pos _ (by omega))
        · rw [upd_ne hal]
          exact top1
        · rw [upd_ne S.apart]
          exact cells1
        · rw [upd_same, List.map_set]
    · rw [decide_eq_false hp]
      have fin : ∀ r : Int, 0 ≤ r → r < lim → Q (.int r) (upd H a (.dK (stK c l (m + 1)))) := fun r r1 r2 => k _ r (Sbt.refl H).a ⟨cs, ls, m + 1, top1, cells1, lefts1, S.len, S.pos, by omega, S.apart⟩ r1 r2
      refine iteF ⟨_, dg_cells top1, c, rfl, _, .of cells1, V.int (cs.getD (m % cs.length) 0), atI_nat (by simp [hq]), _, _, rfl, by omega, by omega, fun r1 a1 b1 => ⟨m, rfl, _, _, rfl, by omega, by omega, fun r2 a2 b2 => ⟨r2, rfl, .inr ⟨by decide, by decide⟩, m, rfl, _, _, rfl, by omega, by omega, fun r3 a3 b3 => ⟨r3, rfl, .inl ⟨⟨by decide, by decide⟩, by omega, ?_⟩⟩⟩⟩⟩
      exact fin _ (Int.emod_nonneg _ (by omega)) (Int.emod_lt_of_pos _ (by omega))
theorem ok_like (B : Bl mg) (D : Dt K mg "_law_like" s__law_like pr__law_like) : DfG P w K mg base CX0 1 "_law_like" pr__law_like (spLike K) := by
  refine D.okG sc__law_like (fun vs H Q E h => ?_) (fun f cdv A outer s H vs Q E hG hr h => ?_)
  · obtain ⟨v, u, d, N, D, rfl, _⟩ := h
    rfl
  · obtain ⟨v, u, d, N, D, rfl, hv, hu, hs, hN, hD, k⟩ := h
    refine ⟨_, (pss_one (ps_ret (pe_cmpR op_eq (pe_callB (call_reprD hG hr.units) (by rfl) B.repr boot_repr (pa_cons (pv 0) pa_nil)) (pe_callB (call_reprD hG hr.units) (by rfl) B.repr boot_repr (pa_cons (pv 1) pa_nil)) (nomark _)))), ?_⟩
    walk_at "nf"
    walk_at "sx"
    refine ⟨d, hv, hs.sh, hs.nd, by have := hs.dp; omega, hs.fits hN, d, hu, hs.sh, hs.nd, by have := hs.dp; omega, hs.fits hN, rfl, ?_⟩
    rw [decide_eq_true rfl]
    exact k
theorem ok_begin (B : Bl mg) (D : Dt K mg "_law_begin" s__law_begin pr__law_begin) : Df P w K mg base CX0 1 "_law_begin" pr__law_begin (spBegin K) := by
  refine D.ok sc__law_begin (fun vs H Q E h => ?_) (fun f cdv A outer s H vs Q E hr h => ?_)
  · obtain ⟨p, is, rfl, _⟩ := h
    rfl
  · obtain ⟨p, is, rfl, hs, hl, k⟩ := h
    refine ⟨_, (pss_cons (ps_set (i := 1) sc__law_begin.nd rfl (Or.inl rfl) (pe_ifExp (pt_cmpR (op_neD hr.units) (pv 0) (pe_lst pa_nil) (nomark _)) (pe_callTy call_list_of (by rfl) B.list PyProof.Rows.boot_list (pa_cons (pv 0) pa_nil)) (pe_lst (pa_cons pe_int pa_nil)))) (pss_one (ps_ret (pe_disp (pps_cons pe_str (pv 1) (pps_cons pe_str (pe_lc (own := [("cell", 2)]) (g := gName 2) (tt := tYes) (by rfl) sc__law_begin.nd (pi_list (pv 1)) (blkOk_by (own := [("cell", 2)]) (N := nm__law_begin) (sc := defScope s__law_begin) (by decide +kernel)) (fun _ _ _ _ _ => pg_name (i := 2) sc__law_begin.nd rfl (Or.inl rfl)) (fun _ _ _ _ _ => pts_nil) (fun _ _ _ _ _ => (pe_ifExp (pt_cmpR op_ge (pv 2) (pe_op op_pow pe_int pe_int) (nomark _)) (pv 2) pe_int))) (pps_cons pe_str pe_int pps_nil))) (by rfl) (by rfl) (fun z => by cases z) (by decide))))), ?_⟩
    walk_at "nf"
    walk_at "sx"
    have fin : ∀ (G : Hp) (l : Addr) (zs : List Int), Same H G → G l = some (.lst (zs.map V.int)) → 0 < zs.length → zs.length ≤ 1000 → ∀ p2, G p2 = none →
        tLc (iList K (tVar 1)) (gName 2) tYes (tIf (tTest (tOp (rI0 fun i j => V.bl (decide (j ≤ i))) (tVar 2) (tOp (rI CPow fun i j => V.int (i ^ j.toNat)) (tC (V.int 10)) (tC (V.int 18))))) (tVar 2) (tC (V.int 0)))
          [2] [some (V.ref p), some (V.ref l), none] (upd G p2 (HO.dK [])) fun y H2 => H2 p2 = some (HO.dK []) ∧ ∃ kvs : List (Key × V),
            [(V.str (Str.ofString "cells"), V.ref l), (V.str (Str.ofString "lefts"), y), (V.str (Str.ofString "at"), V.int 0)] = List.map (fun kv => (kV kv.fst, kv.snd)) kvs ∧ kvs.length ≤ 15 ∧ Q (V.ref p2) (upd H2 p2 (HO.dK (mergeK [] kvs))) := by
      intro G l zs e hl2 hz1 hz2 p2 hp2
      have hl3 : upd G p2 (HO.dK []) l = some (.lst (zs.map V.int)) := by rw [upd_ne (ne_of_none hl2 hp2)]; exact hl2
      try walk_at "nf"
      try walk_at "sx"
      refine ⟨_, rfl, l, rfl, ⟨_, .of hl3⟩, fun D hD => lcS walk_list hD (by rw [List.length_map]; exact slt (by omega)) (fun _ y => ∃ z : Int, y = .int z) (fun H1 e1 => .of (e1 _ _ hl3)) (fun i x H1 H2 Q1 hi1 e1 y q => ?_) (fun H1 ys e1 hy hn hr => ?_)⟩
      · obtain ⟨rfl, hx⟩ := y
        obtain ⟨z, hz, rfl⟩ := List.mem_map.mp (List.mem_of_getElem? hx)
        try walk_at "nf"
        try walk_at "sx"
        refine ⟨⟨by decide, by decide, by decide⟩, ?_⟩
        refine ite2 (fun _ => q _ _ ⟨_, rfl⟩ (Same.refl _)) (fun _ => q _ _ ⟨_, rfl⟩ (Same.refl _))
      · obtain ⟨ls, rfl, hlen⟩ := ints_any hr
        have hp3 : H1 p2 = some (.dK []) := e1 _ _ upd_same
        refine ⟨hp3, [(.inr "cells", .ref l), (.inr "lefts", .ref D), (.inr "at", .int 0)], rfl, by show 3 ≤ 15; omega, ?_⟩
        have em : mergeK [] [((.inr ("cells" : Str) : Key), V.ref l), (.inr ("lefts" : Str), V.ref D), (.inr ("at" : Str), V.int 0)] = stK l D 0 := by
          have k4 : ¬ (("lefts" : Str) = "cells") := by decide +kernel
          have k5 : ¬ (("cells" : Str) = "lefts") := ks3
          simp [mergeK, putK, stK, ks1, ks2, k4, k5]
        rw [em]
        have hl4 := e1 _ _ hl3
        have hDl : D ≠ l := fun z => by rw [z, hl3] at hD; cases hD
        refine k _ p2 D l ?_ ⟨zs, ls, 0, upd_same, by rw [upd_ne (ne_of_none hl2 hp2)]; exact hl4, by rw [upd_ne (fun z => by rw [z, upd_same] at hD; cases hD)]; exact hy, by rw [hlen, hn, List.length_map], hz1, Nat.le_refl _, Ne.symm hDl⟩
        intro b o hb
        have hb2 := e _ _ hb
        have nb : b ≠ p2 := ne_of_none hb2 hp2
        rw [upd_ne nb]
        exact e1 _ _ (by rw [upd_ne nb]; exact hb2)
    refine ⟨by decide, fun p1 hp1 => ⟨.list (is.map PyData.int), .list [], .lst ((Same.new hp1).seq hs) (DpAll.ints is), .lst (.of upd_same) .nil, shaped_ints is, rfl, _, rfl, ?_⟩⟩
    cases is with
    | nil => exact iteF ⟨by decide, fun p2 hp2 => fun p3 hp3 => fin _ p2 [0] ((Same.new hp1).then_new hp2) upd_same (by decide) (by decide) p3 hp3⟩
    | cons z zs =>
      refine iteT ⟨_, .inl ((Same.new hp1).seq hs), fun p2 hp2 => fun p3 hp3 => fin _ p2 (z :: zs) ((Same.new hp1).then_new hp2) upd_same (by simp) hl p3 hp3⟩
end
end Ws
/-! ## U27 -/
namespace Ws
open PySem PySem.Spec PyProof.Rows L2 RZ
theorem walk_zipT {K : PySem.W.Frag} {a b : Addr} {xs ys : List V} : Walk (ItzT K a b) (min xs.length ys.length) (fun H => SqT K H a xs ∧ SqT K H b ys) (YPair (fun i => xs[i]?) (fun i => ys[i]?)) := by
  refine ⟨fun i _ hi q => ⟨xs, ys, xs[i]'(by omega), ys[i]'(by omega), q.1, q.2, by rw [List.getElem?_eq_getElem], by rw [List.getElem?_eq_getElem]⟩, fun _ q => ⟨xs, ys, q.1, q.2, by omega⟩, fun i H v H' _ q y => ?_⟩
  obtain ⟨T, x, z, h1, h2, h3, h4, h5⟩ := y
  exact ⟨T, x, z, h1, h2, h3, h4 xs q.1, h5 ys q.2⟩
def intsD (xs : List Int) : PyData := .tuple (xs.map PyData.int)
section
variable {K : PySem.W.Frag}
def isS : PyData → Bool
  | .str _ => true
  | _ => false
theorem kit_str : ∀ d : PyData, PySem.W.kitOne K (.type (tyName d)) (.type "str") = some (isS d)
  | .none => kit_ty (by decide +kernel)
  | .bool _ => kit_ty (by show kitB "bool" "str" = some false; decide +kernel)
  | .int _ => kit_ty (by show kitB "int" "str" = some false; decide +kernel)
  | .str _ => kit_ty (by show kitB "str" "str" = some true; decide +kernel)
  | .list _ => kit_ty (by show kitB "list" "str" = some false; decide +kernel)
  | .tuple _ => kit_ty (by show kitB "tuple" "str" = some false; decide +kernel)
  | .dict _ => kit_ty (by show kitB "dict" "str" = some false; decide +kernel)
theorem isi_str {H : Hp} {v : V} {d : PyData} {Q : VK} (h : Dp K H v d) (q : Q (.bl (isS d)) H) : rIsi K [v, .ty "str"] H Q := ⟨v, _, _, _, _, rfl, .ty _, dp_ty h, kit_str d, q⟩
end
/-- an error of the class at C with a field f of the data d is handed on -/
def OutF (K : PySem.W.Frag) (C : Addr) (f : Str) (d : PyData) (H : Hp) (E : XK) : Prop := ∀ H' dd u, Same H H' → Dp K H' u d → H' dd = some (.xd [(f, u)]) → E (.ref C) (some dd) H'
theorem OutF.to {K : PySem.W.Frag} {C : Addr} {f : Str} {d : PyData} {H H1 : Hp} {E : XK} (h : OutF K C f d H E) (e : Same H H1) : OutF K C f d H1 E := fun H' dd u e' => h H' dd u (e.trans e')
theorem rz_f {K : PySem.W.Frag} {C : Addr} {f : Str} {d : PyData} {H H1 : Hp} {E : XK} {v : V} {σ : L2.St} (h : OutF K C f d H E) (e : Same H H1) (hv : Dp K H1 v d) : rzQ C f (fun cls d _ H => E cls d H) σ v H1 := rz_ok fun dd hd => h _ dd v (e.then_new hd) (hv.to (Same.new hd)) upd_same
def OutW (C : Addr) (f : Str) (v : V) (H : Hp) (E : XK) : Prop := ∀ H' dd, Same H H' → H' dd = some (.xd [(f, v)]) → E (.ref C) (some dd) H'
theorem rz_w {C : Addr} {f : Str} {H H1 : Hp} {E : XK} {v : V} {σ : L2.St} (h : OutW C f v H E) (e : Same H H1) : rzQ C f (fun cls d _ H => E cls d H) σ v H1 := rz_ok fun dd hd => h _ dd (e.then_new hd) upd_same

theorem noList_ints (xs : List Int) : noList (intsD xs) = true := noListAll_of fun x hx => by
  obtain ⟨i, _, rfl⟩ := List.mem_map.mp hx
  rfl
/-! ### what a tuple of told data is -/
theorem tup_view {K : PySem.W.Frag} {H : Hp} {α : Type} {f : α → PyData} {xs : List α} {v : V} (h : Dp K H v (.tuple (xs.map f))) : ∃ p zs, v = .ref p ∧ SqT K H p zs ∧ zs.length = xs.length ∧ (∀ (i : Nat) z, zs[i]? = some z → ∃ x, xs[i]? = some x ∧ Dp K H z (f x)) ∧ DpAll K H zs (xs.map f) := by
  obtain ⟨p, zs, rfl, hs, ha⟩ := h.tup_inv
  have hl := ha.length
  rw [List.length_map] at hl
  refine ⟨p, zs, rfl, hs, hl, fun i z hz => ?_, ha⟩
  obtain ⟨d, h1, h2⟩ := ha.getV hz
  rw [List.getElem?_map] at h1
  cases e : xs[i]? with
  | none => rw [e] at h1; cases h1
  | some x =>
    rw [e] at h1
    cases h1
    exact ⟨x, rfl, h2⟩
theorem row_view {K : PySem.W.Frag} {H : Hp} {v : V} {ns : List Nat} (h : Dp K H v (rowD ns)) : ∃ p, v = .ref p ∧ SqT K H p ((nI ns).map V.int) := h.ints_tup
theorem row_of {K : PySem.W.Frag} {H : Hp} {p : Addr} {ns : List Nat} (h : SqT K H p ((nI ns).map V.int)) : Dp K H (.ref p) (rowD ns) := Dp.tup_ints h
theorem nI_get {ns : List Nat} {i : Nat} {x : V} (h : ((nI ns).map V.int)[i]? = some x) : ∃ n, ns[i]? = some n ∧ x = .int (n : Nat) := by
  unfold nI at h
  rw [List.map_map, List.getElem?_map] at h
  cases e : ns[i]? with
  | none => rw [e] at h; cases h
  | some n => rw [e] at h; cases h; exact ⟨n, rfl, rfl⟩
theorem nI_app (a b : List Nat) : nI (a ++ b) = nI a ++ nI b := List.map_append
end Ws
/-! ## C27 -/
namespace Ws
open PySem PySem.Spec PyProof.Rows L2 LamX
/-! ### data that is drawn: what an expression that draws may make -/
theorem Tabs.sbt {T : List (Addr × Str)} {a l c : Addr} {m : Nat} {H H' : Hp} (t : Tabs T H) (s : LSt H a l c m) (e : Sbt a l H H') : Tabs T H' := fun x hx => by
  obtain ⟨ps, h1, h2, h3⟩ := t x hx
  obtain ⟨cs, ls, k, S⟩ := s
  refine ⟨ps, e _ _ h1 (fun z => by rw [z, S.top] at h1; cases h1) (fun z => by rw [z, S.lefts] at h1; cases h1), h2, fun pos cv hc => ?_⟩
  obtain ⟨c, e1, e2⟩ := h3 pos cv hc
  exact ⟨c, e1, e _ _ e2 (fun z => by rw [z, S.top] at e2; cases e2) (fun z => by rw [z, S.lefts] at e2; cases e2)⟩
def GX (S : List Addr) (H H' : Hp) : Prop := ExtN (hid S H) (hid S H') ∧ ∀ T, Tabs T H → Tabs T H'
theorem GX.refl {S : List Addr} (H : Hp) : GX S H H := ⟨ExtN.refl _, fun _ t => t⟩
theorem GX.trans {S : List Addr} {H H1 H2 : Hp} (a : GX S H H1) (b : GX S H1 H2) : GX S H H2 := ⟨ExtN.trans a.1 b.1, fun T t => b.2 T (a.2 T t)⟩
theorem GX.of {S : List Addr} {H H1 : Hp} (e : Same H H1) : GX S H H1 := ⟨hid_ext (Same.extN e), fun T t => Tabs.same t e⟩
theorem GX.new {S : List Addr} {H : Hp} {p : Addr} {o : HO} (h : H p = none) : GX S H (upd H p o) := GX.of (Same.new h)
theorem gx_sbt {a l c : Addr} {m : Nat} {H H1 : Hp} (s : LSt H a l c m) (e : Sbt a l H H1) : GX [a, l] H H1 := ⟨fun b o h n => by
  unfold hid at h ⊢
  split at h
  · cases h
  · rename_i m
    rw [if_neg m]
    simp only [List.mem_cons, List.not_mem_nil, or_false, not_or] at m
    exact e b o h m.1 m.2, fun T t => Tabs.sbt t s e⟩
theorem lst_st {H : Hp} {a l c : Addr} {m : Nat} (h : LSt H a l c m) : Lsts [a, l] H := fun b hb => by
  obtain ⟨cs, ls, k, S⟩ := h
  simp only [List.mem_cons, List.not_mem_nil, or_false] at hb
  rcases hb with rfl | rfl
  · exact ⟨_, S.top, .inr ⟨_, rfl⟩⟩
  · exact ⟨_, S.lefts, .inl ⟨_, rfl⟩⟩
section
variable {K : PySem.W.Frag} {S : List Addr} {H H1 : Hp}
theorem _root_.L2.Dp.gx {v : V} {d : PyData} (h : Dp K (hid S H) v d) (e : GX S H H1) : Dp K (hid S H1) v d := Dp.ext e.1 d v h
theorem _root_.L2.DpAll.gx {v : List V} {d : List PyData} (h : DpAll K (hid S H) v d) (e : GX S H H1) : DpAll K (hid S H1) v d := Dp.exts e.1 d v h
end
section
variable (K : PySem.W.Frag) (a l c : Addr)
def DW (s : Nat) (te : TE) (σ : L2.St) (H : Hp) (P : PyData → Prop) : Prop := ∀ H1 m, GX [a, l] H H1 → LSt H1 a l c m → m + s ≤ 1000000 → ∀ Q : VK, (∀ H' v d, GX [a, l] H1 H' → LSt H' a l c (m + s) → P d → Dp K (hid [a, l] H') v d → Q v H') → te σ H1 Q
def DWs (s : Nat) (ta : TA) (σ : L2.St) (H : Hp) (P : List PyData → Prop) : Prop := ∀ H1 m, GX [a, l] H H1 → LSt H1 a l c m → m + s ≤ 1000000 → ∀ Q : List V → Hp → Prop, (∀ H' vs ds, GX [a, l] H1 H' → LSt H' a l c (m + s) → P ds → DpAll K (hid [a, l] H') vs ds → Q vs H') → ta σ H1 Q
end
def OW (to : TO) (σ : L2.St) (o : Option Int) : Prop := ∀ H Q, Q o H → to σ H Q
theorem OW.no {σ : L2.St} : OW tNoPart σ none := fun _ _ q => q
theorem OW.int {σ : L2.St} {i : Int} : OW (tPart (tC (.int i))) σ (some i) := fun _ _ q => ⟨i, rfl, q⟩
theorem OW.neg {σ : L2.St} {i : Int} : OW (tPart (tUn (rU fun i => V.int (-i)) (tC (.int i)))) σ (some (-i)) := fun _ _ q => ⟨i, rfl, -i, rfl, q⟩
theorem OW.var {σ : L2.St} {j : Nat} {i : Int} (h : σ[j]? = some (some (.int i))) : OW (tPart (tVar j)) σ (some i) := fun _ _ q => ⟨_, h, i, rfl, q⟩
theorem OW.add {σ : L2.St} {j : Nat} {i k : Int} (h : σ[j]? = some (some (.int i))) : OW (tPart (tOp (rI0 fun i j => V.int (i + j)) (tVar j) (tC (.int k)))) σ (some (i + k)) := fun _ _ q => ⟨_, h, i, k, rfl, rfl, i + k, rfl, q⟩
def cutD (xs : List PyData) (lo hi : Option Int) : List PyData := (xs.drop (HT.sIx xs.length 0 lo)).take (HT.sIx xs.length xs.length hi - HT.sIx xs.length 0 lo)
section
variable {K : PySem.W.Frag} {a l c : Addr} {s s1 s2 : Nat} {te ta tb : TE} {tas : TA} {σ : L2.St} {H : Hp} {P R : PyData → Prop} {Ps : List PyData → Prop}
theorem cut_dp {H : Hp} {xs : List V} {ds : List PyData} (h : DpAll K H xs ds) (lo hi : Option Int) : DpAll K H (cutV xs lo hi) (cutD ds lo hi) := by
  unfold cutV cutD
  rw [h.length]
  exact (h.drop _).take _
theorem DW.mono (h : DW K a l c s te σ H P) (hp : ∀ d, P d → R d) (hs : s ≤ s1 := by omega) : DW K a l c s1 te σ H R := fun H1 m g t b Q q => h H1 m g t (by omega) Q fun H' v d g2 t2 p hv => q H' v d g2 (t2.mono (by omega)) (hp d p) hv
theorem DW.int {i : Int} : DW K a l c 0 (tC (.int i)) σ H (· = .int i) := fun H1 m _ t _ Q q => q H1 _ _ (GX.refl _) t rfl (.int i)
theorem DW.str {x : Str} : DW K a l c 0 (tC (.str x)) σ H (· = .str x) := fun H1 m _ t _ Q q => q H1 _ _ (GX.refl _) t rfl (.str x)
theorem DW.bl {b : Bool} : DW K a l c 0 (tC (.bl b)) σ H (· = .bool b) := fun H1 m _ t _ Q q => q H1 _ _ (GX.refl _) t rfl (.bl b)
theorem DW.non : DW K a l c 0 (tC .non) σ H (· = .none) := fun H1 m _ t _ Q q => q H1 _ _ (GX.refl _) t rfl .non
theorem DW.var {i : Nat} {v : V} {d : PyData} (h : σ[i]? = some (some v)) (hd : Dp K (hid [a, l] H) v d) : DW K a l c 0 (tVar i) σ H (· = d) := fun H1 m g t _ Q q => ⟨v, h, q H1 v d (GX.refl _) t rfl (hd.gx g)⟩
theorem DWs.nil : DWs K a l c 0 tNil σ H (· = []) := fun H1 m _ t _ Q q => q H1 [] [] (GX.refl _) t rfl .nil
theorem DWs.cons (x : DW K a l c s1 te σ H P) (y : DWs K a l c s2 tas σ H Ps) : DWs K a l c (s1 + s2) (tCons te tas) σ H (fun ds => ∃ d es, ds = d :: es ∧ P d ∧ Ps es) := fun H1 m g t b Q q =>
  x H1 m g t (by omega) _ fun H2 v d g2 t2 p hv => y H2 _ (g.trans g2) t2 (by omega) _ fun H3 vs es g3 t3 ps hs => q H3 (v :: vs) (d :: es) (g2.trans g3) (t3.mono (by omega)) ⟨d, es, rfl, p, ps⟩ (.cons (hv.gx g3) hs)
theorem DWs.one (x : DW K a l c s te σ H P) : DWs K a l c s (tCons te tNil) σ H (fun ds => ∃ d, ds = [d] ∧ P d) := fun H1 m g t b Q q =>
  x H1 m g t b _ fun H2 v d g2 t2 p hv => q H2 [v] [d] g2 t2 ⟨d, rfl, p⟩ (.cons hv .nil)
theorem DW.tup (x : DWs K a l c s tas σ H Ps) (hl : ∀ ds, Ps ds → ds.length ≤ 100000) : DW K a l c s (tTup tas) σ H (fun d => ∃ ds, d = .tuple ds ∧ Ps ds) := fun H1 m g t b Q q =>
  x H1 m g t b _ fun H2 vs ds g2 t2 p hs => ⟨by have := hl ds p; rw [hs.length, sizeLine_eq]; omega, fun r hr => q _ _ _ (g2.trans (GX.new hr)) (t2.new hr) ⟨ds, rfl, p⟩ (.tup (seqT_hid (lst_st (t2.new hr)) (.of upd_same)) (hs.gx (GX.new hr)))⟩
theorem DW.cat (x : DW K a l c s1 ta σ H P) (y : DW K a l c s2 tb σ H R) (hp : ∀ d, P d → ∃ ds, d = .tuple ds ∧ ds.length ≤ 100000) (hr : ∀ d, R d → ∃ ds, d = .tuple ds ∧ ds.length ≤ 100000) :
    DW K a l c (s1 + s2) (tOp (rCatA K) ta tb) σ H (fun d => ∃ ds es, d = .tuple (ds ++ es) ∧ P (.tuple ds) ∧ R (.tuple es)) := fun H1 m g t b Q q =>
  x H1 m g t (by omega) _ fun H2 v d g2 t2 p hv => y H2 _ (g.trans g2) t2 (by omega) _ fun H3 u e g3 t3 r hu => by
    obtain ⟨ds, rfl, hl1⟩ := hp d p
    obtain ⟨es, rfl, hl2⟩ := hr e r
    obtain ⟨p1, xs, rfl, hs1, ha1⟩ := hv.tup_inv
    obtain ⟨p2, ys, rfl, hs2, ha2⟩ := hu.tup_inv
    refine cat_ok (seqTE hid_out (seqTE g3.1 hs1)) (seqTE hid_out hs2) (by rw [ha1.length, ha2.length, sizeLine_eq]; omega) fun r1 H4 e4 h4 => ?_
    have t4 := t3.same e4
    exact q _ _ _ ((g2.trans g3).trans (GX.of e4)) (t4.mono (by omega)) ⟨ds, es, rfl, p, r⟩ (.tup (seqT_hid (lst_st t4) h4) ((ha1.gx (g3.trans (GX.of e4))).append (ha2.gx (GX.of e4))))
theorem DW.cut {lo hi : Option Int} {to tu : TO} (x : DW K a l c s te σ H P) (h1 : OW to σ lo) (h2 : OW tu σ hi) (hp : ∀ d, P d → ∃ ds, d = .tuple ds) :
    DW K a l c s (L2.tSl (rSlA K) te to tu) σ H (fun d => ∃ ds, d = .tuple (cutD ds lo hi) ∧ P (.tuple ds)) := fun H1 m g t b Q q =>
  x H1 m g t b _ fun H2 v d g2 t2 p hv => h1 _ _ (h2 _ _ (by
    obtain ⟨ds, rfl⟩ := hp d p
    obtain ⟨p1, xs, rfl, hs1, ha1⟩ := hv.tup_inv
    refine sl_ok (seqTE hid_out hs1) fun r1 H4 e4 h4 => ?_
    have t4 := t2.same e4
    exact q _ _ _ (g2.trans (GX.of e4)) t4 ⟨ds, rfl, p⟩ (.tup (seqT_hid (lst_st t4) h4) ((cut_dp ha1 lo hi).gx (GX.of e4)))))
theorem at_dp {H : Hp} {xs : List V} {ds : List PyData} {i : Int} {d : PyData} (h : DpAll K H xs ds) (e : atI ds i = some d) : ∃ x, atI xs i = some x ∧ Dp K H x d := by
  unfold atI at e ⊢
  rw [h.length]
  cases hi : ixN ds.length i with
  | none => rw [hi] at e; cases e
  | some j =>
    rw [hi] at e
    have hj : j < ds.length := (List.getElem?_eq_some_iff.mp (show ds[j]? = some d from e)).1
    obtain ⟨x, hx, _, hd⟩ := h.at_ hj
    refine ⟨x, hx, ?_⟩
    have e2 : ds[j]? = some d := e
    have : ds.getD j .none = d := by rw [List.getD_eq_getElem?_getD, e2]; rfl
    rwa [this] at hd
theorem DW.ixv {i : Nat} {k : Int} {v : V} {ds : List PyData} {d : PyData} {ti : TE} (h : σ[i]? = some (some v)) (hd : Dp K (hid [a, l] H) v (.tuple ds)) (e : atI ds k = some d) (hti : ∀ H (Q : VK), Q (.int k) H → ti σ H Q) : DW K a l c 0 (tOp (rIxT K) (tVar i) ti) σ H (· = d) := fun H1 m g t _ Q q => by
  obtain ⟨p1, xs, rfl, hs1, ha1⟩ := (hd.gx g).tup_inv
  obtain ⟨x, hx, hdx⟩ := at_dp ha1 e
  exact ⟨_, h, hti _ _ ⟨p1, xs, k, x, rfl, rfl, seqTE hid_out hs1, hx, q H1 x d (GX.refl _) t rfl hdx⟩⟩
theorem DW.draw {i : Nat} {lim : Int} {ti : TE} (h : σ[i]? = some (some (.ref a))) (hti : ∀ H (Q : VK), Q (.int lim) H → ti σ H Q) (h1 : 1 ≤ lim) (h2 : lim < 2 ^ 220) : DW K a l c 1 (tCa spDrawW E0 (tCons (tVar i) (tCons ti tNil))) σ H (fun d => ∃ r, d = .int r ∧ 0 ≤ r ∧ r < lim) := fun H1 m g t b Q q =>
  ⟨_, h, hti _ _ ⟨a, l, c, m, lim, rfl, t, by omega, h1, h2, fun H' r e s r1 r2 => q H' _ _ (gx_sbt t e) s ⟨r, rfl, r1, r2⟩ (.int r)⟩⟩
theorem DW.of {i : Nat} (h : σ[i]? = some (some (.ref a))) (x : DWs K a l c s tas σ H Ps) (hl : ∀ ds, Ps ds → 1 ≤ ds.length ∧ ds.length ≤ 1000) : DW K a l c (s + 1) (tCa spOf E0 (tCons (tVar i) (tCons (tLst tas) tNil))) σ H (fun d => ∃ ds, Ps ds ∧ d ∈ ds) := fun H1 m g t b Q q =>
  ⟨_, h, x H1 m g t (by omega) _ fun H2 vs ds g2 t2 p hs => by
    have hl2 := hl ds p
    refine ⟨by rw [hs.length, sizeLine_eq]; omega, fun r hr => ?_⟩
    obtain ⟨ra, rl, rc⟩ := t2.off hr
    refine ⟨a, l, c, r, _, vs, rfl, t2.new hr, by omega, upd_same, ra, rl, by rw [hs.length]; omega, by rw [hs.length]; omega, fun H' y e s' hy => ?_⟩
    obtain ⟨j, hj⟩ := List.mem_iff_getElem?.mp hy
    obtain ⟨d, hd1, hd2⟩ := hs.getV hj
    exact q H' y d ((g2.trans (GX.new hr)).trans (gx_sbt (t2.new hr) e)) (s'.mono (by omega)) ⟨ds, p, List.mem_of_getElem? hd1⟩ (hd2.gx ((GX.new hr).trans (gx_sbt (t2.new hr) e)))⟩
theorem DW.list (x : DW K a l c s te σ H P) (hp : ∀ d, P d → ∃ ds, d = .tuple ds) :
    DW K a l c s (tCB (fun xs H Q => ∃ p ys, xs = [.ref p] ∧ (SqL K H p ys ∨ SqT K H p ys) ∧ ∀ l, H l = none → Q (.ref l) (upd H l (.lst ys))) (tCons te tNil)) σ H (fun d => ∃ ds, d = .list ds ∧ P (.tuple ds)) := fun H1 m g t b Q q =>
  x H1 m g t b _ fun H2 v d g2 t2 p hv => by
    obtain ⟨ds, rfl⟩ := hp d p
    obtain ⟨p1, xs, rfl, hs1, ha1⟩ := hv.tup_inv
    refine ⟨p1, xs, rfl, .inr (seqTE hid_out hs1), fun r hr => q _ _ _ (g2.trans (GX.new hr)) (t2.new hr) ⟨ds, rfl, p⟩ (.lst (.of ?_) (ha1.gx (GX.new hr)))⟩
    obtain ⟨ra, rl, rc⟩ := t2.off hr
    unfold hid
    rw [if_neg (by simp [ra, rl])]
    exact upd_same
theorem rep_dp {H : Hp} {xs : List V} {ds : List PyData} (h : DpAll K H xs ds) : ∀ n : Nat, DpAll K H (List.replicate n xs).flatten (List.replicate n ds).flatten
  | 0 => .nil
  | n + 1 => by rw [List.replicate_succ, List.replicate_succ, List.flatten_cons, List.flatten_cons]; exact h.append (rep_dp h n)
theorem DW.rep {k : Int} (x : DW K a l c s te σ H P) (hp : ∀ d, P d → ∃ ds, d = .tuple ds ∧ ds.length ≤ 1000) (h1 : 2 ≤ k := by decide) (h2 : k ≤ 1000 := by decide) :
    DW K a l c s (tOp (rRepA K) te (tC (.int k))) σ H (fun d => ∃ ds, d = .tuple (List.replicate k.toNat ds).flatten ∧ P (.tuple ds)) := fun H1 m g t b Q q =>
  x H1 m g t b _ fun H2 v d g2 t2 p hv => by
    obtain ⟨ds, rfl, hl⟩ := hp d p
    obtain ⟨p1, xs, rfl, hs1, ha1⟩ := hv.tup_inv
    have hxl := ha1.length
    refine ⟨p1, k, xs, rfl, rfl, seqTE hid_out hs1, h1, h2, by omega, fun e => ?_, fun _ r hr => ?_⟩
    · subst e
      cases ha1
      refine q _ _ _ g2 t2 ⟨[], rfl, p⟩ (.tup (xs := []) hs1 ?_)
      rw [show (List.replicate k.toNat ([] : List PyData)).flatten = [] by simp]
      exact .nil
    · refine q _ _ _ (g2.trans (GX.new hr)) (t2.new hr) ⟨ds, rfl, p⟩ (.tup (seqT_hid (lst_st (t2.new hr)) (.of upd_same)) ?_)
      exact rep_dp (ha1.gx (GX.new hr)) _
theorem DWs.consE {d : PyData} {ds : List PyData} (x : DW K a l c s1 te σ H (· = d)) (y : DWs K a l c s2 tas σ H (· = ds)) : DWs K a l c (s1 + s2) (tCons te tas) σ H (· = d :: ds) := fun H1 m g t b Q q =>
  DWs.cons x y H1 m g t b Q fun H' vs es g2 t2 ⟨d', es', e1, e2, e3⟩ hs => q H' vs es g2 t2 (by rw [e1, e2, e3]) hs
theorem DWs.consC {d : PyData} {ds : List PyData} (x : DW K a l c 0 te σ H (· = d)) (y : DWs K a l c 0 tas σ H (· = ds)) : DWs K a l c 0 (tCons te tas) σ H (· = d :: ds) := DWs.consE x y
theorem DW.neg {i : Int} : DW K a l c 0 (tUn (rU fun i => V.int (-i)) (tC (.int i))) σ H (· = .int (-i)) := fun H1 m _ t _ Q q => ⟨i, rfl, q H1 _ _ (GX.refl _) t rfl (.int (-i))⟩
theorem DW.pick {i : Nat} {ds : List PyData} (h : σ[i]? = some (some (.ref a))) (x : DWs K a l c s tas σ H (· = ds)) (h1 : 1 ≤ ds.length := by exact Nat.le_of_ble_eq_true rfl) (h2 : ds.length ≤ 1000 := by exact Nat.le_of_ble_eq_true rfl) : DW K a l c (s + 1) (tCa spOf E0 (tCons (tVar i) (tCons (tLst tas) tNil))) σ H (· ∈ ds) :=
  (DW.of h x fun es e => by rw [e]; exact ⟨h1, h2⟩).mono fun d ⟨es, e, m⟩ => by rw [← e]; exact m
theorem DW.tupE {ds : List PyData} (x : DWs K a l c s tas σ H (· = ds)) (hl : ds.length ≤ 100000 := by exact Nat.le_of_ble_eq_true rfl) : DW K a l c s (tTup tas) σ H (· = .tuple ds) :=
  (DW.tup x fun es e => by rw [e]; exact hl).mono fun d ⟨es, e, e2⟩ => by rw [e, e2]
theorem DW.listE {ds : List PyData} (x : DW K a l c s te σ H (· = .tuple ds)) :
    DW K a l c s (tCB (fun xs H Q => ∃ p ys, xs = [.ref p] ∧ (SqL K H p ys ∨ SqT K H p ys) ∧ ∀ l, H l = none → Q (.ref l) (upd H l (.lst ys))) (tCons te tNil)) σ H (· = .list ds) :=
  (DW.list x fun d e => ⟨ds, e⟩).mono fun d ⟨es, e, e2⟩ => by rw [e, PyData.tuple.inj e2]
theorem DW.ix {k : Int} {ds : List PyData} {d : PyData} {ti : TE} (x : DW K a l c s te σ H (· = .tuple ds)) (e : atI ds k = some d) (hti : ∀ H (Q : VK), Q (.int k) H → ti σ H Q) : DW K a l c s (tOp (rIxT K) te ti) σ H (· = d) := fun H1 m g t b Q q =>
  x H1 m g t b _ fun H2 v d' g2 t2 p hv => by
    subst p
    obtain ⟨p1, xs, rfl, hs1, ha1⟩ := hv.tup_inv
    obtain ⟨y, hx, hdx⟩ := at_dp ha1 e
    exact hti _ _ ⟨p1, xs, k, y, rfl, rfl, seqTE hid_out hs1, hx, q H2 y d g2 t2 rfl hdx⟩
theorem DW.addk {i k : Int} (x : DW K a l c s te σ H (· = .int i)) : DW K a l c s (tOp (rI0 fun i j => V.int (i + j)) te (tC (.int k))) σ H (· = .int (i + k)) := fun H1 m g t b Q q =>
  x H1 m g t b _ fun H2 v d' g2 t2 p hv => by
    subst p
    obtain rfl := hv.int_inv
    exact ⟨i, k, rfl, rfl, q H2 _ _ g2 t2 rfl (.int _)⟩
theorem DW.drawW {i : Nat} {lim : Int} {ti : TE} (h : σ[i]? = some (some (.ref a))) (x : DW K a l c 0 ti σ H (· = .int lim)) (h1 : 1 ≤ lim) (h2 : lim < 2 ^ 220) : DW K a l c 1 (tCa spDrawW E0 (tCons (tVar i) (tCons ti tNil))) σ H (fun d => ∃ r, d = .int r ∧ 0 ≤ r ∧ r < lim) := fun H1 m g t b Q q =>
  ⟨_, h, x H1 m g t (by omega) _ fun H2 v d g2 t2 p hv => by
    subst p
    obtain rfl := hv.int_inv
    exact ⟨a, l, c, m, lim, rfl, t2, by omega, h1, h2, fun H' r e s r1 r2 => q H' _ _ (g2.trans (gx_sbt t2 e)) s ⟨r, rfl, r1, r2⟩ (.int r)⟩⟩
theorem DW.len {ds : List PyData} (x : DW K a l c s te σ H (· = .tuple ds)) : DW K a l c s (tCB (fun xs H Q => ∃ p ys, xs = [.ref p] ∧ (SqL K H p ys ∨ SqT K H p ys) ∧ Q (.int ys.length) H) (tCons te tNil)) σ H (· = .int ds.length) := fun H1 m g t b Q q =>
  x H1 m g t b _ fun H2 v d g2 t2 p hv => by
    subst p
    obtain ⟨p1, xs, rfl, hs1, ha1⟩ := hv.tup_inv
    exact ⟨p1, xs, rfl, .inr (seqTE hid_out hs1), q H2 _ _ g2 t2 (by rw [ha1.length]) (.int _)⟩
theorem DW.repE {k : Int} {ds : List PyData} (x : DW K a l c s te σ H (· = .tuple ds)) (hl : ds.length ≤ 1000) (h1 : 2 ≤ k := by decide) (h2 : k ≤ 1000 := by decide) :
    DW K a l c s (tOp (rRepA K) te (tC (.int k))) σ H (· = .tuple (List.replicate k.toNat ds).flatten) :=
  (DW.rep x (fun d e => ⟨ds, e, hl⟩) h1 h2).mono fun d ⟨es, e, e2⟩ => by rw [e, PyData.tuple.inj e2]
theorem DW.catE {ds es : List PyData} (x : DW K a l c s1 ta σ H (· = .tuple ds)) (y : DW K a l c s2 tb σ H (· = .tuple es)) (h1 : ds.length ≤ 100000) (h2 : es.length ≤ 100000) :
    DW K a l c (s1 + s2) (tOp (rCatA K) ta tb) σ H (· = .tuple (ds ++ es)) :=
  (DW.cat x y (fun d e => ⟨ds, e, h1⟩) (fun d e => ⟨es, e, h2⟩)).mono fun d ⟨xs, ys, e, e2, e3⟩ => by rw [e, PyData.tuple.inj e2, PyData.tuple.inj e3]
theorem DW.cutE {ds : List PyData} {lo hi : Option Int} {to tu : TO} (x : DW K a l c s te σ H (· = .tuple ds)) (h1 : OW to σ lo) (h2 : OW tu σ hi) :
    DW K a l c s (L2.tSl (rSlA K) te to tu) σ H (· = .tuple (cutD ds lo hi)) := (DW.cut x h1 h2 (fun d e => ⟨_, e⟩)).mono fun d ⟨es, e, e2⟩ => by rw [e, PyData.tuple.inj e2]
theorem DW.repB {k : Int} {ds : List PyData} (x : DW K a l c s1 te σ H (· = .tuple ds)) (y : DW K a l c s2 tb σ H (· = .int k)) (hl : ds.length ≤ 1000) (h1 : 1 ≤ k) (h2 : k ≤ 1000) :
    DW K a l c (s1 + s2) (tOp (rRepB K) te tb) σ H (· = .tuple (List.replicate k.toNat ds).flatten) := fun H1 m g t b Q q =>
  x H1 m g t (by omega) _ fun H2 v d g2 t2 p hv => y H2 _ (g.trans g2) t2 (by omega) _ fun H3 u e g3 t3 r hu => by
    subst p r
    obtain rfl := hu.int_inv
    have hv3 := hv.gx g3
    obtain ⟨p1, xs, rfl, hs1, ha1⟩ := hv3.tup_inv
    have hxl := ha1.length
    refine ⟨p1, k, xs, rfl, rfl, seqTE hid_out hs1, h1, h2, by omega, fun e => ?_, fun _ _ r hr => ?_⟩
    · refine q _ _ _ (g2.trans g3) (t3.mono (by omega)) rfl (.tup (xs := xs) hs1 ?_)
      rcases e with rfl | rfl
      · cases ha1
        rw [show (List.replicate k.toNat ([] : List PyData)).flatten = [] by simp]
        exact .nil
      · rw [show (List.replicate (Int.toNat 1) ds).flatten = ds by simp]
        exact ha1
    · exact q _ _ _ ((g2.trans g3).trans (GX.new hr)) ((t3.new hr).mono (by omega)) rfl (.tup (seqT_hid (lst_st (t3.new hr)) (.of upd_same)) (rep_dp (ha1.gx (GX.new hr)) _))
theorem DW.repL {k : Int} {ds : List PyData} (x : DWs K a l c s1 tas σ H (· = ds)) (y : DW K a l c s2 tb σ H (· = .int k)) (hl : ds.length ≤ 1000) (h1 : 1 ≤ k) (h2 : k ≤ 1000) :
    DW K a l c (s1 + s2) (tOp rRep (tLst tas) tb) σ H (· = .list (List.replicate k.toNat ds).flatten) := fun H1 m g t b Q q =>
  x H1 m g t (by omega) _ fun H2 vs es g2 t2 p hs => by
    subst p
    refine ⟨by rw [hs.length, sizeLine_eq]; omega, fun r hr => y _ _ (g.trans (g2.trans (GX.new hr))) (t2.new hr) (by omega) _ fun H3 u e g3 t3 re hu => ?_⟩
    subst re
    obtain rfl := hu.int_inv
    obtain ⟨ra, rl, rc⟩ := t2.off hr
    have h0 : hid [a, l] (upd H2 r (.lst vs)) r = some (.lst vs) := by
      unfold hid
      rw [if_neg (by simp [ra, rl])]
      exact upd_same
    have h3 : H3 r = some (.lst vs) := hid_out _ _ (g3.1 _ _ h0 (fun ps z => by cases z)) (fun ps z => by cases z)
    have hk : k.toNat ≤ 1000 := by omega
    have hm : vs.length * k.toNat ≤ 1000 * 1000 := Nat.mul_le_mul (by rw [hs.length]; exact hl) hk
    refine ⟨r, k, vs, rfl, rfl, h3, by omega, by omega, by rw [sizeLine_eq]; omega, fun q1 hq1 => q _ _ _ (((g2.trans (GX.new hr)).trans g3).trans (GX.new hq1)) ((t3.new hq1).mono (by omega)) rfl (.lst (.of ?_) (rep_dp (((hs.gx (GX.new hr)).gx g3).gx (GX.new hq1)) _))⟩
    obtain ⟨qa, ql, qc⟩ := t3.off hq1
    unfold hid
    rw [if_neg (by simp [qa, ql])]
    exact upd_same
/-! statements -/
theorem sw_val {i m : Nat} {u : TS} {D : Ends} (x : DW K a l c s te σ H P) (g : LSt H a l c m) (b : m + s ≤ 1000000) (q : ∀ H' v d, GX [a, l] H H' → LSt H' a l c (m + s) → P d → Dp K (hid [a, l] H') v d → u D (σ.set i (some v)) H') : tSeq (tAsg te (gName i)) u D σ H := x H m (GX.refl _) g b _ q
theorem sw_ret {m : Nat} {D : Ends} (x : DW K a l c s te σ H P) (g : LSt H a l c m) (b : m + s ≤ 1000000) (q : ∀ H' v d, GX [a, l] H H' → LSt H' a l c (m + s) → P d → Dp K (hid [a, l] H') v d → D.rt v H') : tRet te D σ H := x H m (GX.refl _) g b _ q
theorem sw_ifk {i : Nat} {k z : Int} {t u : TS} {D : Ends} (h : σ[i]? = some (some (.int z))) (y : z = k → t { D with nx := u D } σ H) (n : z ≠ k → u D σ H) : tSeq (tIfS (tTest (tOp rEq (tVar i) (tC (.int k)))) t tNext) u D σ H := by
  refine ⟨_, h, rfl, _, rfl, ?_⟩
  by_cases e : z = k
  · rw [decide_eq_true (by rw [e])]
    exact iteT (y e)
  · rw [decide_eq_false (fun w => e (V.int.inj w))]
    exact iteF (n e)
theorem sw_ifx {i : Nat} {k z : Int} {Q : VK} (h : σ[i]? = some (some (.int z))) (y : z = k → ta σ H Q) (n : z ≠ k → tb σ H Q) : tIf (tTest (tOp rEq (tVar i) (tC (.int k)))) ta tb σ H Q := by
  refine ⟨_, h, rfl, _, rfl, ?_⟩
  by_cases e : z = k
  · rw [decide_eq_true (by rw [e])]
    exact iteT (y e)
  · rw [decide_eq_false (fun w => e (V.int.inj w))]
    exact iteF (n e)
/-! tuples of small data -/
def TI (k : Nat) (d : PyData) : Prop := ∃ ds, d = .tuple ds ∧ ds.length ≤ k ∧ ∀ x ∈ ds, Sm 40 5 x
def TH (k : Nat) (d : PyData) : Prop := ∃ x ds, d = .tuple (x :: ds) ∧ (match x with | .list _ => false | .tuple _ => false | .dict _ => false | _ => true) = true ∧ ds.length + 1 ≤ k ∧ ∀ y ∈ x :: ds, Sm 40 5 y
theorem TH.ti {k : Nat} {d : PyData} (h : TH k d) : TI k d := let ⟨x, ds, e, _, l, s⟩ := h; ⟨x :: ds, e, l, s⟩
theorem DW.catI {k1 k2 : Nat} (x : DW K a l c s1 ta σ H (TI k1)) (y : DW K a l c s2 tb σ H (TI k2)) (h1 : k1 ≤ 100000 := by decide) (h2 : k2 ≤ 100000 := by decide) : DW K a l c (s1 + s2) (tOp (rCatA K) ta tb) σ H (TI (k1 + k2)) :=
  (DW.cat x y (fun d ⟨ds, e, hl, _⟩ => ⟨ds, e, by omega⟩) (fun d ⟨ds, e, hl, _⟩ => ⟨ds, e, by omega⟩)).mono fun d ⟨ds, es, e, ⟨ds1, e1, l1, s1⟩, ⟨es1, e2, l2, s2⟩⟩ => by
    obtain rfl := PyData.tuple.inj e1
    obtain rfl := PyData.tuple.inj e2
    exact ⟨ds ++ es, e, by rw [List.length_append]; omega, fun z hz => (List.mem_append.mp hz).elim (s1 z) (s2 z)⟩
theorem DW.catH {k1 k2 : Nat} (x : DW K a l c s1 ta σ H (TH k1)) (y : DW K a l c s2 tb σ H (TI k2)) (h1 : k1 ≤ 100000 := by decide) (h2 : k2 ≤ 100000 := by decide) : DW K a l c (s1 + s2) (tOp (rCatA K) ta tb) σ H (TH (k1 + k2)) :=
  (DW.cat x y (fun d h => let ⟨ds, e, hl, _⟩ := h.ti; ⟨ds, e, by omega⟩) (fun d ⟨ds, e, hl, _⟩ => ⟨ds, e, by omega⟩)).mono fun d ⟨ds, es, e, ⟨x, ds1, e1, f, l1, s1⟩, ⟨es1, e2, l2, s2⟩⟩ => by
    obtain rfl := PyData.tuple.inj e1
    obtain rfl := PyData.tuple.inj e2
    exact ⟨x, ds1 ++ es, e, f, by rw [List.length_append]; omega, fun z hz => (List.mem_append.mp (show z ∈ (x :: ds1) ++ es from hz)).elim (s1 z) (s2 z)⟩
theorem DW.tupI {k : Nat} (x : DWs K a l c s tas σ H Ps) (h : ∀ ds, Ps ds → ds.length ≤ k ∧ ∀ x ∈ ds, Sm 40 5 x) (hk : k ≤ 100000 := by decide) : DW K a l c s (tTup tas) σ H (TI k) :=
  (DW.tup x fun ds p => by have := (h ds p).1; omega).mono fun d ⟨ds, e, p⟩ => ⟨ds, e, (h ds p).1, (h ds p).2⟩
theorem DW.tupH {k : Nat} (x : DWs K a l c s tas σ H Ps) (h : ∀ ds, Ps ds → ds.length ≤ k ∧ (∀ x ∈ ds, Sm 40 5 x) ∧ ∃ y ys, ds = y :: ys ∧ (match y with | .list _ => false | .tuple _ => false | .dict _ => false | _ => true) = true) (hk : k ≤ 100000 := by decide) : DW K a l c s (tTup tas) σ H (TH k) :=
  (DW.tup x fun ds p => by have := (h ds p).1; omega).mono fun d ⟨ds, e, p⟩ => by
    obtain ⟨h1, h2, y, ys, rfl, f⟩ := h ds p
    exact ⟨y, ys, e, f, by simpa using h1, h2⟩
end
end Ws
/-! ## L27 -/
/-! a comprehension of two clauses, walked -/
namespace Ws
open PySem PySem.Spec PyProof.Rows L2
theorem lc2_out {J : L2.It} {n : Nat} {Gd : Hp → Prop} {Yd : Nat → Hp → V → Hp → Prop} (wk : Walk J n Gd Yd) {g : TG} {tt : TT} {wi1 : L2.TI} {g1 : TG} {tt1 : TT} {te : TE} {vs vs1 : List Nat} {σ : L2.St} {H1 : Hp} {D : Addr} {Fin : Hp → Prop} (P : Nat → Hp → Prop) (start : P 0 (upd H1 D (.lst []))) (keep : ∀ i H, i ≤ n → P i H → Gd H)
    (turn : ∀ i x H H', i < n → P i H → Yd i H x H' → g x (wipe σ vs) H' fun σ2 H2 => wipe σ2 vs = wipe σ vs ∧ tt σ2 H2 fun b H3 =>
      if b = true then wi1 σ2 H3 fun J1 H4 => ∃ W1 : Nat → Nat → Hp → Prop, (∃ m, W1 0 m H4) ∧ ∀ j k H, W1 j k H →
        (J1.stop j H ∧ P (i + 1) H) ∨ (J1.go j H ∧ ∃ Nx1 : Hp → Prop, (∀ H', Nx1 H' → ∃ k', k' < k ∧ W1 (j + 1) k' H') ∧ ∀ x H', J1.yld j H x H' → g1 x (wipe σ2 vs1) H' fun σ3 H5 => wipe σ3 vs1 = wipe σ2 vs1 ∧ tt1 σ3 H5 fun b H6 =>
          if b = true then te σ3 H6 fun y H7 => ∃ acc, H7 D = some (.lst acc) ∧ acc.length < sizeLine ∧ Nx1 (upd H7 D (.lst (acc ++ [y]))) else Nx1 H6)
      else P (i + 1) H3)
    (fin : ∀ H, P n H → Fin H) :
    ∃ W : Nat → Nat → Hp → Prop, (∃ m, W 0 m (upd H1 D (.lst []))) ∧ ∀ i m H, W i m H → (J.stop i H ∧ Fin H) ∨ (J.go i H ∧ ∃ Nx : Hp → Prop, (∀ H', Nx H' → ∃ m', m' < m ∧ W (i + 1) m' H') ∧ ∀ x H', J.yld i H x H' → g x (wipe σ vs) H' fun σ2 H2 => wipe σ2 vs = wipe σ vs ∧ tt σ2 H2 fun b H3 =>
      if b = true then wi1 σ2 H3 fun J1 H4 => ∃ W1 : Nat → Nat → Hp → Prop, (∃ m, W1 0 m H4) ∧ ∀ j k H, W1 j k H →
        (J1.stop j H ∧ Nx H) ∨ (J1.go j H ∧ ∃ Nx1 : Hp → Prop, (∀ H', Nx1 H' → ∃ k', k' < k ∧ W1 (j + 1) k' H') ∧ ∀ x H', J1.yld j H x H' → g1 x (wipe σ2 vs1) H' fun σ3 H5 => wipe σ3 vs1 = wipe σ2 vs1 ∧ tt1 σ3 H5 fun b H6 =>
          if b = true then te σ3 H6 fun y H7 => ∃ acc, H7 D = some (.lst acc) ∧ acc.length < sizeLine ∧ Nx1 (upd H7 D (.lst (acc ++ [y]))) else Nx1 H6)
      else Nx H3) := by
  refine ⟨fun i left H => left + i = n ∧ P i H, ⟨n, rfl, start⟩, fun i left H w => ?_⟩
  obtain ⟨sum, p⟩ := w
  by_cases more : i < n
  · exact .inr ⟨wk.goes i H more (keep i H (by omega) p), P (i + 1), fun H' p' => ⟨left - 1, by omega, by omega, p'⟩, fun x H' y => turn i x H H' more p (wk.yields i H x H' more (keep i H (by omega) p) y)⟩
  · obtain rfl : i = n := by omega
    exact .inl ⟨wk.stops H (keep i H (by omega) p), fin H p⟩
theorem lc2_in {J1 : L2.It} {n : Nat} {Gd : Hp → Prop} {Yd : Nat → Hp → V → Hp → Prop} (wk : Walk J1 n Gd Yd) {g1 : TG} {tt1 : TT} {te : TE} {vs1 : List Nat} {σ2 : L2.St} {H4 : Hp} {D : Addr} {Fin : Hp → Prop} (P : Nat → Hp → Prop) (start : P 0 H4) (keep : ∀ i H, i ≤ n → P i H → Gd H)
    (turn : ∀ j x H H', j < n → P j H → Yd j H x H' → g1 x (wipe σ2 vs1) H' fun σ3 H5 => wipe σ3 vs1 = wipe σ2 vs1 ∧ tt1 σ3 H5 fun b H6 =>
          if b = true then te σ3 H6 fun y H7 => ∃ acc, H7 D = some (.lst acc) ∧ acc.length < sizeLine ∧ P (j + 1) (upd H7 D (.lst (acc ++ [y]))) else P (j + 1) H6)
    (fin : ∀ H, P n H → Fin H) :
    ∃ W1 : Nat → Nat → Hp → Prop, (∃ m, W1 0 m H4) ∧ ∀ j k H, W1 j k H →
        (J1.stop j H ∧ Fin H) ∨ (J1.go j H ∧ ∃ Nx1 : Hp → Prop, (∀ H', Nx1 H' → ∃ k', k' < k ∧ W1 (j + 1) k' H') ∧ ∀ x H', J1.yld j H x H' → g1 x (wipe σ2 vs1) H' fun σ3 H5 => wipe σ3 vs1 = wipe σ2 vs1 ∧ tt1 σ3 H5 fun b H6 =>
          if b = true then te σ3 H6 fun y H7 => ∃ acc, H7 D = some (.lst acc) ∧ acc.length < sizeLine ∧ Nx1 (upd H7 D (.lst (acc ++ [y]))) else Nx1 H6) := by
  refine ⟨fun i left H => left + i = n ∧ P i H, ⟨n, by omega, start⟩, fun i left H w => ?_⟩
  obtain ⟨sum, p⟩ := w
  by_cases more : i < n
  · exact .inr ⟨wk.goes i H more (keep i H (by omega) p), P (i + 1), fun H' p' => ⟨left - 1, by omega, by omega, p'⟩, fun x H' y => turn i x H H' more p (wk.yields i H x H' more (keep i H (by omega) p) y)⟩
  · obtain rfl : i = n := by omega
    exact .inl ⟨wk.stops H (keep i H (by omega) p), fin H p⟩
/-- a comprehension of data that may hold new lists -/
theorem lcLN {K : PySem.W.Frag} {J : L2.It} {n : Nat} {G : Hp → Prop} {Y : Nat → Hp → V → Hp → Prop} (w : Walk J n G Y) {g : TG} {te : TE} {vs : List Nat} {σ : L2.St} {H1 : Hp} {D : Addr} {Qd : Hp → Prop} (hD : H1 D = none) (hn : n < sizeLine) (f : Nat → PyData)
    (hG : ∀ H, Same H1 H → G H)
    (hs : ∀ i x H H' (Q : VK), i < n → Same H1 H → H D ≠ none → Y i H x H' → (∀ y H4, Same H H4 → DpN H K H4 y (f i) → Q y H4) → g x (wipe σ vs) H' fun σ2 H2 => wipe σ2 vs = wipe σ vs ∧ te σ2 H2 Q)
    (hd : ∀ H ys, Same H1 H → H D = some (.lst ys) → ys.length = n → (∀ j y, ys[j]? = some y → DpN (upd H1 D (.lst [])) K H y (f j)) → Qd H) :
    ∃ W : Nat → Nat → Hp → Prop, (∃ m, W 0 m (upd H1 D (.lst []))) ∧ ∀ i m H, W i m H →
      (J.stop i H ∧ Qd H) ∨ (J.go i H ∧ ∃ Nx : Hp → Prop, (∀ H', Nx H' → ∃ m', m' < m ∧ W (i + 1) m' H') ∧ ∀ x H', J.yld i H x H' → g x (wipe σ vs) H' fun σ2 H2 => wipe σ2 vs = wipe σ vs ∧ tYes σ2 H2 fun b H3 =>
        if b = true then te σ2 H3 fun y H4 => ∃ acc, H4 D = some (.lst acc) ∧ acc.length < sizeLine ∧ Nx (upd H4 D (.lst (acc ++ [y]))) else Nx H3) := by
  let B0 : Hp := upd H1 D (.lst [])
  have hB : B0 D ≠ none := by show upd H1 D _ D ≠ none; rw [upd_same]; exact fun z => by cases z
  let Pv : Nat → Hp → Prop := fun i H => Same H1 H ∧ ∃ ys, H D = some (.lst ys) ∧ ys.length = i ∧ ∀ j y, ys[j]? = some y → DpN B0 K H y (f j)
  refine lc_it w Pv ⟨Same.new hD, [], upd_same, rfl, fun j y h => by simp at h⟩ (fun i H _ p => hG H p.1) (fun i x H H' hi p y => ?_) (fun H p => ?_)
  · obtain ⟨s, ys, hy, hl, hr⟩ := p
    have hDn : H D ≠ none := by rw [hy]; exact fun z => by cases z
    have q := hs i x H H' (fun y H4 => ∃ acc, H4 D = some (.lst acc) ∧ acc.length < sizeLine ∧ Pv (i + 1) (upd H4 D (.lst (acc ++ [y])))) hi s hDn y (fun v H4 s4 hv => ?_)
    · have e : (fun σ2 H2 => wipe σ2 vs = wipe σ vs ∧ tYes σ2 H2 fun b H3 =>
        if b = true then te σ2 H3 fun y H4 => ∃ acc, H4 D = some (.lst acc) ∧ acc.length < sizeLine ∧ Pv (i + 1) (upd H4 D (.lst (acc ++ [y]))) else Pv (i + 1) H3) =
        (fun σ2 H2 => wipe σ2 vs = wipe σ vs ∧ te σ2 H2 fun y H4 => ∃ acc, H4 D = some (.lst acc) ∧ acc.length < sizeLine ∧ Pv (i + 1) (upd H4 D (.lst (acc ++ [y])))) := by
        funext σ2 H2
        simp only [tYes, if_true]
      rw [e]
      exact q
    · have hy4 := s4 _ _ hy
      have kp : Kp B0 H4 (upd H4 D (.lst (ys ++ [v]))) := Kp.put hy4 hB
      refine ⟨ys, hy4, by omega, (Same.trans s s4).mut hD, _, upd_same, by simp [hl], fun j z hz => ?_⟩
      by_cases hj : j < ys.length
      · rw [List.getElem?_append_left hj] at hz
        exact ((hr j z hz).step (Kp.same s4)).step kp
      · rw [List.getElem?_append_right (by omega)] at hz
        have e : j = i := by
          have := (List.getElem?_eq_some_iff.mp hz).1
          simp at this
          omega
        subst e
        rw [hl, Nat.sub_self] at hz
        simp at hz
        rw [← hz]
        refine (hv.base fun b hb => ?_).step kp
        have nb : b ≠ D := fun z => hDn (by rw [← z]; exact hb)
        show upd H1 D _ b = none
        rw [upd_ne nb]
        cases e1 : H1 b with
        | none => rfl
        | some o => rw [s b o e1] at hb; cases hb
  · obtain ⟨s, ys, hy, hl, hr⟩ := p
    exact hd H ys s hy hl hr
theorem lcL {K : PySem.W.Frag} {J : L2.It} {n : Nat} {G : Hp → Prop} {Y : Nat → Hp → V → Hp → Prop} (w : Walk J n G Y) {g : TG} {te : TE} {vs : List Nat} {σ : L2.St} {H1 : Hp} {D : Addr} {Qd : Hp → Prop} (hD : H1 D = none) (hn : n < sizeLine) (f : Nat → PyData)
    (hG : ∀ H, Same H1 H → G H)
    (hs : ∀ i x H H' (Q : VK), i < n → Same H1 H → H D ≠ none → Y i H x H' → (∀ y H4, Same H H4 → DpN H K H4 y (f i) → Q y H4) → g x (wipe σ vs) H' fun σ2 H2 => wipe σ2 vs = wipe σ vs ∧ te σ2 H2 Q)
    (hd : ∀ H ys, Same H1 H → H D = some (.lst ys) → ys.length = n → DpAll K H ys ((List.range n).map f) → Qd H) :
    ∃ W : Nat → Nat → Hp → Prop, (∃ m, W 0 m (upd H1 D (.lst []))) ∧ ∀ i m H, W i m H →
      (J.stop i H ∧ Qd H) ∨ (J.go i H ∧ ∃ Nx : Hp → Prop, (∀ H', Nx H' → ∃ m', m' < m ∧ W (i + 1) m' H') ∧ ∀ x H', J.yld i H x H' → g x (wipe σ vs) H' fun σ2 H2 => wipe σ2 vs = wipe σ vs ∧ tYes σ2 H2 fun b H3 =>
        if b = true then te σ2 H3 fun y H4 => ∃ acc, H4 D = some (.lst acc) ∧ acc.length < sizeLine ∧ Nx (upd H4 D (.lst (acc ++ [y]))) else Nx H3) :=
  lcLN w hD hn f hG hs fun H ys s hy hl hr => by
    refine hd H ys s hy hl (dpAll_of (by rw [hl, List.length_map, List.length_range]) fun j y d h1 h2 => ?_)
    rw [List.getElem?_map] at h2
    have hj : j < n := by rw [← hl]; exact (List.getElem?_eq_some_iff.mp h1).1
    rw [List.getElem?_range hj] at h2
    cases h2
    exact (hr j y h1).dp
end Ws
/-! ## M27 -/
namespace Sq
abbrev Row := List Int
def dotp : Row → Row → Int
  | a :: w, b :: r => a * b + dotp w r
  | _, _ => 0
def addk (r o : Row) (k : Int) : Row := List.zipWith (fun n m => n + k * m) r o
def sgn (k : Nat) (x : Int) : Int := if k % 2 = 0 then x else -x
def minor (rows : List Row) (i j : Nat) : List Row := (rows.eraseIdx i).map (·.eraseIdx j)
def det : Nat → List Row → Int
  | 0, _ => 1
  | n + 1, rows => ((List.range (n + 1)).map fun j => (rows.getD 0 []).getD j 0 * sgn (0 + j) (det n (minor rows 0 j))).sum
def cof (n : Nat) (rows : List Row) (i j : Nat) : Int := sgn (i + j) (det n (minor rows i j))
def pick (ps : List Nat) (r : Row) : Row := ps.map fun p => r.getD p 0
def fromOf (e : List Nat) : Nat := match e.getLast? with | some l => l + 1 | none => 0
def chs (many : Nat) : Nat → List (List Nat)
  | 0 => [[]]
  | c + 1 => (chs many c).flatMap fun e => (List.range (many - fromOf e)).map fun k => e ++ [fromOf e + k]
def wFor (many : Nat) (ps : List Nat) (rows : List Row) (s : Int) (i : Nat) : Row :=
  (List.range ps.length).foldl (fun w j => w.set (ps.getD j 0) (if s > 0 then cof (ps.length - 1) rows i j else -cof (ps.length - 1) rows i j)) (List.replicate many 0)
structure Sqr where
  ps : List Nat
  size : Int
  ws : List Row
def sqAt (many : Nat) (pers : List Row) (ps : List Nat) : Option Sqr :=
  let rows := pers.map (pick ps)
  let s := det pers.length rows
  if s ≠ 0 then some ⟨ps, s.natAbs, (List.range pers.length).map fun i => wFor many ps rows s i⟩ else none
def sqOf (many : Nat) (pers : List Row) : Option Sqr := (chs many pers.length).findSome? (sqAt many pers)
def stp (act : List Row) (p : Nat) : List Row := match act.findIdx? (fun r => r.getD p 0 != 0) with
  | none => act
  | some h => ((act.set h (act.getD 0 [])).drop 1).map fun r => List.zipWith (fun m o => (act.getD h []).getD p 0 * m - r.getD p 0 * o) r (act.getD h [])
def freeB (rows : List Row) : Bool := ((List.range (rows.getD 0 []).length).foldl stp rows).isEmpty
/-! ### the law's elimination and the minors -/
theorem det1 (a : Int) (l : Row) : det 1 [a :: l] = a := by simp [det, sgn]
theorem det2 (a b c d : Int) : det 2 [[a, b], [c, d]] = a * d - b * c := by
  simp [det, sgn, minor, List.range_succ]; grind
theorem det3 (a b c d e f g h i : Int) : det 3 [[a, b, c], [d, e, f], [g, h, i]] = a * (e * i - f * h) - b * (d * i - f * g) + c * (d * h - e * g) := by
  simp [det, sgn, minor, List.range_succ, Int.mul_add, Int.mul_sub, Int.sub_eq_add_neg]; grind
def hasB (many : Nat) (pers : List Row) : Bool := (chs many pers.length).any fun ps => det pers.length (pers.map (pick ps)) != 0
theorem sq_isSome (many : Nat) (pers : List Row) : (sqOf many pers).isSome = hasB many pers := by
  unfold sqOf hasB
  induction chs many pers.length with
  | nil => rfl
  | cons ps l ih =>
    rw [List.findSome?_cons, List.any_cons]
    by_cases c : det pers.length (pers.map (pick ps)) = 0
    · have e : sqAt many pers ps = none := by unfold sqAt; simp [c]
      rw [e, ih, c]
      rfl
    · have e : ∃ q, sqAt many pers ps = some q := ⟨_, by unfold sqAt; simp only [ne_eq, c, not_false_eq_true, if_true]; rfl⟩
      obtain ⟨q, e⟩ := e
      rw [e]
      simp [c]
def el (n : Nat) (rows : List Row) : List Row := (List.range n).foldl stp rows
theorem stp_nil (p : Nat) : stp [] p = [] := rfl
theorem stp1 (r : Row) (p : Nat) : stp [r] p = if r.getD p 0 = 0 then [r] else [] := by
  unfold stp
  rw [List.findIdx?_cons]
  cases c : (r.getD p 0 != 0) with
  | true =>
    have : ¬ r.getD p 0 = 0 := by simpa using c
    rw [if_neg this]
    rfl
  | false =>
    have : r.getD p 0 = 0 := by simpa using c
    rw [if_pos this]
    rfl
def cut (p : Nat) (top r : Row) : Row := List.zipWith (fun m o => top.getD p 0 * m - r.getD p 0 * o) r top
theorem stp2 (r s : Row) (p : Nat) : stp [r, s] p = if r.getD p 0 = 0 then (if s.getD p 0 = 0 then [r, s] else [cut p s r]) else [cut p r s] := by
  unfold stp
  rw [List.findIdx?_cons, List.findIdx?_cons]
  cases c : (r.getD p 0 != 0) with
  | true =>
    have : ¬ r.getD p 0 = 0 := by simpa using c
    rw [if_neg this]
    rfl
  | false =>
    have : r.getD p 0 = 0 := by simpa using c
    rw [if_pos this]
    cases d : (s.getD p 0 != 0) with
    | true =>
      have : ¬ s.getD p 0 = 0 := by simpa using d
      rw [if_neg this]
      rfl
    | false =>
      have : s.getD p 0 = 0 := by simpa using d
      rw [if_pos this]
      rfl
theorem stp3 (r s t : Row) (p : Nat) : stp [r, s, t] p = if r.getD p 0 = 0 then (if s.getD p 0 = 0 then (if t.getD p 0 = 0 then [r, s, t] else [cut p t s, cut p t r]) else [cut p s r, cut p s t]) else [cut p r s, cut p r t] := by
  unfold stp
  rw [List.findIdx?_cons, List.findIdx?_cons, List.findIdx?_cons]
  cases c : (r.getD p 0 != 0) with
  | true =>
    have : ¬ r.getD p 0 = 0 := by simpa using c
    rw [if_neg this]
    rfl
  | false =>
    have : r.getD p 0 = 0 := by simpa using c
    rw [if_pos this]
    cases d : (s.getD p 0 != 0) with
    | true =>
      have : ¬ s.getD p 0 = 0 := by simpa using d
      rw [if_neg this]
      rfl
    | false =>
      have : s.getD p 0 = 0 := by simpa using d
      rw [if_pos this]
      cases e : (t.getD p 0 != 0) with
      | true =>
        have : ¬ t.getD p 0 = 0 := by simpa using e
        rw [if_neg this]
        rfl
      | false =>
        have : t.getD p 0 = 0 := by simpa using e
        rw [if_pos this]
        rfl
/-- what is left of rows below three, cleared at the places from p on -/
theorem pair_iff (x m n y u v : Int) : (stp (stp [[x, m, n], [y, u, v]] 1) 2 = []) ↔ m * v - u * n ≠ 0 := by
  rw [stp2]
  show stp (if m = 0 then (if u = 0 then _ else [cut 1 [y, u, v] [x, m, n]]) else [cut 1 [x, m, n] [y, u, v]]) 2 = [] ↔ _
  by_cases c : m = 0
  · rw [if_pos c]
    by_cases d : u = 0
    · rw [if_pos d, stp2]
      subst c d
      split <;> (try split) <;> simp
    · rw [if_neg d, stp1]
      subst c
      show (if (u * n - 0 * v) = 0 then _ else _) = [] ↔ _
      have e : u * n = 0 ↔ n = 0 := by rw [Int.mul_eq_zero]; simp [d]
      simp only [Int.zero_mul, Int.sub_zero, Int.zero_sub, ne_eq, Int.neg_eq_zero, e]
      split <;> rename_i h <;> simp [h]
  · rw [if_neg c, stp1]
    show (if (m * v - u * n) = 0 then _ else _) = [] ↔ _
    split <;> rename_i h <;> simp [h]
theorem free33 (a b c d e f g h i : Int) : (stp (stp (stp [[a, b, c], [d, e, f], [g, h, i]] 0) 1) 2 = []) ↔ a * (e * i - f * h) - b * (d * i - f * g) + c * (d * h - e * g) ≠ 0 := by
  rw [stp3]
  show stp (stp (if a = 0 then (if d = 0 then (if g = 0 then _ else [cut 0 [g, h, i] [d, e, f], cut 0 [g, h, i] [a, b, c]]) else [cut 0 [d, e, f] [a, b, c], cut 0 [d, e, f] [g, h, i]]) else [cut 0 [a, b, c] [d, e, f], cut 0 [a, b, c] [g, h, i]]) 1) 2 = [] ↔ _
  have go : ∀ (x m n y u v k : Int), k ≠ 0 → m * v - u * n = k * (a * (e * i - f * h) - b * (d * i - f * g) + c * (d * h - e * g)) → ((stp (stp [[x, m, n], [y, u, v]] 1) 2 = []) ↔ a * (e * i - f * h) - b * (d * i - f * g) + c * (d * h - e * g) ≠ 0) := fun x m n y u v k hk he => by
    rw [pair_iff, he, ne_eq, Int.mul_eq_zero]
    simp [hk]
  by_cases ca : a = 0
  · rw [if_pos ca]
    by_cases cd : d = 0
    · rw [if_pos cd]
      by_cases cg : g = 0
      · rw [if_pos cg]
        subst ca cd cg
        simp only [Int.zero_mul, Int.mul_zero, Int.sub_zero, Int.add_zero, ne_eq, not_true, iff_false]
        intro z
        rw [stp3] at z
        simp only [List.getD_cons_succ, List.getD_cons_zero] at z
        split at z
        · split at z
          · split at z
            · rw [stp3] at z
              simp only [List.getD_cons_succ, List.getD_cons_zero] at z
              split at z <;> (try split at z) <;> (try split at z) <;> simp at z
            · rw [stp2] at z
              split at z <;> (try split at z) <;> simp at z
          · rw [stp2] at z
            split at z <;> (try split at z) <;> simp at z
        · rw [stp2] at z
          split at z <;> (try split at z) <;> simp at z
      · rw [if_neg cg]
        exact go _ _ _ _ _ _ (-g) (by omega) (by subst ca cd; grind)
    · rw [if_neg cd]
      exact go _ _ _ _ _ _ (-d) (by omega) (by subst ca; grind)
  · rw [if_neg ca]
    exact go _ _ _ _ _ _ a ca (by grind)
/-- independence, for at most three rows of at most three places -/
theorem el0 (n : Nat) : el n [] = [] := by
  unfold el
  induction List.range n with
  | nil => rfl
  | cons p l ih => rw [List.foldl_cons, stp_nil]; exact ih
theorem r1 : List.range 1 = [0] := rfl
theorem r2 : List.range 2 = [0, 1] := rfl
theorem r3 : List.range 3 = [0, 1, 2] := rfl
theorem chs11 : chs 1 1 = [[0]] := by decide
theorem chs21 : chs 2 1 = [[0], [1]] := by decide
theorem chs31 : chs 3 1 = [[0], [1], [2]] := by decide
theorem chs12 : chs 1 2 = [] := by decide
theorem chs22 : chs 2 2 = [[0, 1]] := by decide
theorem chs32 : chs 3 2 = [[0, 1], [0, 2], [1, 2]] := by decide
theorem chs13 : chs 1 3 = [] := by decide
theorem chs23 : chs 2 3 = [] := by decide
theorem chs33 : chs 3 3 = [[0, 1, 2]] := by decide
theorem emp_iff {α : Type} (l : List α) : l.isEmpty = true ↔ l = [] := by cases l <;> simp
theorem free_eq {rows : List Row} {many : Nat} (h : ∀ r ∈ rows, r.length = many) (h1 : 1 ≤ many) (h3 : many ≤ 3) (hp : rows.length ≤ 3) : freeB rows = hasB many rows := by
  rw [Bool.eq_iff_iff]
  unfold freeB
  rw [emp_iff]
  show el _ rows = [] ↔ _
  match rows, hp with
  | [], _ => simp [el0, hasB, chs, det]
  | [r], _ =>
    have hr := h r (by simp)
    show el r.length [r] = [] ↔ _
    rw [hr]
    have : many = 1 ∨ many = 2 ∨ many = 3 := by omega
    rcases this with rfl | rfl | rfl
    · match r, hr with
      | [a], _ =>
        unfold el hasB
        simp only [r1, List.foldl_cons, List.foldl_nil, stp1, List.length_cons, List.length_nil, Nat.zero_add, chs11, List.any_cons, List.any_nil, List.map_cons, List.map_nil, pick, det1]
        by_cases c : a = 0 <;> simp [c]
    · match r, hr with
      | [a, b], _ =>
        unfold el hasB
        simp only [r2, List.foldl_cons, List.foldl_nil, stp1, List.length_cons, List.length_nil, Nat.zero_add, chs21, List.any_cons, List.any_nil, List.map_cons, List.map_nil, pick, det1]
        by_cases c : a = 0 <;> by_cases d : b = 0 <;> simp [c, d, stp_nil, stp1]
    · match r, hr with
      | [a, b, e], _ =>
        unfold el hasB
        simp only [r3, List.foldl_cons, List.foldl_nil, stp1, List.length_cons, List.length_nil, Nat.zero_add, chs31, List.any_cons, List.any_nil, List.map_cons, List.map_nil, pick, det1]
        by_cases c : a = 0 <;> by_cases d : b = 0 <;> by_cases f : e = 0 <;> simp [c, d, f, stp_nil, stp1]
  | [r, s], _ =>
    have hr := h r (by simp)
    have hs := h s (by simp)
    show el r.length [r, s] = [] ↔ _
    rw [hr]
    have : many = 1 ∨ many = 2 ∨ many = 3 := by omega
    rcases this with rfl | rfl | rfl
    · match r, hr, s, hs with
      | [a], _, [b], _ =>
        unfold el hasB
        simp only [r1, List.foldl_cons, List.foldl_nil, stp2, List.length_cons, List.length_nil, Nat.zero_add, Nat.reduceAdd, chs12, List.any_nil]
        by_cases c : a = 0 <;> by_cases d : b = 0 <;> simp [c, d]
    · match r, hr, s, hs with
      | [a, b], _, [c, d], _ =>
        have e : el 2 [[a, b], [c, d]] = [] ↔ a * d - c * b ≠ 0 := by
          have := pair_iff 0 a b 0 c d
          unfold el
          rw [r2, List.foldl_cons, List.foldl_cons, List.foldl_nil]
          rw [stp2] at this ⊢
          simp only [List.getD_cons_zero, List.getD_cons_succ] at this ⊢
          rw [← this]
          by_cases ca : a = 0 <;> by_cases cc : c = 0 <;> simp [ca, cc, stp1, stp2, cut] <;> (repeat' split) <;> simp
        rw [e]
        unfold hasB
        simp only [List.length_cons, List.length_nil, Nat.zero_add, Nat.reduceAdd, chs22, List.any_cons, List.any_nil, List.map_cons, List.map_nil, pick, List.getD_cons_zero, List.getD_cons_succ, det2, Bool.or_false, bne_iff_ne]
        rw [Int.mul_comm c b]
    · match r, hr, s, hs with
      | [a, b, c], _, [d, e, f], _ =>
        unfold el hasB
        simp only [r3, List.foldl_cons, List.foldl_nil, stp2, List.length_cons, List.length_nil, Nat.zero_add, Nat.reduceAdd, chs32, List.any_cons, List.any_nil, List.map_cons, List.map_nil, pick, List.getD_cons_zero, List.getD_cons_succ, det2, Bool.or_false, Bool.or_eq_true, bne_iff_ne]
        by_cases ca : a = 0
        · rw [if_pos ca]
          by_cases cd : d = 0
          · rw [if_pos cd, pair_iff]
            subst ca cd
            simp [Int.mul_comm]
          · rw [if_neg cd]
            subst ca
            have e1 : d * b = 0 ↔ b = 0 := by rw [Int.mul_eq_zero]; simp [cd]
            have e2 : d * c = 0 ↔ c = 0 := by rw [Int.mul_eq_zero]; simp [cd]
            have e3 : b * d = 0 ↔ b = 0 := by rw [Int.mul_comm]; exact e1
            have e4 : c * d = 0 ↔ c = 0 := by rw [Int.mul_comm]; exact e2
            by_cases cb : b = 0 <;> by_cases cc : c = 0 <;> simp [stp1, stp_nil, cut, cb, cc, e1, e2, e3, e4, cd]
        · rw [if_neg ca]
          by_cases g1 : a * e - d * b = 0
          · by_cases g2 : a * f - d * c = 0
            · have g3 : b * f - c * e = 0 := by
                have : a * (b * f - c * e) = 0 := by grind
                rcases Int.mul_eq_zero.mp this with z | z
                · exact absurd z ca
                · exact z
              have g1' : a * e - b * d = 0 := by rw [Int.mul_comm b d]; exact g1
              have g2' : a * f - c * d = 0 := by rw [Int.mul_comm c d]; exact g2
              simp [stp1, stp_nil, cut, g1, g2, g3, g1', g2']
            · have g2' : ¬ a * f - c * d = 0 := by rw [Int.mul_comm c d]; exact g2
              simp [stp1, stp_nil, cut, g1, g2, g2']
          · have g1' : ¬ a * e - b * d = 0 := by rw [Int.mul_comm b d]; exact g1
            simp [stp1, stp_nil, cut, g1, g1']
  | [r, s, t], _ =>
    have hr := h r (by simp)
    have hs := h s (by simp)
    have ht := h t (by simp)
    show el r.length [r, s, t] = [] ↔ _
    rw [hr]
    have : many = 1 ∨ many = 2 ∨ many = 3 := by omega
    rcases this with rfl | rfl | rfl
    · match r, hr, s, hs, t, ht with
      | [a], _, [b], _, [c], _ =>
        unfold el hasB
        simp only [r1, List.foldl_cons, List.foldl_nil, stp3, List.length_cons, List.length_nil, Nat.zero_add, Nat.reduceAdd, chs13, List.any_nil, Bool.false_eq_true, iff_false]
        split <;> (try split) <;> (try split) <;> simp
    · match r, hr, s, hs, t, ht with
      | [a, b], _, [c, d], _, [e, f], _ =>
        unfold el hasB
        simp only [r2, List.foldl_cons, List.foldl_nil, List.length_cons, List.length_nil, Nat.zero_add, Nat.reduceAdd, chs23, List.any_nil, Bool.false_eq_true, iff_false]
        intro z
        rw [stp3] at z
        split at z
        · split at z
          · split at z
            · rw [stp3] at z
              split at z <;> (try split at z) <;> (try split at z) <;> simp at z
            · rw [stp2] at z
              split at z <;> (try split at z) <;> simp at z
          · rw [stp2] at z
            split at z <;> (try split at z) <;> simp at z
        · rw [stp2] at z
          split at z <;> (try split at z) <;> simp at z
    · match r, hr, s, hs, t, ht with
      | [a, b, c], _, [d, e, f], _, [g, h, i], _ =>
        unfold el hasB
        simp only [r3, List.foldl_cons, List.foldl_nil, List.length_cons, List.length_nil, Nat.zero_add, Nat.reduceAdd, chs33, List.any_cons, List.any_nil, List.map_cons, List.map_nil, pick, List.getD_cons_zero, List.getD_cons_succ, det3, Bool.or_false, bne_iff_ne]
        rw [free33]
end Sq
/-! ## F27 -/
namespace Sq
def subr (r o : Row) : Row := List.zipWith (fun n m => n - m) r o
def negB (r : Row) : Bool := r.any fun x => decide (x < 0)
def zerB (r : Row) : Bool := r.all fun x => decide (x = 0)
def mx (r : Row) : Nat := (r.foldl max 0).toNat
def less (r p : Row) (k : Nat) : Row := List.zipWith (fun n m => n - k * m) r p
def fills : List Row → Row → Bool
  | [], left => !negB left && zerB left
  | p :: ps, left => !negB left && (zerB left || (List.range (mx left + 1)).any fun k => !negB (less left p k) && fills ps (less left p k))
theorem dotp_less : ∀ (w r p : Row) (k : Nat), r.length = p.length → dotp w (less r p k) = dotp w r - k * dotp w p
  | [], r, p, k, _ => by simp [dotp]
  | a :: w, [], [], k, _ => by simp [dotp, less]
  | a :: w, [], _ :: _, k, h => by simp at h
  | a :: w, _ :: _, [], k, h => by simp at h
  | a :: w, x :: r, y :: p, k, h => by
    have ih := dotp_less w r p k (by simpa using h)
    show a * (x - k * y) + dotp w (less r p k) = (a * x + dotp w r) - k * (a * y + dotp w p)
    rw [ih]
    grind
theorem dotp_zero : ∀ (w r : Row), zerB r = true → dotp w r = 0
  | [], r, _ => by simp [dotp]
  | a :: w, [], _ => by simp [dotp]
  | a :: w, x :: r, h => by
    simp only [zerB, List.all_cons, Bool.and_eq_true, decide_eq_true_eq] at h
    have ih := dotp_zero w r h.2
    show a * x + dotp w r = 0
    rw [ih, h.1]
    simp
theorem dotp_addk : ∀ (w r o : Row) (k : Int), r.length = o.length → dotp w (addk r o k) = dotp w r + k * dotp w o
  | [], r, o, k, _ => by simp [dotp]
  | a :: w, [], [], k, _ => by simp [dotp, addk]
  | a :: w, [], _ :: _, k, h => by simp at h
  | a :: w, _ :: _, [], k, h => by simp at h
  | a :: w, x :: r, y :: o, k, h => by
    have ih := dotp_addk w r o k (by simpa using h)
    show a * (x + k * y) + dotp w (addk r o k) = (a * x + dotp w r) + k * (a * y + dotp w o)
    rw [ih]
    grind
def natI (ts : List Nat) : List Int := ts.map fun (t : Nat) => (t : Int)
theorem fills_sound : ∀ (ps : List Row) (left : Row), (∀ p ∈ ps, p.length = left.length) → fills ps left = true → ∃ ts : List Nat, ts.length = ps.length ∧ ∀ w : Row, dotp w left = dotp (natI ts) (ps.map (dotp w))
  | [], left, _, h => by
    simp only [fills, Bool.and_eq_true] at h
    exact ⟨[], rfl, fun w => by rw [dotp_zero w left h.2]; rfl⟩
  | p :: ps, left, hl, h => by
    simp only [fills, Bool.and_eq_true, Bool.or_eq_true] at h
    rcases h.2 with z | z
    · refine ⟨List.replicate (p :: ps).length 0, by simp, fun w => ?_⟩
      rw [dotp_zero w left z]
      have : ∀ (l : List Int) (n : Nat), dotp (natI (List.replicate n 0)) l = 0 := fun l => by
        induction l with
        | nil => intro n; cases n <;> rfl
        | cons x l ih =>
          intro n
          cases n with
          | zero => rfl
          | succ n =>
            show (0 : Int) * x + dotp (natI (List.replicate n 0)) l = 0
            rw [ih n]
            simp
      rw [this]
    · obtain ⟨k, hk, z⟩ := List.any_eq_true.mp z
      simp only [Bool.and_eq_true] at z
      have lp := hl p (by simp)
      have ll : (less left p k).length = left.length := by simp [less, lp]
      obtain ⟨ts, ht, hw⟩ := fills_sound ps (less left p k) (fun q hq => by rw [ll]; exact hl q (List.mem_cons_of_mem _ hq)) z.2
      refine ⟨k :: ts, by simp [ht], fun w => ?_⟩
      have := hw w
      rw [dotp_less w left p k (by omega)] at this
      show dotp w left = (k : Int) * dotp w p + dotp (natI ts) (ps.map (dotp w))
      omega
inductive Bar
  | apart (w : Row)
  | less (w : Row)
  | rest (m : Int) (w : Row)
def barB (gap : Row) (ps : List Row) : Bar → Bool
  | .apart w => ps.all (fun p => decide (dotp w p = 0)) && decide (dotp w gap ≠ 0)
  | .less w => ps.all (fun p => decide (0 ≤ dotp w p)) && decide (dotp w gap < 0)
  | .rest m w => ps.all (fun p => decide (dotp w p % m = 0)) && decide (dotp w gap % m ≠ 0)
theorem comb0 : ∀ (ts : List Nat) (xs : List Int), (∀ x ∈ xs, x = 0) → dotp (natI ts) xs = 0
  | [], xs, _ => by simp [natI, dotp]
  | t :: ts, [], _ => by simp [natI, dotp]
  | t :: ts, x :: xs, h => by
    show (t : Int) * x + dotp (natI ts) xs = 0
    rw [comb0 ts xs (fun y hy => h y (List.mem_cons_of_mem _ hy)), h x (by simp)]
    simp
theorem combN : ∀ (ts : List Nat) (xs : List Int), (∀ x ∈ xs, 0 ≤ x) → 0 ≤ dotp (natI ts) xs
  | [], xs, _ => by simp [natI, dotp]
  | t :: ts, [], _ => by simp [natI, dotp]
  | t :: ts, x :: xs, h => by
    show 0 ≤ (t : Int) * x + dotp (natI ts) xs
    have := combN ts xs (fun y hy => h y (List.mem_cons_of_mem _ hy))
    have h2 := Int.mul_nonneg (show 0 ≤ (t : Int) by omega) (h x (by simp))
    omega
theorem combM (m : Int) : ∀ (ts : List Nat) (xs : List Int), (∀ x ∈ xs, x % m = 0) → dotp (natI ts) xs % m = 0
  | [], xs, _ => by simp [natI, dotp]
  | t :: ts, [], _ => by simp [natI, dotp]
  | t :: ts, x :: xs, h => by
    show ((t : Int) * x + dotp (natI ts) xs) % m = 0
    have := combM m ts xs (fun y hy => h y (List.mem_cons_of_mem _ hy))
    have h1 := h x (by simp)
    have d1 : m ∣ x := Int.dvd_of_emod_eq_zero h1
    have d2 : m ∣ dotp (natI ts) xs := Int.dvd_of_emod_eq_zero this
    exact Int.emod_eq_zero_of_dvd (Int.dvd_add (Int.dvd_mul_of_dvd_right d1) d2)
theorem no_bar {ps : List Row} {gap : Row} (hl : ∀ p ∈ ps, p.length = gap.length) (hf : fills ps gap = true) (b : Bar) : barB gap ps b = false := by
  obtain ⟨ts, _, hw⟩ := fills_sound ps gap hl hf
  cases hb : barB gap ps b with
  | false => rfl
  | true =>
    exfalso
    cases b with
    | apart w =>
      simp only [barB, Bool.and_eq_true, decide_eq_true_eq, List.all_eq_true] at hb
      exact hb.2 (by rw [hw w]; exact comb0 _ _ (fun x hx => by obtain ⟨p, hp, rfl⟩ := List.mem_map.mp hx; exact hb.1 p hp))
    | less w =>
      simp only [barB, Bool.and_eq_true, decide_eq_true_eq, List.all_eq_true] at hb
      have := combN ts (ps.map (dotp w)) (fun x hx => by obtain ⟨p, hp, rfl⟩ := List.mem_map.mp hx; exact hb.1 p hp)
      have := hw w
      omega
    | rest m w =>
      simp only [barB, Bool.and_eq_true, decide_eq_true_eq, List.all_eq_true] at hb
      exact hb.2 (by rw [hw w]; exact combM m _ _ (fun x hx => by obtain ⟨p, hp, rfl⟩ := List.mem_map.mp hx; exact hb.1 p hp))
end Sq
/-! ## P27a -/
namespace Ws
open PySem PySem.Spec PyProof.Rows L2 RZ
local macro_rules | `(tactic| walk_at "nf") => `(tactic| dsimp only [tNext, tSeq, tDrop, tRet, tRetN, tIfS, tAsg, gName, gTup, gCons, gNil, tVar, tC, tOp, tUn, rI, rI0, rU, rEq, rNe, tTest, tChain, tAnd, tOr, tNot, tAndV, tOrV, tNotV, tIf, tCB, tCKw, tCons, tNil, tTup, tLst, tCa, tCallS, tB, rIxT, rIxL, rIxS, cxOf, Cx.nox, Cx.wish, Cx.blk, L2.start, tPar, tPar3, tNever, tYes, tBits, tRz, tBM, rAppend, tyV, tXf, suiteEnds, gSub, rSetL, tBreak, rMax, tDGet, sDPut, tSl, tNoPart, tPart, tDisp, tPairs, tDGet2, tDNewK, tAugS, ipI, rGetL, tDIn, tDNotIn, tBM0, rPop])
local macro_rules | `(tactic| walk_at "sx") => `(tactic| simp only [wipe, List.cons.injEq, and_assoc, exists_and_left, and_true, List.map_cons, List.map_nil, List.length_cons, List.length_nil, List.cons_append, List.nil_append, List.append_nil, Nat.reduceAdd, Nat.reduceSub, List.replicate, List.getElem?_cons_zero, List.getElem?_cons_succ, List.set_cons_zero, List.set_cons_succ, Option.some.injEq, V.int.injEq, V.bl.injEq, V.ref.injEq, V.str.injEq, exists_eq_left', exists_eq_left, true_and, Bool.true_eq_false, Bool.false_eq_true, if_true, if_false])

/-! ### wholesay.squares: sums -/
theorem zip_range (f : Int → Int → Int) : ∀ (xs ys : List Int), ((List.range (min xs.length ys.length)).map fun i => f (xs.getD i 0) (ys.getD i 0)) = List.zipWith f xs ys
  | [], ys => by simp
  | x :: xs, [] => by simp
  | x :: xs, y :: ys => by
    rw [List.length_cons, List.length_cons, Nat.succ_min_succ, List.range_succ_eq_map, List.map_cons, List.map_map, List.zipWith_cons_cons, ← zip_range f xs ys]
    rfl
theorem dotp_sum : ∀ (xs ys : List Int), (List.zipWith (fun a b => a * b) xs ys).sum = Sq.dotp xs ys
  | [], ys => by simp [Sq.dotp]
  | x :: xs, [] => by simp [Sq.dotp]
  | x :: xs, y :: ys => by
    show x * y + (List.zipWith _ xs ys).sum = x * y + Sq.dotp xs ys
    rw [dotp_sum xs ys]
def B64 (i : Int) : Prop := -(2 ^ 64) < i ∧ i < 2 ^ 64
def spAdded (K : PySem.W.Frag) : Sp := fun vs H Q _ => ∃ (av bv : V) (xs ys : List Int) (k : Int), vs = [av, bv, .int k] ∧ Dp K H av (intsD xs) ∧ Dp K H bv (intsD ys) ∧ B64 k ∧ xs.length < 100000 ∧ ∀ H' u, Same H H' → Dp K H' u (intsD (Sq.addk xs ys k)) → Q u H'
def spWeighed (K : PySem.W.Frag) : Sp := fun vs H Q _ => ∃ (av bv : V) (fs xs : List Int), vs = [av, bv] ∧ Dp K H av (intsD fs) ∧ Dp K H bv (intsD xs) ∧ (∀ f ∈ fs, B64 f) ∧ fs.length < 100000 ∧ ∀ H', Same H H' → Q (.int (Sq.dotp fs xs)) H'
abbrev s_added : Stmt := top 16
abbrev nm_added : List Str := ["row", "other", "factor", "number", "more"]
abbrev pr_added : List Str := ["row", "other", "factor"]
theorem sc_added : FnScope nm_added pr_added (defScope s_added) := ⟨rfl, rfl, rfl, by decide +kernel, rfl, by decide +kernel, by decide +kernel⟩
abbrev s_weighed : Stmt := top 17
abbrev nm_weighed : List Str := ["weights", "row", "weight", "number"]
abbrev pr_weighed : List Str := ["weights", "row"]
theorem sc_weighed : FnScope nm_weighed pr_weighed (defScope s_weighed) := ⟨rfl, rfl, rfl, by decide +kernel, rfl, by decide +kernel, by decide +kernel⟩
section
variable {P : Program} {w : World} {K : PySem.W.Frag} {mg : Str → Option Value} {base : Heap}
theorem pair_at {xs ys : List Int} {i : Nat} {x1 x2 : V} (hi : i < min ((xs.map V.int)).length ((ys.map V.int)).length) (h1 : (xs.map V.int)[i]? = some x1) (h2 : (ys.map V.int)[i]? = some x2) : x1 = .int (xs.getD i 0) ∧ x2 = .int (ys.getD i 0) ∧ xs.getD i 0 ∈ xs ∧ ys.getD i 0 ∈ ys := by
  simp only [List.length_map] at hi
  have i1 : i < xs.length := by omega
  have i2 : i < ys.length := by omega
  refine ⟨?_, ?_, by simp [i1], by simp [i2]⟩
  · have : (xs.map V.int)[i]? = some (V.int (xs.getD i 0)) := by simp [i1]
    exact Option.some.inj (h1.symm.trans this)
  · have : (ys.map V.int)[i]? = some (V.int (ys.getD i 0)) := by simp [i2]
    exact Option.some.inj (h2.symm.trans this)
theorem ok_weighed (B : Bl mg) (D : Dt K mg "weighed" s_weighed pr_weighed) : Df P w K mg base CX0 1 "weighed" pr_weighed (spWeighed K) := by
  refine D.ok sc_weighed (fun vs H Q E h => ?_) (fun f cdv A outer s H vs Q E hr h => ?_)
  · obtain ⟨av, bv, fs, xs, rfl, _⟩ := h
    rfl
  · obtain ⟨av, bv, fs, xs, rfl, ha, hb, hf, hz, k⟩ := h
    obtain ⟨p, rfl, hp⟩ := ha.ints_tup
    obtain ⟨q, rfl, hq⟩ := hb.ints_tup
    refine ⟨_, (pss_one (ps_ret (pe_callB (cr_sum rfl) (by rfl) B.sum boot_sum (pa_cons (pe_lc (own := [("weight", 2), ("number", 3)]) (g := gTup K 2 (gCons (gName 2) (gCons (gName 3) gNil))) (tt := tYes) (by rfl) sc_weighed.nd (pi_zipA (by rfl) B.zip (pa_cons (pv 0) (pa_cons (pv 1) pa_nil))) (blkOk_by (own := [("weight", 2), ("number", 3)]) (N := nm_weighed) (sc := defScope s_weighed) (by decide +kernel)) (fun _ _ _ _ _ => pg_tup rfl (pgs_cons (pg_name (i := 2) sc_weighed.nd rfl (Or.inl rfl)) (pgs_cons (pg_name (i := 3) sc_weighed.nd rfl (Or.inl rfl)) pgs_nil))) (fun _ _ _ _ _ => pts_nil) (fun _ _ _ _ _ => (pe_op op_mul (pv 2) (pv 3)))) pa_nil)))), ?_⟩
    walk_at "nf"
    walk_at "sx"
    refine ⟨_, rfl, _, rfl, p, q, _, _, rfl, .inr ⟨hp, hq, fun D hD => lcS walk_zipT hD (by simp only [List.length_map]; exact slt (by omega)) (fun i y => y = .int (fs.getD i 0 * xs.getD i 0)) (fun H1 e => ⟨e.seqT hp, e.seqT hq⟩) (fun i x H1 H2 Q1 hi e y q1 => ?_) (fun H1 ys e hD1 hn hr => ?_)⟩⟩
    · obtain ⟨T, x1, x2, rfl, hT, rfl, h1, h2⟩ := y
      obtain ⟨rfl, rfl, m1, m2⟩ := pair_at hi h1 h2
      obtain ⟨b1, b2⟩ := hf _ m1
      walk_at "nf"
      refine ⟨T, _, rfl, .of upd_same, rfl, ?_⟩
      walk_at "sx"
      exact ⟨.inl ⟨b1, b2⟩, q1 _ _ rfl (Same.new hT)⟩
    · have ev := vals_int (f := fun i => fs.getD i 0 * xs.getD i 0) hn hr
      simp only [List.length_map] at ev
      rw [zip_range (fun a b => a * b)] at ev
      refine ⟨D, _, rfl, .of (by rw [hD1, ev]), ?_⟩
      rw [dotp_sum]
      exact k _ e
theorem ok_added (B : Bl mg) (D : Dt K mg "added" s_added pr_added) : Df P w K mg base CX0 1 "added" pr_added (spAdded K) := by
  refine D.ok sc_added (fun vs H Q E h => ?_) (fun f cdv A outer s H vs Q E hr h => ?_)
  · obtain ⟨av, bv, fs, xs, k, rfl, _⟩ := h
    rfl
  · obtain ⟨av, bv, fs, xs, kk, rfl, ha, hb, hf, hz, k⟩ := h
    obtain ⟨p, rfl, hp⟩ := ha.ints_tup
    obtain ⟨q, rfl, hq⟩ := hb.ints_tup
    refine ⟨_, (pss_one (ps_ret (pe_callTy call_tuple_of (by rfl) B.tuple PyProof.Rows.boot_tuple (pa_cons (pe_lc (own := [("number", 3), ("more", 4)]) (g := gTup K 2 (gCons (gName 3) (gCons (gName 4) gNil))) (tt := tYes) (by rfl) sc_added.nd (pi_zipA (by rfl) B.zip (pa_cons (pv 0) (pa_cons (pv 1) pa_nil))) (blkOk_by (own := [("number", 3), ("more", 4)]) (N := nm_added) (sc := defScope s_added) (by decide +kernel)) (fun _ _ _ _ _ => pg_tup rfl (pgs_cons (pg_name (i := 3) sc_added.nd rfl (Or.inl rfl)) (pgs_cons (pg_name (i := 4) sc_added.nd rfl (Or.inl rfl)) pgs_nil))) (fun _ _ _ _ _ => pts_nil) (fun _ _ _ _ _ => (pe_op op_add (pv 3) (pe_op op_mul (pv 2) (pv 4))))) pa_nil)))), ?_⟩
    walk_at "nf"
    walk_at "sx"
    refine ⟨_, rfl, _, rfl, p, q, _, _, rfl, .inr ⟨hp, hq, fun D hD => lcS walk_zipT hD (by simp only [List.length_map]; exact slt (by omega)) (fun i y => y = .int (fs.getD i 0 + kk * xs.getD i 0)) (fun H1 e => ⟨e.seqT hp, e.seqT hq⟩) (fun i x H1 H2 Q1 hi e y q1 => ?_) (fun H1 ys e hD1 hn hr => ?_)⟩⟩
    · obtain ⟨T, x1, x2, rfl, hT, rfl, h1, h2⟩ := y
      obtain ⟨rfl, rfl, m1, m2⟩ := pair_at hi h1 h2
      obtain ⟨b1, b2⟩ := hf
      walk_at "nf"
      refine ⟨T, _, rfl, .of upd_same, rfl, ?_⟩
      walk_at "sx"
      exact ⟨.inl ⟨b1, b2⟩, q1 _ _ rfl (Same.new hT)⟩
    · have ev := vals_int (f := fun i => fs.getD i 0 + kk * xs.getD i 0) hn hr
      simp only [List.length_map] at ev
      rw [zip_range (fun a b => a + kk * b)] at ev
      exact ⟨D, rfl, _, .inl ⟨.of (by rw [hD1, ev]; rfl), fun l hl => k _ _ (e.then_new hl) (Dp.tup_ints (.of upd_same))⟩⟩
end
end Ws
/-! ## P27b -/
namespace Ws
open PySem PySem.Spec PyProof.Rows L2 RZ
local macro_rules | `(tactic| walk_at "nf") => `(tactic| dsimp only [tNext, tSeq, tDrop, tRet, tRetN, tIfS, tAsg, gName, gTup, gCons, gNil, tVar, tC, tOp, tUn, rI, rI0, rU, rEq, rNe, tTest, tChain, tAnd, tOr, tNot, tAndV, tOrV, tNotV, tIf, tCB, tCKw, tCons, tNil, tTup, tLst, tCa, tCallS, tB, rIxT, rIxL, rIxS, cxOf, Cx.nox, Cx.wish, Cx.blk, L2.start, tPar, tPar3, tNever, tYes, tBits, tRz, tBM, rAppend, tyV, tXf, suiteEnds, gSub, rSetL, tBreak, rMax, tDGet, sDPut, tSl, tNoPart, tPart, tDisp, tPairs, tDGet2, tDNewK, tAugS, ipI, rGetL, tDIn, tDNotIn, tBM0, rPop])
local macro_rules | `(tactic| walk_at "sx") => `(tactic| simp only [wipe, List.cons.injEq, and_assoc, exists_and_left, and_true, List.map_cons, List.map_nil, List.length_cons, List.length_nil, List.cons_append, List.nil_append, List.append_nil, Nat.reduceAdd, Nat.reduceSub, List.replicate, List.getElem?_cons_zero, List.getElem?_cons_succ, List.set_cons_zero, List.set_cons_succ, Option.some.injEq, V.int.injEq, V.bl.injEq, V.ref.injEq, V.str.injEq, exists_eq_left', exists_eq_left, true_and, Bool.true_eq_false, Bool.false_eq_true, if_true, if_false])

theorem cutV_from (xs : List V) (k : Nat) : cutV xs (some (k : Int)) none = xs.drop k := by
  unfold cutV
  rw [HT.sIx_nat, HT.sIx_none]
  by_cases h : k ≤ xs.length
  · rw [Nat.min_eq_left h, List.take_of_length_le (by rw [List.length_drop]; omega)]
  · rw [Nat.min_eq_right (by omega), List.drop_eq_nil_of_le (Nat.le_refl _), List.drop_eq_nil_of_le (by omega)]
    simp
theorem cutV_to (xs : List V) (k : Nat) : cutV xs none (some (k : Int)) = xs.take k := by
  unfold cutV
  rw [HT.sIx_nat, HT.sIx_none, List.drop_zero, Nat.sub_zero]
  by_cases h : k ≤ xs.length
  · rw [Nat.min_eq_left h]
  · rw [Nat.min_eq_right (by omega), List.take_of_length_le (Nat.le_refl _), List.take_of_length_le (by omega)]
theorem sq_go {te : TE} {i : Nat} {u : TS} {D : Ends} {σ : L2.St} {H : Hp} (h : te σ H fun v H1 => u D (σ.set i (some v)) H1) : tSeq (tAsg te (gName i)) u D σ H := h
theorem sq_if0 {t : TT} {r u : TS} {D : Ends} {σ : L2.St} {H : Hp} (h : t σ H fun b H1 => if b = true then r { D with nx := u D } σ H1 else u D σ H1) : tSeq (tIfS t r tNext) u D σ H := h
theorem sq_fr {w : L2.TI} {g : TG} {b u : TS} {D : Ends} {σ : L2.St} {H : Hp} (h : tFor w g b { D with nx := u D } σ H) : tSeq (tFor w g b) u D σ H := h
/-- what a list of told data is -/
theorem lst_view {K : PySem.W.Frag} {H : Hp} {α : Type} {f : α → PyData} {xs : List α} {v : V} (h : Dp K H v (.list (xs.map f))) : ∃ p zs, v = .ref p ∧ SqL K H p zs ∧ zs.length = xs.length ∧ (∀ (i : Nat) z, zs[i]? = some z → ∃ x, xs[i]? = some x ∧ Dp K H z (f x)) ∧ DpAll K H zs (xs.map f) := by
  cases h with
  | lst hs ha =>
    have hl := ha.length
    rw [List.length_map] at hl
    refine ⟨_, _, rfl, hs, hl, fun i z hz => ?_, ha⟩
    obtain ⟨d, h1, h2⟩ := ha.getV hz
    rw [List.getElem?_map] at h1
    cases e : xs[i]? with
    | none => rw [e] at h1; cases h1
    | some x =>
      rw [e] at h1
      cases h1
      exact ⟨x, rfl, h2⟩
theorem noList_ints' (xs : List Int) : noList (intsD xs) = true := noList_ints xs
def rowsL (rows : List Sq.Row) : PyData := .list (rows.map intsD)
def RowsOk (n m : Nat) (rows : List Sq.Row) : Prop := rows.length = n ∧ ∀ r ∈ rows, r.length = m ∧ ∀ x ∈ r, B64 x
def spDet (K : PySem.W.Frag) (N : Nat) : Sp := fun vs H Q _ => ∃ (v : V) (rows : List Sq.Row) (n : Nat), vs = [v] ∧ Dp K H v (rowsL rows) ∧ RowsOk n n rows ∧ n ≤ N ∧ N ≤ 100 ∧ ∀ H', Same H H' → Q (.int (Sq.det n rows)) H'
def spCof (K : PySem.W.Frag) (N : Nat) : Sp := fun vs H Q _ => ∃ (v : V) (rows : List Sq.Row) (n i j : Nat), vs = [v, .int (i : Nat), .int (j : Nat)] ∧ Dp K H v (rowsL rows) ∧ RowsOk n n rows ∧ n ≤ N ∧ N ≤ 100 ∧ i < n ∧ j < n ∧ ∀ H', Same H H' → Q (.int (Sq.cof (n - 1) rows i j)) H'
abbrev s_determinant : Stmt := top 18
abbrev nm_determinant : List Str := ["rows", "total", "at", "number"]
abbrev pr_determinant : List Str := ["rows"]
theorem sc_determinant : FnScope nm_determinant pr_determinant (defScope s_determinant) := ⟨rfl, rfl, rfl, by decide +kernel, rfl, by decide +kernel, by decide +kernel⟩
abbrev s_cofactor : Stmt := top 19
abbrev nm_cofactor : List Str := ["rows", "index", "at", "rest", "number", "row"]
abbrev pr_cofactor : List Str := ["rows", "index", "at"]
theorem sc_cofactor : FnScope nm_cofactor pr_cofactor (defScope s_cofactor) := ⟨rfl, rfl, rfl, by decide +kernel, rfl, by decide +kernel, by decide +kernel⟩
section
variable {P : Program} {w : World} {K : PySem.W.Frag} {mg : Str → Option Value} {base : Heap}
theorem cof0 (D : Dt K mg "cofactor" s_cofactor pr_cofactor) : Df P w K mg base CX0 1 "cofactor" pr_cofactor (spCof K 0) := by
  refine D.ok sc_cofactor (fun vs H Q E h => ?_) (fun f cdv A outer s H vs Q E hr h => ?_)
  · obtain ⟨v, rows, n, i, j, rfl, _⟩ := h
    rfl
  · obtain ⟨v, rows, n, i, j, rfl, _, _, _, _, hi, _⟩ := h
    omega
theorem ints_cut {xs : List Int} (k : Nat) : (xs.map V.int).take k = (xs.take k).map V.int := by rw [List.map_take]
theorem erase_cut {α : Type} (xs : List α) (k : Nat) : xs.take k ++ xs.drop (k + 1) = xs.eraseIdx k := (List.eraseIdx_eq_take_drop_succ xs k).symm
theorem minor_range (rows : List Sq.Row) (i j : Nat) : (((List.range rows.length).filter fun k => !decide (k = i)).map fun k => (rows.getD k []).eraseIdx j) = Sq.minor rows i j := by
  unfold Sq.minor
  induction rows generalizing i with
  | nil => simp
  | cons r rows ih =>
    rw [List.length_cons, List.range_succ_eq_map]
    cases i with
    | zero =>
      rw [List.filter_cons_of_neg (by simp), List.filter_map, List.map_map]
      have : List.filter ((fun k => !decide (k = 0)) ∘ Nat.succ) (List.range rows.length) = List.range rows.length := List.filter_eq_self.mpr fun x _ => by simp
      rw [this]
      show (List.range rows.length).map (fun k => (rows.getD k []).eraseIdx j) = rows.map (·.eraseIdx j)
      exact by_places rows [] (·.eraseIdx j)
    | succ i =>
      rw [List.filter_cons_of_pos (by simp), List.filter_map, List.map_cons, List.map_map, List.eraseIdx_cons_succ, List.map_cons, ← ih i]
      have : List.filter ((fun k => !decide (k = i + 1)) ∘ Nat.succ) (List.range rows.length) = List.filter (fun k => !decide (k = i)) (List.range rows.length) := List.filter_congr fun x _ => by simp
      rw [this]
      rfl
theorem minor_ok {n i j : Nat} {rows : List Sq.Row} (o : RowsOk n n rows) (hi : i < n) (hj : j < n) : RowsOk (n - 1) (n - 1) (Sq.minor rows i j) := by
  refine ⟨?_, fun r hr => ?_⟩
  · unfold Sq.minor
    rw [List.length_map, List.length_eraseIdx, o.1, if_pos hi]
  · obtain ⟨q, hq, rfl⟩ := List.mem_map.mp hr
    have hq := List.mem_of_mem_eraseIdx hq
    obtain ⟨h1, h2⟩ := o.2 q hq
    refine ⟨by rw [List.length_eraseIdx, h1, if_pos hj], fun x hx => h2 x (List.mem_of_mem_eraseIdx hx)⟩
theorem ok_cof {N d : Nat} (B : Bl mg) (F1 : Df P w K mg base CX0 d "determinant" pr_determinant (spDet K N)) (D : Dt K mg "cofactor" s_cofactor pr_cofactor) : Df P w K mg base CX0 (d + 1) "cofactor" pr_cofactor (spCof K (N + 1)) := by
  refine D.ok sc_cofactor (fun vs H Q E h => ?_) (fun f cdv A outer s H vs Q E hr h => ?_)
  · obtain ⟨v, rows, n, i, j, rfl, _⟩ := h
    rfl
  · obtain ⟨v, rows, n1, i, j, rfl, hv, o, hnN, hn, hi, hj, k⟩ := h
    obtain ⟨n, rfl⟩ : ∃ n, n1 = n + 1 := ⟨n1 - 1, by omega⟩
    obtain ⟨p, zs, rfl, hs, hl, hat, _⟩ := lst_view hv
    have lz : zs.length = n + 1 := by rw [hl, o.1]
    refine ⟨_, (pss_cons (ps_setLc (i := 3) (own := [("number", 4), ("row", 5)]) (g := gTup K 2 (gCons (gName 4) (gCons (gName 5) gNil))) (tt := _) rfl sc_cofactor.nd rfl rfl (sw_true rfl rfl rfl (by decide +kernel)) (pi_enum (by rfl) B.enumerate (pa_cons (pv 0) pa_nil)) (blkOk_by (own := [("number", 4), ("row", 5)]) (N := nm_cofactor) (sc := defScope s_cofactor) (by decide +kernel)) (fun _ _ _ _ _ => pg_tup rfl (pgs_cons (pg_name (i := 4) sc_cofactor.nd rfl (Or.inl rfl)) (pgs_cons (pg_name (i := 5) sc_cofactor.nd rfl (Or.inl rfl)) pgs_nil))) (fun _ _ _ _ _ => (pts_one (pt_cmpR op_ne (pv 4) (pv 1) (nomark _)))) (fun _ _ _ _ _ => (pe_op (show OpR _ _ (rCatA K) from op_catA) (pe_slice (show SlR _ (rSlA K) from sl_tupA) (pv 5) po_none (po_some (pv 2))) (pe_slice (show SlR _ (rSlA K) from sl_tupA) (pv 5) (po_some (pe_op op_add (pv 2) pe_int)) po_none)))) (pss_one (ps_ret (pe_ifExp (pt_cmpR op_eq (pe_op op_and (pe_op op_add (pv 1) (pv 2)) pe_int) pe_int (nomark _)) (pe_f F1 (hr.mono (by omega)) pass0 (pa_cons (pv 3) pa_nil)) (pe_un un_neg (pe_f F1 (hr.mono (by omega)) pass0 (pa_cons (pv 3) pa_nil))))))), ?_⟩
    walk_at "nf"
    walk_at "sx"
    refine ⟨_, rfl, p, zs, rfl, hs, fun D hD => lcF (walk_enum (K := K) (a := p) (xs := zs)) hD (by rw [lz]; exact slt (by omega)) (fun k => !decide (k = i)) (fun k y H => Dp K H y (intsD ((rows.getD k []).eraseIdx j))) (fun i y H H' e n q => keepN e n n _ _ (noList_ints _) q) (fun H1 e => e.seq hs) (fun k x H9 H10 Q1 Q0 hk e y q1 q0 => ?_) (fun H9 ys e hD1 g => ?_)⟩
    · obtain ⟨T, x1, x2, rfl, hT, rfl, h1, h2⟩ := y
      obtain rfl : V.int (k : Nat) = x1 := Option.some.inj h1
      obtain ⟨r, hr1, hdr⟩ := hat k x2 h2
      have e10 := Same.new (o := HO.tup [V.int (k : Nat), x2]) hT
      have er : rows.getD k [] = r := by rw [List.getD_eq_getElem?_getD, hr1]; rfl
      have hrl := (o.2 r (List.mem_of_getElem? hr1)).1
      rw [er] at q1
      walk_at "nf"
      refine ⟨T, _, rfl, .of upd_same, rfl, ?_⟩
      walk_at "sx"
      refine ⟨rfl, ?_⟩
      by_cases c : k = i
      · subst c
        rw [decide_eq_true rfl]
        exact iteF (q0 (by simp) _ e10)
      · have c2 : ¬ ((k : Int) = (i : Int)) := fun z => c (by omega)
        rw [decide_eq_false c2]
        refine iteT ?_
        obtain ⟨b, rfl, hb⟩ := ((hdr.to e).to e10).ints_tup
        refine sl_ok hb fun r1 H11 e11 h11 => ?_
        have ej : ((j : Nat) : Int) + 1 = ((j + 1 : Nat) : Int) := by omega
        rw [ej]
        refine sl_ok (e11.seqT hb) fun r2 H12 e12 h12 => cat_ok (e12.seqT h11) h12 ?_ fun r3 H13 e13 h13 => q1 (by simp [c]) _ _ ?_ ((e10.trans e11).trans (e12.trans e13))
        · rw [cutV_to, cutV_from, List.length_take, List.length_drop, List.length_map, sizeLine_eq]
          omega
        · refine Dp.tup_ints (h13.cast ?_)
          rw [cutV_to, cutV_from, ← List.map_take, ← List.map_drop, ← List.map_append, erase_cut]
    · have ha := g.dp (fun k => intsD ((rows.getD k []).eraseIdx j)) fun i y q => q
      have em : ((List.range zs.length).filter fun k => !decide (k = i)).map (fun k => intsD ((rows.getD k []).eraseIdx j)) = (Sq.minor rows i j).map intsD := by
        rw [hl, ← minor_range, List.map_map]
        rfl
      rw [em] at ha
      have hm : Dp K H9 (.ref D) (rowsL (Sq.minor rows i j)) := .lst (.of hD1) ha
      have mo := minor_ok o hi hj
      have e2 : Builtin.bitAnd ((i : Int) + (j : Int)) 1 = (((i + j) % 2 : Nat) : Int) := by
        rw [bitAnd_m1]
        omega
      show scal (V.int (Builtin.bitAnd ((i : Int) + (j : Int)) 1)) (V.int 0) = true ∧ if decide (Builtin.bitAnd ((i : Int) + (j : Int)) 1 = 0) = true then _ else _
      rw [e2]
      refine ⟨rfl, ?_⟩
      have eH := fun H' (e' : Same H9 H') => k H' (e.trans e')
      unfold Sq.cof Sq.sgn at eH
      by_cases c : (i + j) % 2 = 0
      · rw [c]
        refine iteT ⟨_, _, n, rfl, hm, mo, by omega, by omega, fun H' e' => ?_⟩
        have := eH H' e'
        rwa [if_pos c] at this
      · rw [decide_eq_false (by omega)]
        refine iteF ⟨_, _, n, rfl, hm, mo, by omega, by omega, fun H' e' => ⟨_, rfl, ?_⟩⟩
        have := eH H' e'
        rwa [if_neg c] at this
theorem det_part (n : Nat) (rows : List Sq.Row) : Sq.det (n + 1) rows = ((List.range (n + 1)).map fun j => (rows.getD 0 []).getD j 0 * Sq.cof n rows 0 j).sum := rfl
theorem ok_det {N d : Nat} (B : Bl mg) (F1 : Df P w K mg base CX0 d "cofactor" pr_cofactor (spCof K N)) (D : Dt K mg "determinant" s_determinant pr_determinant) : Df P w K mg base CX0 (d + 1) "determinant" pr_determinant (spDet K N) := by
  refine D.ok sc_determinant (fun vs H Q E h => ?_) (fun f cdv A outer s H vs Q E hr h => ?_)
  · obtain ⟨v, rows, n, rfl, _⟩ := h
    rfl
  · obtain ⟨v, rows, n, rfl, hv, o, hnN, hn, k⟩ := h
    obtain ⟨p, zs, rfl, hs, hl, hat, _⟩ := lst_view hv
    have lz : zs.length = n := by rw [hl, o.1]
    refine ⟨_, (pss_cons (ps_if (pt_not (pt_truth (pv 0) (by intro _; rfl))) (pss_one (ps_ret pe_int)) pss_nil) (pss_cons (ps_set (i := 1) sc_determinant.nd rfl (Or.inl rfl) pe_int) (pss_cons (ps_for PassesOwn.never rfl (pi_enumT (by rfl) B.enumerate (pa_cons (pe_ix ix_list (pv 0) pe_int (fun _ _ => rfl)) pa_nil)) (pg_tup rfl (pgs_cons (pg_name (i := 2) sc_determinant.nd rfl (Or.inl rfl)) (pgs_cons (pg_name (i := 3) sc_determinant.nd rfl (Or.inl rfl)) pgs_nil))) (pss_one (ps_if (pt_cmpR op_ne (pv 3) pe_int (nomark _)) (pss_one (ps_aug (i := 1) sc_determinant.nd rfl (Or.inl rfl) (pe_op op_mul (pv 3) (pe_f F1 (hr.mono (by omega)) pass0 (pa_cons (pv 0) (pa_cons pe_int (pa_cons (pv 2) pa_nil))))) ip_add)) pss_nil))) (pss_one (ps_ret (pv 1)))))), ?_⟩
    walk_at "nf"
    walk_at "sx"
    refine ⟨!zs.isEmpty, .inl ⟨zs, hs, rfl⟩, ?_⟩
    cases n with
    | zero =>
      obtain rfl : zs = [] := List.eq_nil_of_length_eq_zero lz
      exact iteT (k _ (Same.refl _))
    | succ n =>
      obtain ⟨z0, hz0⟩ : ∃ z0, zs[0]? = some z0 := ⟨_, List.getElem?_eq_getElem (by omega)⟩
      have ne : zs.isEmpty = false := by cases zs with
        | nil => simp at hz0
        | cons => rfl
      rw [ne]
      obtain ⟨r, hr0, hd0⟩ := hat 0 z0 hz0
      have erow : rows.getD 0 [] = r := by rw [List.getD_eq_getElem?_getD, hr0]; rfl
      obtain ⟨rl, rb⟩ := o.2 r (List.mem_of_getElem? hr0)
      obtain ⟨b, rfl, hb⟩ := hd0.ints_tup
      refine iteF ⟨_, rfl, p, zs, 0, _, rfl, rfl, hs, atI_nat (j := 0) hz0, b, _, rfl, hb, for_it walk_enumT (fun i σ H' => Same H H' ∧ ∃ v2 v3, σ = [some (V.ref p), some (.int (((List.range i).map fun j => r.getD j 0 * Sq.cof n rows 0 j).sum)), v2, v3]) ⟨Same.refl _, _, _, rfl⟩ (fun i σ H' _ p => p.1.seqT hb) (fun i x σ H1 H2 hi py y => ?_) (fun σ H1 py => ?_)⟩
      · obtain ⟨e1, v2, v3, rfl⟩ := py
        obtain ⟨T, x1, x2, rfl, hT, rfl, h1, h2⟩ := y
        obtain rfl : V.int (i : Nat) = x1 := Option.some.inj h1
        have hi2 : i < n + 1 := by rw [List.length_map, rl] at hi; exact hi
        have e2 := Same.new (o := HO.tup [V.int (i : Nat), x2]) hT
        have f2 : x2 = V.int (r.getD i 0) := by
          have : (r.map V.int)[i]? = some (V.int (r.getD i 0)) := by simp [show i < r.length by omega]
          exact Option.some.inj (h2.symm.trans this)
        subst f2
        have hb64 := rb (r.getD i 0) (by simp [show i < r.length by omega])
        walk_at "nf"
        refine ⟨T, _, rfl, .of upd_same, rfl, ?_⟩
        walk_at "sx"
        have es : ((List.range (i + 1)).map fun j => r.getD j 0 * Sq.cof n rows 0 j).sum = ((List.range i).map fun j => r.getD j 0 * Sq.cof n rows 0 j).sum + r.getD i 0 * Sq.cof n rows 0 i := by
          rw [List.range_succ, List.map_append, List.sum_append]
          simp
        refine ⟨rfl, ?_⟩
        by_cases c : r.getD i 0 = 0
        · rw [decide_eq_true c]
          refine iteF ⟨e1.trans e2, ?_, _, rfl⟩
          rw [es, c]
          simp
        · rw [decide_eq_false c]
          refine iteT ?_
          refine ⟨_, rfl, _, rfl, _, rfl, _, rfl, .ref p, rows, n + 1, 0, i, rfl, (hv.to e1).to e2, o, hnN, hn, by omega, hi2, fun H3 e3 => ⟨_, _, rfl, rfl, .inl hb64, _, _, rfl, rfl, (e1.trans e2).trans e3, some (.int (i : Nat)), some (.int (r.getD i 0)), ?_⟩⟩
          rw [es]
          rfl
      · obtain ⟨e1, v2, v3, rfl⟩ := py
        have el : (r.map V.int).length = n + 1 := by rw [List.length_map]; exact rl
        have := k _ e1
        rw [det_part, erow] at this
        rw [el]
        exact ⟨_, rfl, this⟩
theorem all_det (B : Bl mg) (D1 : Dt K mg "determinant" s_determinant pr_determinant) (D2 : Dt K mg "cofactor" s_cofactor pr_cofactor) : ∀ n : Nat, Df P w K mg base CX0 (2 * n + 1) "cofactor" pr_cofactor (spCof K n) ∧ Df P w K mg base CX0 (2 * n + 2) "determinant" pr_determinant (spDet K n)
  | 0 => ⟨cof0 D2, ok_det B (cof0 D2) D1⟩
  | n + 1 => by
    have h := (all_det B D1 D2 n).2
    have h1 := ok_cof B h D2
    have h2 := ok_det B h1 D1
    exact ⟨h1, h2⟩
end
end Ws
/-! ## P27c -/
namespace Ws
open PySem PySem.Spec PyProof.Rows L2 RZ
local macro_rules | `(tactic| walk_at "nf") => `(tactic| dsimp only [tNext, tSeq, tDrop, tRet, tRetN, tIfS, tAsg, gName, gTup, gCons, gNil, tVar, tC, tOp, tUn, rI, rI0, rU, rEq, rNe, tTest, tChain, tAnd, tOr, tNot, tAndV, tOrV, tNotV, tIf, tCB, tCKw, tCons, tNil, tTup, tLst, tCa, tCallS, tB, rIxT, rIxL, rIxS, cxOf, Cx.nox, Cx.wish, Cx.blk, L2.start, tPar, tPar3, tNever, tYes, tBits, tRz, tBM, rAppend, tyV, tXf, suiteEnds, gSub, rSetL, tBreak, rMax, tDGet, sDPut, tSl, tNoPart, tPart, tDisp, tPairs, tDGet2, tDNewK, tAugS, ipI, rGetL, tDIn, tDNotIn, tBM0, rPop])
local macro_rules | `(tactic| walk_at "sx") => `(tactic| simp only [wipe, List.cons.injEq, and_assoc, exists_and_left, and_true, List.map_cons, List.map_nil, List.length_cons, List.length_nil, List.cons_append, List.nil_append, List.append_nil, Nat.reduceAdd, Nat.reduceSub, List.replicate, List.getElem?_cons_zero, List.getElem?_cons_succ, List.set_cons_zero, List.set_cons_succ, Option.some.injEq, V.int.injEq, V.bl.injEq, V.ref.injEq, V.str.injEq, exists_eq_left', exists_eq_left, true_and, Bool.true_eq_false, Bool.false_eq_true, if_true, if_false])

def chD (l : List (List Nat)) : PyData := .list (l.map fun e => rowD e)
def spChs (K : PySem.W.Frag) : Sp := fun vs H Q _ => ∃ (m c : Nat), vs = [.int (m : Nat), .int (c : Nat)] ∧ m ≤ 4 ∧ c ≤ 4 ∧ ∀ H' u, Same H H' → Dp K H' u (chD (Sq.chs m c)) → Q u H'
abbrev s_choices_of : Stmt := top 20
abbrev nm_choices_of : List Str := ["many", "count", "found", "_", "each", "place"]
abbrev pr_choices_of : List Str := ["many", "count"]
theorem sc_choices_of : FnScope nm_choices_of pr_choices_of (defScope s_choices_of) := ⟨rfl, rfl, rfl, by decide +kernel, rfl, by decide +kernel, by decide +kernel⟩
section
variable {P : Program} {w : World} {K : PySem.W.Frag} {mg : Str → Option Value} {base : Heap}
theorem chs_few (m i : Nat) (hm : m ≤ 4) (hi : i < 4) : (Sq.chs m i).length ≤ 6 ∧ ∀ e ∈ Sq.chs m i, Sq.fromOf e ≤ m ∧ e.length ≤ 4 := by
  have h : ∀ m : Fin 5, ∀ i : Fin 4, (Sq.chs m.1 i.1).length ≤ 6 ∧ ∀ e ∈ Sq.chs m.1 i.1, Sq.fromOf e ≤ m.1 ∧ e.length ≤ 4 := by decide
  exact h ⟨m, by omega⟩ ⟨i, hi⟩
theorem from_last (e : List Nat) (x : Nat) : Sq.fromOf (e ++ [x]) = x + 1 := by
  unfold Sq.fromOf
  rw [List.getLast?_append]
  rfl
theorem lo_ok {e : List Nat} {b : Addr} {σ : L2.St} {H : Hp} {Q : VK} (h : σ[4]? = some (some (.ref b))) (hb : SqT K H b ((nI e).map V.int)) (q : Q (.int (Sq.fromOf e : Nat)) H) :
    tIf (fun σ H Q => ∃ v, σ[4]? = some (some v) ∧ ∃ k, TruV K v H k ∧ Q k H) (tOp (rI0 fun i j => V.int (i + j)) (tOp (rIxT K) (tVar 4) (tUn (rU fun i => V.int (-i)) (tC (V.int 1)))) (tC (V.int 1))) (tC (V.int 0)) σ H Q := by
  refine ⟨_, h, !((nI e).map V.int).isEmpty, .inr (.inl ⟨_, hb, rfl⟩), ?_⟩
  rcases List.eq_nil_or_concat e with rfl | ⟨e, x, rfl⟩
  · exact iteF q
  · have ne : ((nI (e.concat x)).map V.int).isEmpty = false := by
      rw [List.concat_eq_append, nI_app, List.map_append]
      cases (nI e).map V.int <;> rfl
    rw [ne]
    refine iteT ⟨_, h, 1, rfl, b, _, _, .int (x : Nat), rfl, rfl, hb, ?_, _, _, rfl, rfl, ?_⟩
    · rw [List.concat_eq_append, nI_app, List.map_append]
      unfold atI ixN
      have : ((nI e).map V.int ++ (nI [x]).map V.int).length = e.length + 1 := by simp [nI]
      rw [this]
      rw [if_neg (by omega), if_pos (by omega)]
      have e2 : ((-1 : Int) + ((e.length : Int) + 1)).toNat = e.length := by omega
      simp only [Option.bind_some, Int.natCast_add, Int.natCast_one, e2]
      have : e.length = ((nI e).map V.int).length := by simp [nI]
      rw [this, List.getElem?_append_right (Nat.le_refl _)]
      simp [nI]
    · rw [List.concat_eq_append, from_last] at q
      exact q
theorem ok_chs (B : Bl mg) (D : Dt K mg "choices_of" s_choices_of pr_choices_of) : Df P w K mg base CX0 1 "choices_of" pr_choices_of (spChs K) := by
  refine D.ok sc_choices_of (fun vs H Q E h => ?_) (fun f cdv A outer s H vs Q E hr h => ?_)
  · obtain ⟨m, c, rfl, _⟩ := h
    rfl
  · obtain ⟨m, c, rfl, hm, hc, k⟩ := h
    refine ⟨_, (pss_cons (ps_set (i := 2) sc_choices_of.nd rfl (Or.inl rfl) (pe_lst (pa_cons (pe_tup pa_nil) pa_nil))) (pss_cons (ps_for PassesOwn.never rfl (pi_range1 (by rfl) B.range (pa_cons (pv 1) pa_nil)) (pg_name (i := 3) sc_choices_of.nd rfl (Or.inl rfl)) (pss_one (ps_setLc2 (i := 2) (own := [("each", 4), ("place", 5)]) (vs1 := [5]) (g := gName 4) (tt := tYes) (g1 := gName 5) (tt1 := tYes) (wi1 := iRng2 (tCons (tIf (fun σ H Q => tVar 4 σ H fun x H' => ∃ k, TruV K x H' k ∧ Q k H') (tOp (rI0 fun i j => V.int (i + j)) (tOp (rIxT K) (tVar 4) (tUn (rU fun i => V.int (-i)) (tC (V.int 1)))) (tC (V.int 1))) (tC (V.int 0))) (tCons (tVar 0) tNil))) (te := tOp (rCatA K) (tVar 4) (tTup (tCons (tVar 5) tNil))) rfl sc_choices_of.nd rfl rfl (sw_true rfl rfl rfl (by decide +kernel)) (pi_list (pv 2)) (blkOk_by (own := [("each", 4), ("place", 5)]) (N := nm_choices_of) (sc := defScope s_choices_of) (by decide +kernel)) (by decide) (fun _ _ _ _ _ => pg_name (i := 4) sc_choices_of.nd rfl (Or.inl rfl)) (fun _ _ _ _ _ => pts_nil) (fun _ _ _ _ _ => (pi_range2 (by rfl) B.range (pa_cons (pe_ifExp (pt_truth (pv 4) (by intro _; rfl)) (pe_op op_add (pe_ix ix_tup (pv 4) (pe_un un_neg pe_int) (fun _ _ => rfl)) pe_int) pe_int) (pa_cons (pv 0) pa_nil)))) (fun _ _ _ _ _ => pg_name (i := 5) sc_choices_of.nd rfl (Or.inl rfl)) (fun _ _ _ _ _ => pts_nil) (fun _ _ _ _ _ => (pe_op (show OpR _ _ (rCatA K) from op_catA) (pv 4) (pe_tup (pa_cons (pv 5) pa_nil)))) ))) (pss_one (ps_ret (pv 2))))), ?_⟩
    walk_at "nf"
    walk_at "sx"
    refine ⟨Nat.zero_le _, fun p0 hp0 => ⟨by decide, fun p1 hp1 => ?_⟩⟩
    have hp00 : upd (upd H p0 (HO.tup [])) p1 (HO.lst [V.ref p0]) p0 = some (.tup []) := (Same.new hp1) _ _ upd_same
    have s0 : Same H (upd (upd H p0 (HO.tup [])) p1 (HO.lst [V.ref p0])) := (Same.new hp0).trans (Same.new hp1)
    have d0 : Dp K (upd (upd H p0 (HO.tup [])) p1 (HO.lst [V.ref p0])) (.ref p1) (chD (Sq.chs m 0)) := .lst (.of upd_same) (.cons (.tup (.of hp00) .nil) .nil)
    generalize upd (upd H p0 (HO.tup [])) p1 (HO.lst [V.ref p0]) = H1 at s0 d0 ⊢
    refine ⟨_, rfl, (c : Int), rfl, by omega, by omega, for_it walk_range (fun i σ H' => Same H H' ∧ ∃ q v3, σ = [some (.int (m : Nat)), some (.int (c : Nat)), some (.ref q), v3, none, none] ∧ Dp K H' (.ref q) (chD (Sq.chs m i))) ⟨s0, p1, _, rfl, d0⟩ (fun _ _ _ _ _ => trivial) (fun i x σ H3 H2 hi py y => ?_) (fun σ H2 py => ?_)⟩
    · obtain ⟨s2, q, v3, rfl, dq⟩ := py
      obtain ⟨rfl, rfl⟩ := y
      have hi2 : i < c := by simpa using hi
      obtain ⟨p, zs, ep, hs, hl, hat, _⟩ := lst_view dq
      cases ep
      obtain ⟨l1, l2⟩ := chs_few m i hm (by omega)
      let ext : List Nat → List (List Nat) := fun e => (List.range (m - Sq.fromOf e)).map fun k => e ++ [Sq.fromOf e + k]
      have le4 : ∀ e, (ext e).length ≤ 4 := fun e => by show ((List.range _).map _).length ≤ 4; rw [List.length_map, List.length_range]; omega
      have fl : ∀ l : List (List Nat), (l.flatMap ext).length ≤ 4 * l.length := fun l => by
        induction l with
        | nil => simp
        | cons e l ih =>
          rw [List.flatMap_cons, List.length_append, List.length_cons]
          have := le4 e
          omega
      walk_at "nf"
      refine ⟨_, rfl, q, rfl, ⟨zs, hs⟩, fun D hD => lc2_out walk_list (fun k H' => Same H2 H' ∧ ∃ ys, H' D = some (.lst ys) ∧ DpAll K H' ys ((((Sq.chs m i).take k).flatMap ext).map rowD)) ⟨Same.new hD, [], upd_same, .nil⟩ (fun k H' _ p => p.1.seq hs) (fun k x H4 H5 hk py y => ?_) (fun H4 py => ?_)⟩
      · obtain ⟨s4, ys, hy, hys⟩ := py
        obtain ⟨rfl, hx⟩ := y
        obtain ⟨e, he, hde⟩ := hat k x hx
        obtain ⟨b, rfl, hb0⟩ := row_view hde
        have hb := s4.seqT hb0
        have hem := List.mem_of_getElem? he
        obtain ⟨e4, e5⟩ := l2 e hem
        have hle : (Sq.chs m i).length = zs.length := hl.symm
        refine ⟨rfl, ?_⟩
        refine iteT (B := Same H2 H5 ∧ ∃ ys, H5 D = some (HO.lst ys) ∧ DpAll K H5 ys ((((Sq.chs m i).take (k + 1)).flatMap ext).map rowD)) (lo_ok rfl hb ⟨_, rfl, _, _, rfl, by omega, ?_⟩)
        have en : ((m : Int) - (Sq.fromOf e : Nat)).toNat = m - Sq.fromOf e := by omega
        rw [en]
        refine lc2_in walk_range (fun j H' => Same H2 H' ∧ ∃ ys, H' D = some (.lst ys) ∧ DpAll K H' ys ((((Sq.chs m i).take k).flatMap ext ++ (ext e).take j).map rowD)) ⟨s4, ys, hy, by rw [List.take_zero, List.append_nil]; exact hys⟩ (fun _ _ _ _ => trivial) (fun j x H6 H7 hj py y => ?_) (fun H6 py => ?_)
        · obtain ⟨s6, ys6, hy6, hys6⟩ := py
          obtain ⟨rfl, rfl⟩ := y
          have l6 := hys6.length
          have f1 := fl ((Sq.chs m i).take k)
          have f2 := le4 e
          rw [List.length_map, List.length_append, List.length_take] at l6
          rw [List.length_take] at f1
          have lys : ys6.length ≤ 100 := by omega
          walk_at "nf"
          walk_at "sx"
          refine ⟨by decide, fun p2 hp2 => cat_ok ((Same.new hp2).seqT ((s6.seqT hb0))) (.of upd_same) (by simp [nI, sizeLine_eq]; omega) fun r H8 e8 h8 => ?_⟩
          have e68 := (Same.new (o := HO.tup [V.int ((Sq.fromOf e : Nat) + (j : Int))]) hp2).trans e8
          have hy8 := e68 _ _ hy6
          have ha8 := hys6.to e68
          have hr8 : Dp K H8 (.ref r) (rowD (e ++ [Sq.fromOf e + j])) := by
            refine Dp.tup_ints (h8.cast ?_)
            simp [nI]
          have je : (ext e)[j]? = some (e ++ [Sq.fromOf e + j]) := by
            show ((List.range _).map _)[j]? = _
            rw [List.getElem?_map, List.getElem?_range hj]
            rfl
          refine ⟨ys6, hy8, slt (by omega), (s6.trans e68).mut hD, _, upd_same, ?_⟩
          rw [show (ext e).take (j + 1) = (ext e).take j ++ [e ++ [Sq.fromOf e + j]] from by
            obtain ⟨h1, h2⟩ := List.getElem?_eq_some_iff.mp je
            rw [List.take_succ_eq_append_getElem h1, h2], ← List.append_assoc, List.map_append]
          exact (keepLs hy8 (noList_rows _) ha8).snoc (keepL hy8 (noList_row _) hr8)
        · obtain ⟨s6, ys6, hy6, hys6⟩ := py
          refine ⟨s6, ys6, hy6, ?_⟩
          rw [show (Sq.chs m i).take (k + 1) = (Sq.chs m i).take k ++ [e] from by
            obtain ⟨h1, h2⟩ := List.getElem?_eq_some_iff.mp he
            rw [List.take_succ_eq_append_getElem h1, h2], List.flatMap_append]
          have et : (ext e).take (m - Sq.fromOf e) = ext e := List.take_of_length_le (by show ((List.range _).map _).length ≤ _; rw [List.length_map, List.length_range]; exact Nat.le_refl _)
          rw [et] at hys6
          rw [List.flatMap_cons, List.flatMap_nil, List.append_nil]
          exact hys6
      · obtain ⟨s4, ys, hy, hys⟩ := py
        refine ⟨s2.trans s4, D, _, rfl, .lst (.of hy) ?_⟩
        rw [List.take_of_length_le (by omega)] at hys
        exact hys
    · obtain ⟨s2, q, v3, rfl, dq⟩ := py
      have ec : ((c : Int) - 0).toNat = c := by omega
      exact ⟨_, rfl, k _ _ s2 dq⟩
end
end Ws
/-! ## P27d -/
namespace Ws
open PySem PySem.Spec PyProof.Rows L2 RZ
local macro_rules | `(tactic| walk_at "nf") => `(tactic| dsimp only [tNext, tSeq, tDrop, tRet, tRetN, tIfS, tAsg, gName, gTup, gCons, gNil, tVar, tC, tOp, tUn, rI, rI0, rU, rEq, rNe, tTest, tChain, tAnd, tOr, tNot, tAndV, tOrV, tNotV, tIf, tCB, tCKw, tCons, tNil, tTup, tLst, tCa, tCallS, tB, rIxT, rIxL, rIxS, cxOf, Cx.nox, Cx.wish, Cx.blk, L2.start, tPar, tPar3, tNever, tYes, tBits, tRz, tBM, rAppend, tyV, tXf, suiteEnds, gSub, rSetL, tBreak, rMax, tDGet, sDPut, tSl, tNoPart, tPart, tDisp, tPairs, tDGet2, tDNewK, tAugS, ipI, rGetL, tDIn, tDNotIn, tBM0, rPop])
local macro_rules | `(tactic| walk_at "sx") => `(tactic| simp only [wipe, List.cons.injEq, and_assoc, exists_and_left, and_true, List.map_cons, List.map_nil, List.length_cons, List.length_nil, List.cons_append, List.nil_append, List.append_nil, Nat.reduceAdd, Nat.reduceSub, List.replicate, List.getElem?_cons_zero, List.getElem?_cons_succ, List.set_cons_zero, List.set_cons_succ, Option.some.injEq, V.int.injEq, V.bl.injEq, V.ref.injEq, V.str.injEq, exists_eq_left', exists_eq_left, true_and, Bool.true_eq_false, Bool.false_eq_true, if_true, if_false])

def rTupO (K : PySem.W.Frag) : List V → Hp → VK → Prop := fun xs H Q => ∃ p ys, xs = [.ref p] ∧ ((SqL K H p ys ∧ ∀ l, H l = none → Q (.ref l) (upd H l (.tup ys))) ∨ (SqT K H p ys ∧ Q (.ref p) H))
def wAt (rows : List Sq.Row) (n : Nat) (s : Int) (i j : Nat) : Int := if s > 0 then Sq.cof (n - 1) rows i j else -Sq.cof (n - 1) rows i j
def wFor' (many : Nat) (ps : List Nat) (rows : List Sq.Row) (s : Int) (i k : Nat) : Sq.Row := (List.range k).foldl (fun w j => w.set (ps.getD j 0) (wAt rows ps.length s i j)) (List.replicate many 0)
theorem wFor_eq (many : Nat) (ps : List Nat) (rows : List Sq.Row) (s : Int) (i : Nat) : Sq.wFor many ps rows s i = wFor' many ps rows s i ps.length := rfl
theorem wFor_len (many : Nat) (ps : List Nat) (rows : List Sq.Row) (s : Int) (i k : Nat) : (wFor' many ps rows s i k).length = many := by
  unfold wFor'
  induction k with
  | zero => simp
  | succ k ih => rw [List.range_succ, List.foldl_append, List.foldl_cons, List.foldl_nil, List.length_set]; exact ih
theorem wFor_succ (many : Nat) (ps : List Nat) (rows : List Sq.Row) (s : Int) (i k : Nat) : wFor' many ps rows s i (k + 1) = (wFor' many ps rows s i k).set (ps.getD k 0) (wAt rows ps.length s i k) := by
  unfold wFor'
  rw [List.range_succ, List.foldl_append, List.foldl_cons, List.foldl_nil]
def spWFor (K : PySem.W.Frag) (N : Nat) : Sp := fun vs H Q _ => ∃ (n m : Nat) (pv rv : V) (ps : List Nat) (rows : List Sq.Row) (s : Int) (i : Nat), vs = [.int (m : Nat), pv, rv, .int s, .int (i : Nat)] ∧ Dp K H pv (rowD ps) ∧ Dp K H rv (rowsL rows) ∧ RowsOk n n rows ∧ n ≤ N ∧ N ≤ 100 ∧ ps.length = n ∧ i < n ∧ m ≤ 100 ∧ (∀ p ∈ ps, p < m) ∧
  ∀ H' u, Same H H' → Dp K H' u (intsD (Sq.wFor m ps rows s i)) → Q u H'
def sqD : Option Sq.Sqr → PyData
  | none => .none
  | some q => .tuple [rowD q.ps, .int q.size, .list (q.ws.map intsD)]
def RowsP (n m : Nat) (rows : List Sq.Row) : Prop := rows.length = n ∧ ∀ r ∈ rows, r.length = m ∧ ∀ x ∈ r, B64 x
def spSq (K : PySem.W.Frag) : Sp := fun vs H Q _ => ∃ (n m : Nat) (pv : V) (pers : List Sq.Row), vs = [.int (m : Nat), pv] ∧ Dp K H pv (.tuple (pers.map intsD)) ∧ RowsP n m pers ∧ n ≤ 3 ∧ m ≤ 4 ∧
  ∀ H' u, Same H H' → DpN H K H' u (sqD (Sq.sqOf m pers)) → Q u H'
abbrev s_weights_for : Stmt := top 22
abbrev nm_weights_for : List Str := ["many", "places", "rows", "size", "index", "weights", "at", "place", "_"]
abbrev pr_weights_for : List Str := ["many", "places", "rows", "size", "index"]
theorem sc_weights_for : FnScope nm_weights_for pr_weights_for (defScope s_weights_for) := ⟨rfl, rfl, rfl, by decide +kernel, rfl, by decide +kernel, by decide +kernel⟩
abbrev s_square_of : Stmt := top 21
abbrev nm_square_of : List Str := ["many", "periods", "places", "rows", "size", "weights", "period", "index", "place"]
abbrev pr_square_of : List Str := ["many", "periods"]
theorem sc_square_of : FnScope nm_square_of pr_square_of (defScope s_square_of) := ⟨rfl, rfl, rfl, by decide +kernel, rfl, by decide +kernel, by decide +kernel⟩
section
variable {P : Program} {w : World} {K : PySem.W.Frag} {mg : Str → Option Value} {base : Heap}
theorem ok_wfor {N d : Nat} (B : Bl mg) (F1 : Df P w K mg base CX0 d "cofactor" pr_cofactor (spCof K N)) (D : Dt K mg "weights_for" s_weights_for pr_weights_for) : Df P w K mg base CX0 (d + 1) "weights_for" pr_weights_for (spWFor K N) := by
  refine D.ok sc_weights_for (fun vs H Q E h => ?_) (fun f cdv A outer s H vs Q E hr h => ?_)
  · obtain ⟨n, m, pv, rv, ps, rows, s, i, rfl, _⟩ := h
    rfl
  · obtain ⟨n, m, pv, rv, ps, rows, sz, idx, rfl, hp, hrw, o, hnN, hn3, hl, hi, hm, hlt, k⟩ := h
    obtain ⟨b, rfl, hb⟩ := row_view hp
    refine ⟨_, (pss_cons (ps_setLc (i := 5) (own := [("_", 8)]) (g := gName 8) (tt := tYes) rfl sc_weights_for.nd rfl rfl (sw_true rfl rfl rfl (by decide +kernel)) (pi_range1 (by rfl) B.range (pa_cons (pv 0) pa_nil)) (blkOk_by (own := [("_", 8)]) (N := nm_weights_for) (sc := defScope s_weights_for) (by decide +kernel)) (fun _ _ _ _ _ => pg_name (i := 8) sc_weights_for.nd rfl (Or.inl rfl)) (fun _ _ _ _ _ => pts_nil) (fun _ _ _ _ _ => pe_int)) (pss_cons (ps_for PassesOwn.never rfl (pi_enumT (by rfl) B.enumerate (pa_cons (pv 1) pa_nil)) (pg_tup rfl (pgs_cons (pg_name (i := 6) sc_weights_for.nd rfl (Or.inl rfl)) (pgs_cons (pg_name (i := 7) sc_weights_for.nd rfl (Or.inl rfl)) pgs_nil))) (pss_one (ps_asg (pe_ifExp (pt_cmpR op_gt (pv 3) pe_int (nomark _)) (pe_f F1 (hr.mono (by omega)) pass0 (pa_cons (pv 2) (pa_cons (pv 4) (pa_cons (pv 6) pa_nil)))) (pe_un un_neg (pe_f F1 (hr.mono (by omega)) pass0 (pa_cons (pv 2) (pa_cons (pv 4) (pa_cons (pv 6) pa_nil)))))) (pg_sub (pv 5) (pv 7) set_list)))) (pss_one (ps_ret (pe_callTy call_tuple_of (by rfl) B.tuple PyProof.Rows.boot_tuple (pa_cons (pv 5) pa_nil)))))), ?_⟩
    walk_at "nf"
    walk_at "sx"
    refine ⟨_, rfl, (m : Int), rfl, by omega, by omega, fun q hq => lcS walk_range hq (slt (by omega)) (fun i y => y = .int 0) (fun _ _ => trivial) (fun i x H1 H2 Q1 hi e y q1 => ?_) (fun H1 ys e hy hn hr => ?_)⟩
    · obtain ⟨rfl, rfl⟩ := y
      exact ⟨rfl, q1 _ _ rfl (Same.refl _)⟩
    · have ev := vals_int (f := fun _ => (0 : Int)) hn hr
      have e0 : ys = (wFor' m ps rows sz idx 0).map V.int := by
        rw [ev]
        unfold wFor'
        have : ((m : Int)).toNat = m := by omega
        rw [this, List.map_const', List.length_range]
        rfl
      subst e0
      refine ⟨_, rfl, b, _, rfl, e.seqT hb, for_it walk_enumT (fun j σ H' => Same H H' ∧ H' q = some (.lst ((wFor' m ps rows sz idx j).map V.int)) ∧ ∃ v6 v7, σ = [some (V.int (m : Nat)), some (V.ref b), some rv, some (V.int sz), some (V.int (idx : Nat)), some (.ref q), v6, v7, none]) ⟨e, hy, _, _, rfl⟩ (fun j σ H' _ p => p.1.seqT hb) (fun j x σ H2 H3 hj py y => ?_) (fun σ H2 py => ?_)⟩
      · obtain ⟨s2, h2, v6, v7, rfl⟩ := py
        obtain ⟨T, x1, x2, rfl, hT, rfl, g1, g2⟩ := y
        obtain rfl : V.int (j : Nat) = x1 := Option.some.inj g1
        obtain ⟨p, hp1, rfl⟩ := nI_get g2
        have hjl : j < ps.length := (List.getElem?_eq_some_iff.mp hp1).1
        have e3 := Same.new (o := HO.tup [V.int (j : Nat), V.int (p : Nat)]) hT
        have pm := hlt p (List.mem_of_getElem? hp1)
        have epj : ps.getD j 0 = p := by rw [List.getD_eq_getElem?_getD, hp1]; rfl
        walk_at "nf"
        refine ⟨T, _, rfl, .of upd_same, rfl, ?_⟩
        walk_at "sx"
        have fin : ∀ H4 z, Same (upd H2 T (HO.tup [V.int (j : Nat), V.int (p : Nat)])) H4 → z = wAt rows ps.length sz idx j → ∃ x_1, H4 q = some (HO.lst x_1) ∧ ∃ x_2, ixN x_1.length ((p : Nat) : Int) = some x_2 ∧ Same H (upd H4 q (HO.lst (x_1.set x_2 (V.int z)))) ∧ upd H4 q (HO.lst (x_1.set x_2 (V.int z))) q = some (HO.lst (List.map V.int (wFor' m ps rows sz idx (j + 1)))) ∧ ∃ x, some (V.int (p : Nat)) = x := fun H4 z e4 ez => by
          refine ⟨_, e4 _ _ (e3 _ _ h2), p, ?_, ((s2.trans e3).trans e4).mut hq, ?_, _, rfl⟩
          · unfold ixN
            rw [List.length_map, wFor_len, if_pos (by omega), if_pos (by omega), Int.toNat_natCast]
          · rw [upd_same, wFor_succ, List.map_set, epj, ez]
        have hr3 := (hrw.to s2).to e3
        by_cases c : 0 < sz
        · rw [decide_eq_true c]
          refine iteT ⟨rv, rows, n, idx, j, rfl, hr3, o, hnN, hn3, hi, by omega, fun H4 e4 => fin H4 _ e4 ?_⟩
          unfold wAt
          rw [if_pos (show sz > 0 from c), hl]
        · rw [decide_eq_false c]
          refine iteF ⟨rv, rows, n, idx, j, rfl, hr3, o, hnN, hn3, hi, by omega, fun H4 e4 => ⟨_, rfl, fin H4 _ e4 ?_⟩⟩
          unfold wAt
          rw [if_neg (show ¬ sz > 0 from c), hl]
      · obtain ⟨s2, h2, v6, v7, rfl⟩ := py
        refine ⟨_, rfl, q, rfl, _, .inl ⟨.of h2, fun l hl2 => k _ _ (s2.then_new hl2) ?_⟩⟩
        rw [List.length_map, nI_length, ← wFor_eq]
        exact Dp.tup_ints (.of upd_same)
theorem chs_len (m i : Nat) (hm : m ≤ 4) (hi : i ≤ 4) : ∀ e ∈ Sq.chs m i, e.length = i ∧ ∀ p ∈ e, p < m := by
  have h : ∀ m : Fin 5, ∀ i : Fin 5, ∀ e ∈ Sq.chs m.1 i.1, e.length = i.1 ∧ ∀ p ∈ e, p < m.1 := by decide
  exact h ⟨m, by omega⟩ ⟨i, by omega⟩
theorem ok_square {d : Nat} (B : Bl mg) (F1 : Df P w K mg base CX0 1 "choices_of" pr_choices_of (spChs K)) (F2 : Df P w K mg base CX0 8 "determinant" pr_determinant (spDet K 3)) (F3 : Df P w K mg base CX0 8 "weights_for" pr_weights_for (spWFor K 3)) (D : Dt K mg "square_of" s_square_of pr_square_of) : Df P w K mg base CX0 9 "square_of" pr_square_of (spSq K) := by
  refine D.ok sc_square_of (fun vs H Q E h => ?_) (fun f cdv A outer s H vs Q E hr h => ?_)
  · obtain ⟨n, m, pv, pers, rfl, _⟩ := h
    rfl
  · obtain ⟨n, m, pv, pers, rfl, hp, o, hn, hm, k⟩ := h
    obtain ⟨a, zs, rfl, hs, hl, hat, _⟩ := tup_view hp
    refine ⟨_, (pss_cons (ps_for PassesOwn.never rfl (pi_list (pe_f F1 (hr.mono (by decide)) pass0 (pa_cons (pv 0) (pa_cons (pe_callB call_len_seq (by rfl) B.len PySem.boot_len (pa_cons (pv 1) pa_nil)) pa_nil)))) (pg_name (i := 2) sc_square_of.nd rfl (Or.inr rfl)) (pss_cons (ps_set (i := 3) sc_square_of.nd rfl (Or.inr rfl) (pe_lc (own := [("period", 6)]) (g := gName 6) (tt := tYes) (te := tCB (rTupO K) (tCons (tLc (iTup K (tVar 2)) (gName 8) tYes (tOp (rIxT K) (tVar 6) (tVar 8)) [8]) tNil)) (by rfl) sc_square_of.nd (pi_tup (pv 1)) (blkOk_by (own := [("period", 6)]) (N := nm_square_of) (sc := defScope s_square_of) (by decide +kernel)) (fun _ _ _ _ _ => pg_name (i := 6) sc_square_of.nd rfl (Or.inr rfl)) (fun _ _ _ _ _ => pts_nil) (fun _ _ _ _ _ => (pe_callTy call_tuple_of (by rfl) B.tuple PyProof.Rows.boot_tuple (pa_cons (pe_lc (own := [("place", 8)]) (g := gName 8) (tt := tYes) (te := tOp (rIxT K) (tVar 6) (tVar 8)) (by rfl) sc_square_of.nd (pi_tup (pv 2)) (blkOk_by (own := [("place", 8)]) (N := nm_square_of) (sc := relS _ (defScope s_square_of)) (by decide +kernel)) (fun _ _ _ _ _ => pg_name (i := 8) sc_square_of.nd rfl (Or.inl rfl)) (fun _ _ _ _ _ => pts_nil) (fun _ _ _ _ _ => (pe_ix ix_tup (pv 6) (pv 8) (fun _ _ => rfl)))) pa_nil))))) (pss_cons (ps_set (i := 4) sc_square_of.nd rfl (Or.inr rfl) (pe_f F2 (hr.mono (by decide)) pass0 (pa_cons (pv 3) pa_nil))) (pss_one (ps_if (pt_cmpR op_ne (pv 4) pe_int (nomark _)) (pss_cons (ps_setLc (i := 5) (own := [("index", 7)]) (g := gName 7) (tt := tYes) (te := tCa (spWFor K 3) E0 (tCons (tVar 0) (tCons (tVar 2) (tCons (tVar 3) (tCons (tVar 4) (tCons (tVar 7) tNil)))))) rfl sc_square_of.nd rfl rfl (sw_true rfl rfl rfl (by decide +kernel)) (pi_range1 (by rfl) B.range (pa_cons (pe_callB call_len_seq (by rfl) B.len PySem.boot_len (pa_cons (pv 1) pa_nil)) pa_nil)) (blkOk_by (own := [("index", 7)]) (N := nm_square_of) (sc := defScope s_square_of) (by decide +kernel)) (fun _ _ _ _ _ => pg_name (i := 7) sc_square_of.nd rfl (Or.inl rfl)) (fun _ _ _ _ _ => pts_nil) (fun _ _ _ _ _ => (pe_f F3 (hr.mono (by decide)) pass0 (pa_cons (pv 0) (pa_cons (pv 2) (pa_cons (pv 3) (pa_cons (pv 4) (pa_cons (pv 7) pa_nil)))))))) (pss_one (ps_ret (pe_tup (pa_cons (pv 2) (pa_cons (pe_callB call_abs (by rfl) B.abs boot_abs (pa_cons (pv 4) pa_nil)) (pa_cons (pv 5) pa_nil))))))) pss_nil))))) (pss_one (ps_ret pe_non))), ?_⟩
    walk_at "nf"
    walk_at "sx"
    have hzn : zs.length = n := by rw [hl]; exact o.1
    refine ⟨_, rfl, _, rfl, a, rfl, zs, .inr hs, m, zs.length, rfl, hm, by omega, fun H1 u s1 hu => ?_⟩
    obtain ⟨q, ws, rfl, hq, hwl, hwat, _⟩ := lst_view hu
    refine ⟨q, rfl, ⟨ws, hq⟩, for_it walk_list (fun i σ H' => Same H1 H' ∧ (∃ v2 v3 v4 v5 v6 v7 v8, σ = [some (V.int (m : Nat)), some (V.ref a), v2, v3, v4, v5, v6, v7, v8]) ∧ ((Sq.chs m zs.length).take i).findSome? (Sq.sqAt m pers) = none) ⟨Same.refl _, ⟨_, _, _, _, _, _, _, rfl⟩, rfl⟩ (fun i σ H' _ p => p.1.seq hq) (fun i x σ H2 H3 hi py y => ?_) (fun σ H2 py => ?_)⟩
    · obtain ⟨s2, ⟨v2, v3, v4, v5, v6, v7, v8, rfl⟩, none_⟩ := py
      obtain ⟨rfl, hx⟩ := y
      obtain ⟨ps, hps, hdp⟩ := hwat i x hx
      obtain ⟨b, rfl, hb⟩ := row_view (hdp.to s2)
      have hpm := List.mem_of_getElem? hps
      obtain ⟨pl1, pl2⟩ := chs_len m zs.length hm (by omega) ps hpm
      have lp : ps.length = n := by rw [pl1, hzn]
      have s12 := s1.trans s2
      have hs2 := s12.seqT hs
      refine sq_go ⟨_, rfl, a, rfl, ⟨zs, hs2⟩, fun D hD => lcF (walk_tup (K := K) (a := a) (xs := zs)) hD (slt (by omega)) (fun _ => true) (fun j y H => Dp K H y (intsD (Sq.pick ps (pers.getD j [])))) (fun i y H H' e n q => keepN e n n _ _ (noList_ints _) q) (fun H e => e.seqT hs2) (fun j x H4 H5 Q1 Q0 hj e4 y q1 q0 => ?_) (fun H4 ys e4 hy g => ?_)⟩
      · obtain ⟨rfl, hx2⟩ := y
        obtain ⟨r, hr1, hdr⟩ := hat j x hx2
        obtain ⟨b2, rfl, hb2⟩ := (hdr.to (s12.trans e4)).ints_tup
        have er : pers.getD j [] = r := by rw [List.getD_eq_getElem?_getD, hr1]; rfl
        rw [er] at q1
        obtain ⟨rl, rb⟩ := o.2 r (List.mem_of_getElem? hr1)
        walk_at "nf"
        walk_at "sx"
        refine ⟨_, rfl, b, rfl, ⟨_, e4.seqT hb⟩, fun D2 hD2 => lcS walk_tup hD2 (by rw [List.length_map, nI_length]; exact slt (by omega)) (fun k y => y = .int (r.getD (ps.getD k 0) 0)) (fun H e => (e4.trans e).seqT hb) (fun k x H6 H7 Q2 hk e6 y q2 => ?_) (fun H6 ys2 e6 hy2 hn2 hr2 => ?_)⟩
        · obtain ⟨rfl, hx3⟩ := y
          obtain ⟨p, hp1, rfl⟩ := nI_get hx3
          have epk : ps.getD k 0 = p := by rw [List.getD_eq_getElem?_getD, hp1]; rfl
          have pm := pl2 p (List.mem_of_getElem? hp1)
          rw [epk] at q2
          walk_at "nf"
          walk_at "sx"
          exact ⟨_, e6.seqT hb2, _, atI_getD (by omega), q2 _ _ rfl (Same.refl _)⟩
        · have ev := vals_int (f := fun k => r.getD (ps.getD k 0) 0) hn2 hr2
          have e2 : ((List.range ((nI ps).map V.int).length).map fun k => r.getD (ps.getD k 0) 0) = Sq.pick ps r := by
            rw [List.length_map, nI_length]
            exact by_places ps 0 fun p => r.getD p 0
          rw [e2] at ev
          exact ⟨D2, ys2, rfl, .inl ⟨.of hy2, fun l hl2 => q1 rfl _ _ (Dp.tup_ints (by rw [← ev]; exact .of upd_same)) (e6.then_new hl2)⟩⟩
      · have ha := g.dp (fun j => intsD (Sq.pick ps (pers.getD j []))) fun i y q => q
        rw [all_kept] at ha
        have em : (List.range zs.length).map (fun j => intsD (Sq.pick ps (pers.getD j []))) = (pers.map (Sq.pick ps)).map intsD := by
          rw [hl, List.map_map]
          exact by_places pers [] fun r => intsD (Sq.pick ps r)
        rw [em] at ha
        have hro : Dp K H4 (.ref D) (rowsL (pers.map (Sq.pick ps))) := .lst (.of hy) ha
        have ro : RowsOk n n (pers.map (Sq.pick ps)) := by
          refine ⟨by rw [List.length_map]; exact o.1, fun r hr => ?_⟩
          obtain ⟨r0, h0, rfl⟩ := List.mem_map.mp hr
          refine ⟨by unfold Sq.pick; rw [List.length_map]; exact lp, fun x hx => ?_⟩
          obtain ⟨p, hp, rfl⟩ := List.mem_map.mp hx
          obtain ⟨h1, h2⟩ := o.2 r0 h0
          have := pl2 p hp
          exact h2 _ (by simp [show p < r0.length by omega])
        have hpl : pers.length = n := o.1
        have et : (Sq.chs m zs.length).take (i + 1) = (Sq.chs m zs.length).take i ++ [ps] := by
          obtain ⟨h1, h2⟩ := List.getElem?_eq_some_iff.mp hps
          rw [List.take_succ_eq_append_getElem h1, h2]
        have e14 := e4
        refine sq_go ⟨_, rfl, _, _, n, rfl, hro, ro, hn, by decide, fun H5 e5 => ?_⟩
        have e45 := e4.trans e5
        refine ⟨_, rfl, rfl, _, rfl, ?_⟩
        by_cases c : Sq.det n (pers.map (Sq.pick ps)) = 0
        · rw [c]
          refine iteF ⟨s2.trans e45, ⟨_, _, _, _, _, _, _, rfl⟩, ?_⟩
          rw [et, List.findSome?_append, none_]
          have : Sq.sqAt m pers ps = none := by unfold Sq.sqAt; rw [hpl]; simp only [c, ne_eq, not_true, if_false]
          simp [this]
        · rw [decide_eq_false (fun z => c (V.int.inj z))]
          refine iteT ?_
          have hs5 := (s12.trans e45).seqT hs
          refine sq_go ⟨_, rfl, a, rfl, zs, .inr hs5, (zs.length : Int), rfl, by omega, by omega, fun D2 hD2 => lcF walk_range hD2 (slt (by omega)) (fun _ => true) (fun j y H => Dp K H y (intsD (Sq.wFor m ps (pers.map (Sq.pick ps)) (Sq.det n (pers.map (Sq.pick ps))) j))) (fun i y H H' e n q => keepN e n n _ _ (noList_ints _) q) (fun _ _ => trivial) (fun j x H6 H7 Q1 Q0 hj e6 y q1 q0 => ?_) (fun H6 ys2 e6 hy2 g2 => ?_)⟩
          · obtain ⟨rfl, rfl⟩ := y
            have hj2 : j < n := by omega
            have ez : (0 + (j : Int)) = ((j : Nat) : Int) := by omega
            refine ⟨rfl, ?_⟩
            walk_at "nf"
            walk_at "sx"
            rw [ez]
            exact ⟨n, m, _, _, ps, _, _, j, rfl, (hdp.to s2).to (e45.trans e6), hro.to (e5.trans e6), ro, hn, by decide, lp, hj2, by omega, pl2, fun H8 u8 e8 hu8 => q1 rfl _ _ hu8 e8⟩
          · have ha2 := g2.dp (fun j => intsD (Sq.wFor m ps (pers.map (Sq.pick ps)) (Sq.det n (pers.map (Sq.pick ps))) j)) fun i y q => q
            rw [all_kept] at ha2
            have ea : ∀ z : Int, (if z < 0 then -z else z) = (z.natAbs : Int) := fun z => by
              split <;> omega
            refine ⟨_, rfl, _, rfl, _, rfl, _, rfl, (by show 3 ≤ sizeLine; decide), fun p hp => k _ _ ((s12.trans e45).trans (e6.then_new hp)) ?_⟩
            have e7 := Same.new (o := HO.tup [V.ref b, V.int (if Sq.det n (pers.map (Sq.pick ps)) < 0 then -Sq.det n (pers.map (Sq.pick ps)) else Sq.det n (pers.map (Sq.pick ps))), V.ref D2]) hp
            have eq : Sq.sqOf m pers = some ⟨ps, ((Sq.det n (pers.map (Sq.pick ps))).natAbs : Int), (List.range zs.length).map fun j => Sq.wFor m ps (pers.map (Sq.pick ps)) (Sq.det n (pers.map (Sq.pick ps))) j⟩ := by
              have ez : zs.length = pers.length := hl
              have ech : Sq.chs m pers.length = (Sq.chs m zs.length).take i ++ ps :: (Sq.chs m zs.length).drop (i + 1) := by
                rw [← ez]
                obtain ⟨h1, h2⟩ := List.getElem?_eq_some_iff.mp hps
                conv => lhs; rw [← List.take_append_drop i (Sq.chs m zs.length), List.drop_eq_getElem_cons h1, h2]
              unfold Sq.sqOf
              rw [ech, List.findSome?_append, none_, List.findSome?_cons]
              have : Sq.sqAt m pers ps = some ⟨ps, ((Sq.det n (pers.map (Sq.pick ps))).natAbs : Int), (List.range zs.length).map fun j => Sq.wFor m ps (pers.map (Sq.pick ps)) (Sq.det n (pers.map (Sq.pick ps))) j⟩ := by
                unfold Sq.sqAt
                rw [hpl]
                simp only [c, ne_eq, not_false_eq_true, if_true, hzn]
              rw [this]
              rfl
            rw [eq]
            unfold sqD
            rw [ea] at e7 ⊢
            intro HH kp
            have fr : ∀ b, H5 b = none → H b = none := fun b hb => by
              cases e1 : H b with
              | none => rfl
              | some o => rw [(s12.trans e45) b o e1] at hb; cases hb
            have fr6 : ∀ b, H6 b = none → H b = none := fun b hb => by
              cases e1 : H b with
              | none => rfl
              | some o => rw [((s12.trans e45).trans e6) b o e1] at hb; cases hb
            refine .tup (.of (kp _ _ upd_same (.inl (fr6 _ hp)))) (.cons (DpN.flat _ _ (noList_row _) (((hdp.to s2).to (e45.trans e6)).to e7) HH kp) (.cons (.int _) (.cons (.lst (.of (kp _ _ (e7 _ _ hy2) (.inl (fr _ hD2)))) (DpN.flats _ _ ?_ ?_ HH kp)) .nil)))
            · exact noListAll_of fun x hx => by
                obtain ⟨r, _, rfl⟩ := List.mem_map.mp hx
                exact noList_ints _
            rw [List.map_map]
            have en : ((zs.length : Int) - 0).toNat = zs.length := by omega
            rw [show ((zs.length : Int)).toNat = zs.length by omega] at ha2
            exact ha2.to e7
    · obtain ⟨s2, ⟨v2, v3, v4, v5, v6, v7, v8, rfl⟩, none_⟩ := py
      rw [List.take_of_length_le (by omega)] at none_
      have eq : Sq.sqOf m pers = none := by
        unfold Sq.sqOf
        rw [← hl]
        exact none_
      have := k _ .non (s1.trans s2) (by rw [eq]; exact fun _ _ => .non)
      exact this
end
end Ws
/-! ## H27 -/
namespace Sq
def rowAt (base : Row) (pers : List Row) (ts : List Int) : Row := (pers.zip ts).foldl (fun r pt => addk r pt.1 pt.2) base
def sumsOf (q : Sqr) (gap : Row) : List Int := q.ws.map fun w => dotp w gap
def turnsOf (base : Row) (pers : List Row) (q : Sqr) (row : Row) : Option (List Int) :=
  if (sumsOf q (addk row base (-1))).any (fun x => decide (x < 0) || decide (x % q.size ≠ 0)) then none
  else if rowAt base pers ((sumsOf q (addk row base (-1))).map (· / q.size)) = row then some ((sumsOf q (addk row base (-1))).map (· / q.size)) else none
def apartOf (m : Nat) (pers : List Row) (q : Sqr) (p : Nat) : Row := (pers.zip q.ws).foldl (fun f pw => addk f pw.2 (-(pw.1.getD p 0))) ((List.range m).map fun c => if c = p then q.size else 0)
def apartB (m : Nat) (pers : List Row) (q : Sqr) (gap : Row) (p : Nat) : Option Bar :=
  if p ∈ q.ps then none else if dotp (apartOf m pers q p) gap ≠ 0 then some (.apart (apartOf m pers q p)) else none
def restB (q : Sqr) (gap : Row) (w : Row) : Option Bar := if dotp w gap % q.size ≠ 0 then some (.rest q.size w) else none
def lessB (gap : Row) (w : Row) : Option Bar := if dotp w gap < 0 then some (.less w) else none
def barOf (m : Nat) (base : Row) (pers : List Row) (q : Sqr) (row : Row) : Option Bar :=
  ((List.range m).findSome? (apartB m pers q (addk row base (-1)))).or ((q.ws.findSome? (restB q (addk row base (-1)))).or (q.ws.findSome? (lessB (addk row base (-1)))))
/-! ### bounds -/
theorem mul_bd {a b : Int} {x y : Nat} (ha : a.natAbs ≤ x) (hb : b.natAbs ≤ y) : (a * b).natAbs ≤ x * y := by
  rw [Int.natAbs_mul]; exact Nat.mul_le_mul ha hb
theorem sum_bd (c : Nat) : ∀ xs : List Int, (∀ x ∈ xs, x.natAbs ≤ c) → xs.sum.natAbs ≤ xs.length * c
  | [], _ => by simp
  | x :: xs, h => by
    have := sum_bd c xs fun y hy => h y (List.mem_cons_of_mem _ hy)
    have h1 := h x (by simp)
    have h2 := Int.natAbs_add_le x xs.sum
    rw [List.sum_cons, List.length_cons, Nat.succ_mul]
    omega
theorem sgn_bd {k : Nat} {x : Int} : (sgn k x).natAbs = x.natAbs := by
  unfold sgn; split <;> simp
def Bd (b : Nat) (rows : List Row) : Prop := ∀ r ∈ rows, ∀ x ∈ r, x.natAbs ≤ b
theorem minor_bd {b : Nat} {rows : List Row} (h : Bd b rows) (i j : Nat) : Bd b (minor rows i j) := fun r hr x hx => by
  obtain ⟨q, hq, rfl⟩ := List.mem_map.mp hr
  exact h q (List.mem_of_mem_eraseIdx hq) x (List.mem_of_mem_eraseIdx hx)
theorem getD_bd {b : Nat} {r : Row} (h : ∀ x ∈ r, x.natAbs ≤ b) (j : Nat) : (r.getD j 0).natAbs ≤ b := by
  by_cases c : j < r.length
  · exact h _ (by simp [c])
  · have : r.getD j 0 = 0 := by simp [show r[j]? = none from List.getElem?_eq_none (by omega)]
    rw [this]; simp
theorem rows_bd {b : Nat} {rows : List Row} (h : Bd b rows) (i j : Nat) : ((rows.getD i []).getD j 0).natAbs ≤ b := by
  by_cases c : i < rows.length
  · exact getD_bd (h _ (by simp [c])) j
  · have : rows.getD i [] = [] := by simp [show rows[i]? = none from List.getElem?_eq_none (by omega)]
    rw [this]; simp
theorem det_bd (b c : Nat) : ∀ (n : Nat) (rows : List Row), n ≤ c → Bd b rows → (det n rows).natAbs ≤ (c * b) ^ n
  | 0, rows, _, _ => by simp [det]
  | n + 1, rows, hn, h => by
    unfold det
    have : ∀ x ∈ ((List.range (n + 1)).map fun j => (rows.getD 0 []).getD j 0 * sgn (0 + j) (det n (minor rows 0 j))), x.natAbs ≤ b * (c * b) ^ n := fun x hx => by
      obtain ⟨j, _, rfl⟩ := List.mem_map.mp hx
      exact mul_bd (rows_bd h 0 j) (by rw [sgn_bd]; exact det_bd b c n _ (by omega) (minor_bd h 0 j))
    have := sum_bd _ _ this
    rw [List.length_map, List.length_range] at this
    refine Nat.le_trans this ?_
    rw [Nat.pow_succ]
    have h1 : (n + 1) * (b * (c * b) ^ n) ≤ c * (b * (c * b) ^ n) := Nat.mul_le_mul hn (Nat.le_refl _)
    have h2 : c * (b * (c * b) ^ n) = (c * b) ^ n * (c * b) := by rw [← Nat.mul_assoc, Nat.mul_comm]
    omega
theorem dotp_bd (a b : Nat) : ∀ (w r : Row), (∀ x ∈ w, x.natAbs ≤ a) → (∀ x ∈ r, x.natAbs ≤ b) → (dotp w r).natAbs ≤ w.length * (a * b)
  | [], r, _, _ => by simp [dotp]
  | x :: w, [], _, _ => by simp [dotp]
  | x :: w, y :: r, h1, h2 => by
    have := dotp_bd a b w r (fun z hz => h1 z (List.mem_cons_of_mem _ hz)) (fun z hz => h2 z (List.mem_cons_of_mem _ hz))
    have h3 := mul_bd (h1 x (by simp)) (h2 y (by simp))
    have h4 := Int.natAbs_add_le (x * y) (dotp w r)
    show (x * y + dotp w r).natAbs ≤ _
    rw [List.length_cons, Nat.succ_mul]
    omega
theorem addk_bd {a b c : Nat} {k : Int} (hk : k.natAbs ≤ c) : ∀ (r o : Row), (∀ x ∈ r, x.natAbs ≤ a) → (∀ x ∈ o, x.natAbs ≤ b) → ∀ x ∈ addk r o k, x.natAbs ≤ a + c * b
  | [], o, _, _, x, hx => by simp [addk] at hx
  | y :: r, [], _, _, x, hx => by simp [addk] at hx
  | y :: r, z :: o, h1, h2, x, hx => by
    have hx : x ∈ (y + k * z) :: addk r o k := hx
    rcases List.mem_cons.mp hx with rfl | hx
    · have h3 := mul_bd hk (h2 z (by simp))
      have h4 := Int.natAbs_add_le y (k * z)
      have h5 := h1 y (by simp)
      omega
    · exact addk_bd hk r o (fun z hz => h1 z (List.mem_cons_of_mem _ hz)) (fun z hz => h2 z (List.mem_cons_of_mem _ hz)) x hx
theorem addk_len {r o : Row} {k : Int} (h : r.length = o.length) : (addk r o k).length = r.length := by simp [addk, h]
theorem pick_bd {b : Nat} {rows : List Row} (h : Bd b rows) (ps : List Nat) : Bd b (rows.map (pick ps)) := fun r hr x hx => by
  obtain ⟨q, hq, rfl⟩ := List.mem_map.mp hr
  obtain ⟨p, _, rfl⟩ := List.mem_map.mp hx
  exact getD_bd (h q hq) p
theorem wFor_bd {B many : Nat} {ps : List Nat} {rows : List Row} {s : Int} {i : Nat} (h : ∀ j, (cof (ps.length - 1) rows i j).natAbs ≤ B) : ∀ x ∈ wFor many ps rows s i, x.natAbs ≤ B := by
  unfold wFor
  have : ∀ (l : List Nat) (w : Row), (∀ x ∈ w, x.natAbs ≤ B) → ∀ x ∈ l.foldl (fun w j => w.set (ps.getD j 0) (if s > 0 then cof (ps.length - 1) rows i j else -cof (ps.length - 1) rows i j)) w, x.natAbs ≤ B := fun l => by
    induction l with
    | nil => exact fun w hw => hw
    | cons j l ih =>
      intro w hw
      rw [List.foldl_cons]
      refine ih _ fun x hx => ?_
      rcases List.mem_or_eq_of_mem_set hx with m | rfl
      · exact hw x m
      · split
        · exact h j
        · rw [Int.natAbs_neg]; exact h j
  exact this _ _ fun x hx => by
    have := List.eq_of_mem_replicate hx
    subst this
    simp
theorem wFor_length (many : Nat) (ps : List Nat) (rows : List Row) (s : Int) (i : Nat) : (wFor many ps rows s i).length = many := by
  unfold wFor
  have : ∀ (l : List Nat) (w : Row) (f : Nat → Nat) (g : Nat → Int), (l.foldl (fun w j => w.set (f j) (g j)) w).length = w.length := fun l => by
    induction l with
    | nil => intros; rfl
    | cons j l ih => intro w f g; rw [List.foldl_cons, ih, List.length_set]
  rw [this, List.length_replicate]
theorem cof_bd {b c n : Nat} {rows : List Row} (h : Bd b rows) (hn : n ≤ c) (i j : Nat) : (cof n rows i j).natAbs ≤ (c * b) ^ n := by
  unfold cof
  rw [sgn_bd]
  exact det_bd b c n _ hn (minor_bd h i j)
structure QB (m : Nat) (pers : List Row) (q : Sqr) : Prop where
  pl : q.ps.length = pers.length
  pm : ∀ p ∈ q.ps, p < m
  wl : q.ws.length = pers.length
  wm : ∀ w ∈ q.ws, w.length = m
  wb : ∀ w ∈ q.ws, ∀ x ∈ w, x.natAbs ≤ 1000
  s0 : 0 < q.size
  s1 : q.size ≤ 1000
theorem chs_mem (m : Nat) : ∀ (c : Nat), ∀ e ∈ chs m c, e.length = c ∧ ∀ p ∈ e, p < m
  | 0, e, he => by
    have : e = [] := by simpa [chs] using he
    subst this
    simp
  | c + 1, e, he => by
    obtain ⟨e0, h0, he⟩ := List.mem_flatMap.mp he
    obtain ⟨k, hk, rfl⟩ := List.mem_map.mp he
    obtain ⟨h1, h2⟩ := chs_mem m c e0 h0
    have hk := List.mem_range.mp hk
    refine ⟨by simp [h1], fun p hp => ?_⟩
    rcases List.mem_append.mp hp with hp | hp
    · exact h2 p hp
    · have := List.mem_singleton.mp hp
      omega
theorem qb_of {m : Nat} {pers : List Row} {q : Sqr} (h : sqOf m pers = some q) (hb : Bd 3 pers) (hn : pers.length ≤ 3) : QB m pers q := by
  obtain ⟨ps, hps, hq⟩ := List.exists_of_findSome?_eq_some h
  obtain ⟨h1, h2⟩ := chs_mem m _ ps hps
  unfold sqAt at hq
  by_cases c : det pers.length (pers.map (pick ps)) = 0
  · simp [c] at hq
  · simp only [ne_eq, c, not_false_eq_true, if_true, Option.some.injEq] at hq
    subst hq
    have hd := det_bd 3 3 _ (pers.map (pick ps)) hn (pick_bd hb ps)
    have p9 : ∀ n, n ≤ 3 → (3 * 3) ^ n ≤ 1000 := fun n hn => by
      have : n = 0 ∨ n = 1 ∨ n = 2 ∨ n = 3 := by omega
      rcases this with rfl | rfl | rfl | rfl <;> decide
    have := p9 _ hn
    refine ⟨h1, h2, by simp, fun w hw => ?_, fun w hw x hx => ?_, by simp only; omega, by simp only; omega⟩
    · obtain ⟨i, _, rfl⟩ := List.mem_map.mp hw
      exact wFor_length ..
    · obtain ⟨i, _, rfl⟩ := List.mem_map.mp hw
      refine wFor_bd (fun j => ?_) x hx
      have h3 := cof_bd (c := 3) (pick_bd hb ps) (show ps.length - 1 ≤ 3 by omega) i j
      exact Nat.le_trans h3 (p9 _ (by omega))
theorem apart_len {m : Nat} {pers : List Row} {q : Sqr} (hq : QB m pers q) (p : Nat) : ∀ (l : List (Row × Row)) (f : Row), (∀ x ∈ l, x.2.length = m) → f.length = m → (l.foldl (fun f pw => addk f pw.2 (-(pw.1.getD p 0))) f).length = m
  | [], f, _, h => h
  | x :: l, f, hl, h => by
    rw [List.foldl_cons]
    refine apart_len hq p l _ (fun y hy => hl y (List.mem_cons_of_mem _ hy)) ?_
    rw [addk_len (by rw [h, hl x (by simp)])]
    exact h
theorem apart_bd (p : Nat) : ∀ (l : List (Row × Row)) (f : Row) (a : Nat), (∀ x ∈ l, (∀ y ∈ x.1, y.natAbs ≤ 3) ∧ ∀ y ∈ x.2, y.natAbs ≤ 1000) → (∀ y ∈ f, y.natAbs ≤ a) → ∀ y ∈ l.foldl (fun f pw => addk f pw.2 (-(pw.1.getD p 0))) f, y.natAbs ≤ a + l.length * 3000
  | [], f, a, _, h => by simpa using h
  | x :: l, f, a, hl, h => by
    rw [List.foldl_cons]
    obtain ⟨h1, h2⟩ := hl x (by simp)
    have := apart_bd p l (addk f x.2 (-(x.1.getD p 0))) (a + 3 * 1000) (fun y hy => hl y (List.mem_cons_of_mem _ hy)) (addk_bd (by rw [Int.natAbs_neg]; exact getD_bd h1 p) f x.2 h h2)
    intro y hy
    have := this y hy
    rw [List.length_cons, Nat.succ_mul]
    omega
theorem zip_mem_l {α β : Type} {l : List α} {r : List β} {x : α × β} (h : x ∈ l.zip r) : x.1 ∈ l ∧ x.2 ∈ r := by
  obtain ⟨a, b⟩ := x
  exact ⟨(List.of_mem_zip h).1, (List.of_mem_zip h).2⟩
theorem apartOf_ok {m : Nat} {pers : List Row} {q : Sqr} (hq : QB m pers q) (hb : Bd 3 pers) (hn : pers.length ≤ 3) (p : Nat) : (apartOf m pers q p).length = m ∧ ∀ x ∈ apartOf m pers q p, x.natAbs ≤ 10000 := by
  have hz : ∀ x ∈ pers.zip q.ws, x.1 ∈ pers ∧ x.2 ∈ q.ws := fun x hx => zip_mem_l hx
  refine ⟨apart_len hq p _ _ (fun x hx => hq.wm _ (hz x hx).2) (by simp), fun x hx => ?_⟩
  have := apart_bd p (pers.zip q.ws) _ 1000 (fun x hx => ⟨hb _ (hz x hx).1, hq.wb _ (hz x hx).2⟩) (fun y hy => ?_) x hx
  · have h2 : (pers.zip q.ws).length ≤ 3 := by rw [List.length_zip]; omega
    have : (pers.zip q.ws).length * 3000 ≤ 3 * 3000 := Nat.mul_le_mul h2 (Nat.le_refl _)
    omega
  · obtain ⟨c, _, rfl⟩ := List.mem_map.mp hy
    have := hq.s0
    have := hq.s1
    split <;> omega
end Sq
/-! ## Z27 -/
namespace Ws
open PySem PySem.Spec PyProof.Rows L2 RZ
/-! ### zip of a tuple and a list -/
def ItzM (K : PySem.W.Frag) (l r : Addr) : L2.It :=
  ⟨fun k H => ∃ (us vs : List V) (y z : V), SqT K H l us ∧ SqL K H r vs ∧ us[k]? = some y ∧ vs[k]? = some z,
    fun k H out H' => ∃ T y z, out = .ref T ∧ H T = none ∧ H' = upd H T (.tup [y, z]) ∧ (∀ us, SqT K H l us → us[k]? = some y) ∧ ∀ vs, SqL K H r vs → vs[k]? = some z,
    fun k H => ∃ us vs : List V, SqT K H l us ∧ SqL K H r vs ∧ k ≤ us.length ∧ k ≤ vs.length ∧ (k = us.length ∨ k = vs.length)⟩
theorem sepM {c l r : Nat} (h1 : l < c) (h2 : r < c) : ZipSep2 (c + 4) (c + 2) (c + 3) c (c + 1) [c, l] [c + 1, r] := by
  have up : ∀ {a b : Nat}, a < b → b ≠ a := fun q => Nat.ne_of_gt q
  have dn : ∀ {a b : Nat}, a < b → a ≠ b := fun q => Nat.ne_of_lt q
  have off : ∀ {a x y : Nat}, a ≠ x → a ≠ y → a ∉ [x, y] := fun p q hm => by
    rcases List.mem_cons.mp hm with e | hm
    · exact p e
    · exact q (List.mem_singleton.mp hm)
  exact ⟨dn (by omega), dn (by omega), dn (by omega), up (by omega), List.mem_cons_self .., off (up (by omega)) (up (by omega)), off (up (by omega)) (up (by omega)), up (by omega), List.mem_cons_self .., off (up (by omega)) (up (by omega)), off (up (by omega)) (up (by omega)), off (dn (by omega)) (up (by omega)), off (up (by omega)) (up (by omega))⟩
structure SepM (z t o i j l r : Addr) : Prop where
  s : ZipSep2 z t o i j [i, l] [j, r]
  il : l ≠ i
  jr : r ≠ j
  iz : i ≠ z
  jz : j ≠ z
theorem turn_zipM {P : Program} {w : World} {K : PySem.W.Frag} {elts : List Expr} {kk : Nat} {tpos : Pos} {l r z t o i j : Addr} (D : SepM z t o i j l r) :
    Turn P w K (.Tuple elts kk tpos) (ItzM K l r) [z, t, o, i, j] z (fun k h => IsZip h z t o .none ∧ IsTupOf2 h t (.ref i) (.ref j) ∧ (∃ y1 y2, IsTupOf2 h o y1 y2) ∧ h.IsTupleIter i l k ∧ h.IsListIter j r k) where
  mem := List.mem_cons_self ..
  obj := fun k h st c hc => by
    obtain ⟨st1, st2, ⟨y1, y2, st3⟩, ⟨oi, gi, _, di⟩, ⟨oj, gj, _, dj⟩⟩ := st
    have hc' : c = z ∨ c = t ∨ c = o ∨ c = i ∨ c = j := by simpa using hc
    rcases hc' with rfl | rfl | rfl | rfl | rfl
    · exact ⟨_, st1, fun _ e => nomatch e⟩
    · exact ⟨_, st2, fun _ e => nomatch e⟩
    · exact ⟨_, st3, fun _ e => nomatch e⟩
    · exact ⟨oi, gi, fun _ e => by rw [di] at e; cases e⟩
    · exact ⟨oj, gj, fun _ e => by rw [dj] at e; cases e⟩
  keep := fun k h h' st q => by
    obtain ⟨st1, st2, ⟨y1, y2, st3⟩, st4, st5⟩ := st
    exact ⟨q z (by simp) _ st1, q t (by simp) _ st2, ⟨y1, y2, q o (by simp) _ st3⟩, st4.at fun ob e => q i (by simp) ob e, st5.at fun ob e => q j (by simp) ob e⟩
  item := by
    intro X hP hw hK hc k pins s σ H E I fresh st go
    subst hP hw hK
    obtain ⟨st1, st2, ⟨y1, y2, st3⟩, st4, st5⟩ := st
    obtain ⟨us, vs, y, w0, su, sv, gy, gw⟩ := go
    obtain ⟨its, rel, ti, _⟩ := I.tuple su
    obtain ⟨jts, rel2, tj, _⟩ := I.list sv
    obtain ⟨p, hp, rp⟩ := rel.get gy
    obtain ⟨p2, hp2, rp2⟩ := rel2.get gw
    have below : z < s.heap.objs.size := Heap.lt_size st1
    have bi : i < s.heap.objs.size := let ⟨_, e, _⟩ := st4; Heap.lt_size e
    have bj : j < s.heap.objs.size := let ⟨_, e, _⟩ := st5; Heap.lt_size e
    have hd := I.ok.hd hc
    have d1 := Draws.tuple (prog := X.prog) (w := X.w) (A := X.A.in1) hd i l D.il its.toArray
    have d2 := Draws.list (prog := X.prog) (w := X.w) (A := X.A.in1) hd j r D.jr jts.toArray
    refine wpAny_pyNext_zipD2_item D.s d1 d2 st1 st2 st3 ⟨st4, ti⟩ ⟨st5, tj.isList⟩
      (by have := (List.getElem?_eq_some_iff.mp hp).1; simpa using this) (by have := (List.getElem?_eq_some_iff.mp hp2).1; simpa using this) fun x1 x2 h1 tk1 e1 e2 n1 n2 n3 n4 n5 n6 up => ?_
    obtain rfl : p = x1 := by have e1 : its.toArray[k]? = some x1 := e1; rw [List.getElem?_toArray, hp] at e1; exact Option.some.inj e1
    obtain rfl : p2 = x2 := by have e2 : jts.toArray[k]? = some x2 := e2; rw [List.getElem?_toArray, hp2] at e2; exact Option.some.inj e2
    refine ⟨_, rfl, wpAny_letOwnedTupleGo_zip (s := { s with heap := h1, toks := tk1 }) n1 fun h2 m1 sb => ?_⟩
    have pair : h2.get? s.heap.objs.size = some { cls := .type "tuple", data := .seq #[p, p2] } := (sb.2 _ (Nat.ne_of_gt below)).trans n5
    have both : ∀ c ob, c ∉ [z, t, o, i, j] → s.heap.get? c = some ob → h2.get? c = some ob := fun c ob out e => by
      have a1 : c ≠ z := fun q => out (by simp [q])
      have a2 : c ≠ o := fun q => out (by simp [q])
      have a3 : c ≠ i := fun q => out (by simp [q])
      have a4 : c ≠ j := fun q => out (by simp [q])
      exact (sb.2 c a1).trans (up c ob a1 a2 a3 a4 e)
    have J := I.turnedNew (t' := tk1) (ch := [z, t, o, i, j]) (ob := .tup [y, w0]) both fresh (Nat.le_refl _)
      ⟨by show 2 ≤ sizeLine; decide, [p, p2], .cons rp (.cons rp2 .nil), ⟨_, pair, rfl, _, rfl⟩⟩
    refine ⟨.ref s.heap.objs.size, _, J, rfl, ⟨_, y, w0, rfl, I.hok.fresh (Nat.le_refl _), rfl, fun q hq => by rw [I.tuple_inj hq su]; exact gy, fun q hq => by rw [I.list_inj hq sv]; exact gw⟩, ⟨m1, ?_, ⟨p, p2, ?_⟩, ?_, ?_⟩, fun c hc' => ?_⟩
    · exact (sb.2 _ D.s.TIz).trans (up _ _ D.s.TIz D.s.TITO D.s.TIi1 D.s.TIi2 st2)
    · exact (sb.2 _ D.s.TOz).trans n2
    · exact n3.1.at fun ob e => (sb.2 _ D.iz).trans e
    · exact n4.1.at fun ob e => (sb.2 _ D.jz).trans e
    · have lt : c < s.heap.objs.size := by
        have hc2 : c = z ∨ c = t ∨ c = o ∨ c = i ∨ c = j := by simpa using hc'
        rcases hc2 with rfl | rfl | rfl | rfl | rfl
        · exact below
        · exact Heap.lt_size st2
        · exact Heap.lt_size st3
        · exact bi
        · exact bj
      rw [upd_ne (Nat.ne_of_lt lt)]
      exact (fresh c hc').1
  done := by
    intro X hP hw hK hc k pins s σ H E I fresh st go
    subst hP hw hK
    obtain ⟨st1, st2, ⟨y1, y2, st3⟩, st4, st5⟩ := st
    obtain ⟨us, vs, su, sv, le1, le2, fin⟩ := go
    obtain ⟨its, rel, ti, _⟩ := I.tuple su
    obtain ⟨jts, rel2, tj, _⟩ := I.list sv
    have hd := I.ok.hd hc
    have k1 := rel.length
    have k2 := rel2.length
    have d1 := Draws.tuple (prog := X.prog) (w := X.w) (A := X.A.in1) hd i l D.il its.toArray
    have d2 := Draws.list (prog := X.prog) (w := X.w) (A := X.A.in1) hd j r D.jr jts.toArray
    refine wpAny_pyNext_zipD2_end (i := k) D.s d1 d2 st1 st2 st3 ⟨st4, ti⟩ ⟨st5, tj.isList⟩ (by simp; omega) (by simp; omega) (by simp; omega) fun h1 tk1 up => ⟨rfl, I.turnedL (t' := tk1) (ch := [z, t, o, i, j]) (fun c ob out e => ?_) fresh⟩
    exact up c ob (fun q => out (by simp [q])) (fun q => out (by simp [q])) (fun q => out (by simp [q])) (fun q => out (by simp [q])) e
  self := fun A k s Q E st q => wpAny_pyIter_zip st.1 q
theorem walk_zipM {K : PySem.W.Frag} {l r : Addr} {us vs : List V} : Walk (ItzM K l r) (min us.length vs.length) (fun H => SqT K H l us ∧ SqL K H r vs) (YPair (fun k => us[k]?) (fun k => vs[k]?)) := by
  refine ⟨fun k _ lt g => ⟨us, vs, us[k]'(by omega), vs[k]'(by omega), g.1, g.2, by rw [List.getElem?_eq_getElem], by rw [List.getElem?_eq_getElem]⟩, fun _ g => ⟨us, vs, g.1, g.2, by omega, by omega, by omega⟩, fun k H out H' _ g y => ?_⟩
  obtain ⟨T, y1, y2, q1, q2, q3, q4, q5⟩ := y
  exact ⟨T, y1, y2, q1, q2, q3, q4 us g.1, q5 vs g.2⟩
def zipC (K : PySem.W.Frag) (l r : Addr) (H1 : Hp) (R : L2.It → Hp → Prop) : Prop := ∃ xs ys, (((SqT K H1 l xs ∧ SqT K H1 r ys) ∧ R (ItzT K l r) H1) ∨ ((SqT K H1 l xs ∧ SqL K H1 r ys) ∧ R (ItzM K l r) H1))
/-- zip of a tuple and a tuple or a list -/
def iZipB (K : PySem.W.Frag) (ta : TA) : L2.TI := fun σ H R => ta σ H fun vs H1 => ∃ l r, vs = [.ref l, .ref r] ∧ zipC K l r H1 R
theorem pi_zipB {X : Cx} {e e2 : Expr} {ta : TA} {p pos tpos : Pos} {elts : List Expr} {kk : Nat} (hg : Gl X "zip") (hm : X.mg "zip" = none) (ha : PA X [e, e2] ta)
    (hs : starEach [e, e2] X.env = (false, eval e X.env) :: starEach [e2] X.env := by rfl) (hpl : (backTo pos (starEach [e2] X.env)).any (·.1) = false := by rfl) :
    PI X (.Tuple elts kk tpos) (.Call (.Name "zip" p) [e, e2] [] pos) (iZipB X.K ta) := by
  refine ⟨fun pins s σ H R I h => ?_⟩
  refine Call_ (ld_blt I hg hm PyProof.Rows.boot_zip (PyProof.Rows.callWith_type1 (thn (ha.run pos pins s σ H _ I h) fun us s1 ⟨vs, H1, J, rel, q⟩ => ?_) hs hpl))
  obtain ⟨l, r, rfl, xs, ys, q⟩ := q
  cases rel with
  | cons rl rel =>
  cases rel with
  | cons rr rel =>
  cases rel
  cases rl
  cases rr
  generalize hc : s1.heap.objs.size = c
  have news : ∀ b, b ∈ [c + 4, c + 2, c + 3, c, c + 1] → FpOk X pins H1 b := fun b hb => by
    have lo : s1.heap.objs.size ≤ b := by
      rw [hc]
      have hb2 : b = c + 4 ∨ b = c + 2 ∨ b = c + 3 ∨ b = c ∨ b = c + 1 := by simpa using hb
      rcases hb2 with e | e | e | e | e
      · exact e ▸ Nat.le_add_right _ _
      · exact e ▸ Nat.le_add_right _ _
      · exact e ▸ Nat.le_add_right _ _
      · exact e ▸ Nat.le_refl _
      · exact e ▸ Nat.le_add_right _ _
    exact J.fpOk lo (J.hok.fresh lo)
  rcases q with ⟨⟨ql, qr⟩, q⟩ | ⟨⟨ql, qr⟩, q⟩
  · obtain ⟨its, _, p1, _⟩ := J.tuple ql
    obtain ⟨jts, _, p2, _⟩ := J.tuple qr
    obtain ⟨_, g1, _⟩ := id p1
    obtain ⟨_, g2, _⟩ := id p2
    refine zip_begins2 (begins_tuple l its.toArray) (begins_tuple r jts.toArray) p1 p2 fun h2 n1 n2 n3 n4 n5 _ up => wpAny_pyIter_zip n1 ?_
    have J2 : Inv X pins σ H1 { s1 with heap := h2 } := J.kept (t' := s1.toks) up
    rw [hc] at n1 n2 n3 n4 n5
    have D := PySem.W.ktu_apart c l r (hc ▸ Heap.lt_size g1) (hc ▸ Heap.lt_size g2)
    rw [← hc] at D n1 n2 n3 n4 n5 news
    exact ⟨_, _, _, _, H1, rfl, J2, turn_zipT D, ⟨n1, n2, ⟨_, _, n3⟩, ⟨_, n4, rfl, rfl⟩, ⟨_, n5, rfl, rfl⟩⟩, news, q⟩
  · obtain ⟨its, _, p1, _⟩ := J.tuple ql
    obtain ⟨jts, _, p2, _⟩ := J.list qr
    obtain ⟨_, g1, _⟩ := id p1
    refine zip_begins2 (begins_tuple l its.toArray) (begins_list r jts.toArray) p1 p2.isList fun h2 n1 n2 n3 n4 n5 _ up => wpAny_pyIter_zip n1 ?_
    have J2 : Inv X pins σ H1 { s1 with heap := h2 } := J.kept (t' := s1.toks) up
    have b1 : l < s1.heap.objs.size := Heap.lt_size g1
    have b2 : r < s1.heap.objs.size := p2.lt
    have D : SepM (s1.heap.objs.size + 4) (s1.heap.objs.size + 2) (s1.heap.objs.size + 3) s1.heap.objs.size (s1.heap.objs.size + 1) l r :=
      ⟨sepM b1 b2, Nat.ne_of_lt b1, Nat.ne_of_lt (Nat.lt_succ_of_lt b2), Nat.ne_of_lt (Nat.lt_add_of_pos_right (by decide)), Nat.ne_of_lt (Nat.add_lt_add_left (by decide) _)⟩
    rw [← hc] at news
    exact ⟨_, _, _, _, H1, rfl, J2, turn_zipM D, ⟨n1, n2, ⟨_, _, n3⟩, ⟨_, n4, rfl, rfl⟩, ⟨_, n5, rfl, rfl⟩⟩, news, q⟩
/-- one way to walk both -/
theorem zipB_core {K : PySem.W.Frag} {H0 H : Hp} {l r : Addr} {us vs : List V} {R : L2.It → Hp → Prop} (e : Same H0 H) (hl : SqT K H0 l us) (hr : SqT K H0 r vs ∨ SqL K H0 r vs)
    (k : ∀ J G, Walk J (min us.length vs.length) G (YPair (fun i => us[i]?) (fun i => vs[i]?)) → (∀ H', Same H0 H' → G H') → R J H) :
    zipC K l r H R := by
  rcases hr with hr | hr
  · exact ⟨us, vs, .inl ⟨⟨e.seqT hl, e.seqT hr⟩, k _ _ walk_zipT fun H' e' => ⟨e'.seqT hl, e'.seqT hr⟩⟩⟩
  · exact ⟨us, vs, .inr ⟨⟨e.seqT hl, e.seq hr⟩, k _ _ walk_zipM fun H' e' => ⟨e'.seqT hl, e'.seq hr⟩⟩⟩
/-- any(t) of a tuple of ints -/
def rAnyT (K : PySem.W.Frag) : List V → Hp → VK → Prop := fun vs H Q => ∃ (a : Addr) (ns : List Int), vs = [V.ref a] ∧ SqT K H a (ns.map V.int) ∧ Q (.bl (ns.any fun n => n != 0)) H
theorem cr_anyT {X : Cx} (hc : X.calm = true) : CallR X (.builtin "any") (rAnyT X.K) := by
  intro pins s σ H vs us Q I r h
  obtain ⟨a, ns, rfl, hs, q⟩ := h
  obtain ⟨its, rv, hl, _⟩ := I.tuple hs
  rw [Vals.ref1 r]
  obtain ⟨as, h4⟩ := Dp.readsAll I (ns.map PyData.int) (ns.map V.int) its (DpAll.ints ns) rv
  refine PySem.W.any_tuple_data (xs := ns.map PyData.int) (I.ok.hd hc) hl (by simpa using h4) (plain_ints ns) (fun x hx => ?_) fun h' tk hk => ⟨.bl (ns.any fun n => n != 0), H, I.kept hk, ?_, q⟩
  · obtain ⟨i, _, rfl⟩ := List.mem_map.mp hx
    exact trivial
  · show Value.bool _ = Value.bool _
    rw [List.any_map]
    rfl
end Ws
/-! ## P27e -/
namespace Ws
open PySem PySem.Spec PyProof.Rows L2 RZ
local macro_rules | `(tactic| walk_at "nf") => `(tactic| dsimp only [tNext, tSeq, tDrop, tRet, tRetN, tIfS, tAsg, gName, gTup, gCons, gNil, tVar, tC, tOp, tUn, rI, rI0, rU, rEq, rNe, tTest, tChain, tAnd, tOr, tNot, tAndV, tOrV, tNotV, tIf, tCB, tCKw, tCons, tNil, tTup, tLst, tCa, tCallS, tB, rIxT, rIxL, rIxS, cxOf, Cx.nox, Cx.wish, Cx.blk, L2.start, tPar, tPar3, tNever, tYes, tBits, tRz, tBM, rAppend, tyV, tXf, suiteEnds, gSub, rSetL, tBreak, rMax, tDGet, sDPut, tSl, tNoPart, tPart, tDisp, tPairs, tDGet2, tDNewK, tAugS, ipI, rGetL, tDIn, tDNotIn, tBM0, rPop])
local macro_rules | `(tactic| walk_at "sx") => `(tactic| simp only [wipe, List.cons.injEq, and_assoc, exists_and_left, and_true, List.map_cons, List.map_nil, List.length_cons, List.length_nil, List.cons_append, List.nil_append, List.append_nil, Nat.reduceAdd, Nat.reduceSub, List.replicate, List.getElem?_cons_zero, List.getElem?_cons_succ, List.set_cons_zero, List.set_cons_succ, Option.some.injEq, V.int.injEq, V.bl.injEq, V.ref.injEq, V.str.injEq, exists_eq_left', exists_eq_left, true_and, Bool.true_eq_false, Bool.false_eq_true, if_true, if_false])

def lnD (base : Sq.Row) (pers : List Sq.Row) : PyData := .tuple [intsD base, .tuple (pers.map intsD)]
def optD : Option (List Int) → PyData
  | none => .none
  | some t => intsD t
def barD : Option Sq.Bar → PyData
  | none => .none
  | some (.apart w) => .tuple [.str "apart", intsD w]
  | some (.less w) => .tuple [.str "less", intsD w]
  | some (.rest m w) => .tuple [.str "rest", .int m, intsD w]
structure LnOk (m n : Nat) (base : Sq.Row) (pers : List Sq.Row) : Prop where
  bl : base.length = m
  bb : ∀ x ∈ base, x.natAbs ≤ 1000
  po : RowsP n m pers
  pb : Sq.Bd 3 pers
  n3 : n ≤ 3
  m4 : m ≤ 4
def spRowAt (K : PySem.W.Frag) : Sp := fun vs H Q _ => ∃ (lv tv : V) (base : Sq.Row) (pers : List Sq.Row) (ts : List Int) (m : Nat), vs = [lv, tv] ∧ Dp K H lv (lnD base pers) ∧ Dp K H tv (intsD ts) ∧ base.length = m ∧ (∀ r ∈ pers, r.length = m) ∧ pers.length ≤ 1000 ∧ m ≤ 1000 ∧ (∀ t ∈ ts, B64 t) ∧
  ∀ H' u, Same H H' → Dp K H' u (intsD (Sq.rowAt base pers ts)) → Q u H'
def spApart (K : PySem.W.Frag) : Sp := fun vs H Q _ => ∃ (pv sv : V) (m n : Nat) (base : Sq.Row) (pers : List Sq.Row) (q : Sq.Sqr) (p : Nat), vs = [.int (m : Nat), pv, sv, .int (p : Nat)] ∧ Dp K H pv (.tuple (pers.map intsD)) ∧ Dp K H sv (sqD (some q)) ∧ LnOk m n base pers ∧ Sq.QB m pers q ∧ p < m ∧
  ∀ H' u, Same H H' → Dp K H' u (intsD (Sq.apartOf m pers q p)) → Q u H'
def spTurnsOf (K : PySem.W.Frag) : Sp := fun vs H Q _ => ∃ (lv sv rv : V) (m n : Nat) (base : Sq.Row) (pers : List Sq.Row) (q : Sq.Sqr) (row : Sq.Row), vs = [lv, sv, rv] ∧ Dp K H lv (lnD base pers) ∧ Dp K H sv (sqD (some q)) ∧ Dp K H rv (intsD row) ∧ LnOk m n base pers ∧ Sq.QB m pers q ∧ row.length = m ∧ (∀ x ∈ row, x.natAbs ≤ 1000) ∧
  ∀ H' u, Same H H' → Dp K H' u (optD (Sq.turnsOf base pers q row)) → Q u H'
def spBarOf (K : PySem.W.Frag) : Sp := fun vs H Q _ => ∃ (lv sv rv : V) (m n : Nat) (base : Sq.Row) (pers : List Sq.Row) (q : Sq.Sqr) (row : Sq.Row), vs = [.int (m : Nat), lv, sv, rv] ∧ Dp K H lv (lnD base pers) ∧ Dp K H sv (sqD (some q)) ∧ Dp K H rv (intsD row) ∧ LnOk m n base pers ∧ Sq.QB m pers q ∧ row.length = m ∧ (∀ x ∈ row, x.natAbs ≤ 1000) ∧
  ∀ H' u, Same H H' → Dp K H' u (barD (Sq.barOf m base pers q row)) → Q u H'
abbrev s_apart_at : Stmt := top 23
abbrev nm_apart_at : List Str := ["many", "periods", "square", "place", "_", "size", "weights", "each", "found", "period"]
abbrev pr_apart_at : List Str := ["many", "periods", "square", "place"]
theorem sc_apart_at : FnScope nm_apart_at pr_apart_at (defScope s_apart_at) := ⟨rfl, rfl, rfl, by decide +kernel, rfl, by decide +kernel, by decide +kernel⟩
abbrev s_turns_of : Stmt := top 24
abbrev nm_turns_of : List Str := ["line", "square", "row", "base", "periods", "_", "size", "weights", "gap", "sums", "turned", "each", "number"]
abbrev pr_turns_of : List Str := ["line", "square", "row"]
theorem sc_turns_of : FnScope nm_turns_of pr_turns_of (defScope s_turns_of) := ⟨rfl, rfl, rfl, by decide +kernel, rfl, by decide +kernel, by decide +kernel⟩
abbrev s_row_at : Stmt := top 25
abbrev nm_row_at : List Str := ["line", "turned", "row", "periods", "period", "times"]
abbrev pr_row_at : List Str := ["line", "turned"]
theorem sc_row_at : FnScope nm_row_at pr_row_at (defScope s_row_at) := ⟨rfl, rfl, rfl, by decide +kernel, rfl, by decide +kernel, by decide +kernel⟩
abbrev s_bar_of : Stmt := top 36
abbrev nm_bar_of : List Str := ["many", "line", "square", "row", "base", "periods", "places", "size", "weights", "gap", "place", "apart", "each"]
abbrev pr_bar_of : List Str := ["many", "line", "square", "row"]
theorem sc_bar_of : FnScope nm_bar_of pr_bar_of (defScope s_bar_of) := ⟨rfl, rfl, rfl, by decide +kernel, rfl, by decide +kernel, by decide +kernel⟩
theorem hu64 {A : Around} {k : Nat} (hr : Room k A) : A.units + 64 < cLine := by have := hr.un; omega
theorem hu65 {A : Around} {k : Nat} (hr : Room k A) : A.units + 65 < cLine := by have := hr.un; omega
theorem eqv_ints : ∀ a b : List Int, PyData.eqv (intsD a) (intsD b) = decide (a = b)
  | [], [] => rfl
  | [], _ :: _ => rfl
  | _ :: _, [] => rfl
  | x :: a, y :: b => by
    have ih := eqv_ints a b
    show ((x == y) && PyData.eqv (intsD a) (intsD b)) = _
    rw [ih]
    by_cases c : x = y
    · subst c; simp
    · simp [c]
theorem shaped_intsD (is : List Int) : SeqAt.shaped (intsD is) = true := by
  unfold SeqAt.shaped intsD
  simp only [PyData.canLay0, canLay_ints, PyData.depth, depth_ints, Bool.true_and]
  rfl
theorem b64_of {x : Int} {b : Nat} (h : x.natAbs ≤ b) (hb : b ≤ 1000000000000 := by decide) : B64 x := by unfold B64; omega
section
variable {K : PySem.W.Frag} {H : Hp} {v : V}
theorem ln_v {base : Sq.Row} {pers : List Sq.Row} (h : Dp K H v (lnD base pers)) : ∃ p b u, v = .ref p ∧ SqT K H p [b, u] ∧ Dp K H b (intsD base) ∧ Dp K H u (.tuple (pers.map intsD)) := by
  obtain ⟨p, xs, rfl, hs, ha⟩ := h.tup_inv
  obtain ⟨x, y, rfl, h1, h2⟩ := ha.two
  exact ⟨p, x, y, rfl, hs, h1, h2⟩
theorem sq_v {q : Sq.Sqr} (h : Dp K H v (sqD (some q))) : ∃ p a b, v = .ref p ∧ SqT K H p [a, .int q.size, b] ∧ Dp K H a (rowD q.ps) ∧ Dp K H b (.list (q.ws.map intsD)) := by
  obtain ⟨p, xs, rfl, hs, ha⟩ := h.tup_inv
  obtain ⟨x, y, z, rfl, h1, h2, h3⟩ := ha.three
  cases h2
  exact ⟨p, x, z, rfl, hs, h1, h3⟩
end
section
variable {P : Program} {w : World} {K : PySem.W.Frag} {mg : Str → Option Value} {base : Heap}
def foldP (b : Sq.Row) (pers : List Sq.Row) (ts : List Int) (i : Nat) : Sq.Row := ((pers.zip ts).take i).foldl (fun r pt => Sq.addk r pt.1 pt.2) b
theorem zip_at {α β : Type} {l : List α} {r : List β} {i : Nat} {x : α} {y : β} (h1 : l[i]? = some x) (h2 : r[i]? = some y) : (l.zip r)[i]? = some (x, y) := by
  rw [List.getElem?_zip_eq_some]
  exact ⟨h1, h2⟩
theorem take_at {α : Type} {l : List α} {i : Nat} {x : α} (h : l[i]? = some x) : l.take (i + 1) = l.take i ++ [x] := by
  obtain ⟨hi, e⟩ := List.getElem?_eq_some_iff.mp h
  rw [List.take_succ_eq_append_getElem hi, e]
theorem foldP_succ {b : Sq.Row} {pers : List Sq.Row} {ts : List Int} {i : Nat} {r : Sq.Row} {t : Int} (h1 : pers[i]? = some r) (h2 : ts[i]? = some t) : foldP b pers ts (i + 1) = Sq.addk (foldP b pers ts i) r t := by
  unfold foldP
  rw [take_at (zip_at h1 h2), List.foldl_append]
  rfl
theorem foldP_all (b : Sq.Row) (pers : List Sq.Row) (ts : List Int) : foldP b pers ts (min pers.length ts.length) = Sq.rowAt b pers ts := by
  unfold foldP
  rw [List.take_of_length_le (by rw [List.length_zip]; exact Nat.le_refl _)]
  rfl
theorem foldP_len {b : Sq.Row} {pers : List Sq.Row} {ts : List Int} {m : Nat} (hb : b.length = m) (hp : ∀ r ∈ pers, r.length = m) (i : Nat) : (foldP b pers ts i).length = m := by
  unfold foldP
  have : ∀ (l : List (Sq.Row × Int)) (b : Sq.Row), b.length = m → (∀ x ∈ l, x.1.length = m) → (l.foldl (fun r pt => Sq.addk r pt.1 pt.2) b).length = m := fun l => by
    induction l with
    | nil => intro b h _; exact h
    | cons x l ih =>
      intro b h hl
      rw [List.foldl_cons]
      exact ih _ (by rw [Sq.addk_len (by rw [h, hl x (by simp)])]; exact h) fun y hy => hl y (List.mem_cons_of_mem _ hy)
  exact this _ b hb fun x hx => hp _ (Sq.zip_mem_l (List.mem_of_mem_take hx)).1
theorem ints_get {ts : List Int} {i : Nat} {x : V} (h : (ts.map V.int)[i]? = some x) : ∃ t, ts[i]? = some t ∧ x = .int t := by
  rw [List.getElem?_map] at h
  cases e : ts[i]? with
  | none => rw [e] at h; cases h
  | some n => rw [e] at h; cases h; exact ⟨n, rfl, rfl⟩
theorem ok_row_at (B : Bl mg) (F1 : Df P w K mg base CX0 1 "added" pr_added (spAdded K)) (D : Dt K mg "row_at" s_row_at pr_row_at) : Df P w K mg base CX0 2 "row_at" pr_row_at (spRowAt K) := by
  refine D.ok sc_row_at (fun vs H Q E h => ?_) (fun f cdv A outer s H vs Q E hr h => ?_)
  · obtain ⟨lv, tv, base, pers, ts, m, rfl, _⟩ := h
    rfl
  · obtain ⟨lv, tv, bs, pers, ts, m, rfl, hl, ht, bl, pl, pn, hm, tb, k⟩ := h
    obtain ⟨p, b, u, rfl, hs, hb, hu⟩ := ln_v hl
    obtain ⟨a, zs, rfl, hz, hzl, hzat, _⟩ := tup_view hu
    obtain ⟨c, rfl, hc⟩ := ht.ints_tup
    refine ⟨_, (pss_cons (ps_asg (pv 0) (pg_tup rfl (pgs_cons (pg_name (i := 2) sc_row_at.nd rfl (Or.inl rfl)) (pgs_cons (pg_name (i := 3) sc_row_at.nd rfl (Or.inl rfl)) pgs_nil)))) (pss_cons (ps_for PassesOwn.never rfl (pi_zipA (by rfl) B.zip (pa_cons (pv 3) (pa_cons (pv 1) pa_nil))) (pg_tup rfl (pgs_cons (pg_name (i := 4) sc_row_at.nd rfl (Or.inl rfl)) (pgs_cons (pg_name (i := 5) sc_row_at.nd rfl (Or.inl rfl)) pgs_nil))) (pss_one (ps_set (i := 2) sc_row_at.nd rfl (Or.inl rfl) (pe_f F1 (hr.mono (by decide)) pass0 (pa_cons (pv 2) (pa_cons (pv 4) (pa_cons (pv 5) pa_nil))))))) (pss_one (ps_ret (pv 2))))), ?_⟩
    walk_at "nf"
    walk_at "sx"
    have lz : zs.length = pers.length := hzl
    have lt : (ts.map V.int).length = ts.length := List.length_map ..
    refine ⟨_, hs, rfl, b, _, rfl, _, _, rfl, rfl, _, rfl, _, rfl, a, c, _, _, rfl, .inr ⟨hz, hc, for_it walk_zipT (fun i σ H' => Same H H' ∧ ∃ rv v4 v5, σ = [some (V.ref p), some (V.ref c), some rv, some (V.ref a), v4, v5] ∧ Dp K H' rv (intsD (foldP bs pers ts i))) ⟨Same.refl _, _, _, _, rfl, hb⟩ (fun i σ H' _ p => ⟨p.1.seqT hz, p.1.seqT hc⟩) (fun i x σ H1 H2 hi py y => ?_) (fun σ H1 py => ?_)⟩⟩
    · obtain ⟨s1, rv, v4, v5, rfl, hrv⟩ := py
      obtain ⟨T, x1, x2, rfl, hT, rfl, h1, h2⟩ := y
      obtain ⟨r, hr1, hdr⟩ := hzat i x1 h1
      obtain ⟨t, ht1, rfl⟩ := ints_get h2
      have e2 := Same.new (o := HO.tup [x1, V.int t]) hT
      walk_at "nf"
      refine ⟨T, _, rfl, .of upd_same, rfl, ?_⟩
      walk_at "sx"
      refine ⟨rv, x1, _, r, t, rfl, hrv.to e2, (hdr.to s1).to e2, tb t (List.mem_of_getElem? ht1), ?_, fun H3 u e3 hu => ⟨(s1.trans e2).trans e3, ?_⟩⟩
      · rw [foldP_len (m := m) bl pl]
        omega
      · rw [foldP_succ hr1 ht1]
        exact hu
    · obtain ⟨s1, rv, v4, v5, rfl, hrv⟩ := py
      refine ⟨_, rfl, k _ _ s1 ?_⟩
      rw [lz, lt, foldP_all] at hrv
      exact hrv
def foldA (q : Sq.Sqr) (pers : List Sq.Row) (p m i : Nat) : Sq.Row := ((pers.zip q.ws).take i).foldl (fun f pw => Sq.addk f pw.2 (-(pw.1.getD p 0))) ((List.range m).map fun c => if c = p then q.size else 0)
theorem foldA_succ {q : Sq.Sqr} {pers : List Sq.Row} {p m i : Nat} {r t : Sq.Row} (h1 : pers[i]? = some r) (h2 : q.ws[i]? = some t) : foldA q pers p m (i + 1) = Sq.addk (foldA q pers p m i) t (-(r.getD p 0)) := by
  unfold foldA
  rw [take_at (zip_at h1 h2), List.foldl_append]
  rfl
theorem foldA_all (q : Sq.Sqr) (pers : List Sq.Row) (p m : Nat) : foldA q pers p m (min pers.length q.ws.length) = Sq.apartOf m pers q p := by
  unfold foldA
  rw [List.take_of_length_le (by rw [List.length_zip]; exact Nat.le_refl _)]
  rfl
theorem foldA_len {q : Sq.Sqr} {pers : List Sq.Row} {m : Nat} (qb : Sq.QB m pers q) (p i : Nat) : (foldA q pers p m i).length = m := by
  unfold foldA
  exact Sq.apart_len qb p _ _ (fun x hx => qb.wm _ (Sq.zip_mem_l (List.mem_of_mem_take hx)).2) (by simp)
theorem ok_apart (B : Bl mg) (F1 : Df P w K mg base CX0 1 "added" pr_added (spAdded K)) (D : Dt K mg "apart_at" s_apart_at pr_apart_at) : Df P w K mg base CX0 2 "apart_at" pr_apart_at (spApart K) := by
  refine D.ok sc_apart_at (fun vs H Q E h => ?_) (fun f cdv A outer s H vs Q E hr h => ?_)
  · obtain ⟨pv, sv, m, n, bs, pers, q, p, rfl, _⟩ := h
    rfl
  · obtain ⟨pv, sv, m, n, bs, pers, q, pp, rfl, hp, hs, o, qb, hpm, k⟩ := h
    obtain ⟨a, zs, rfl, hz, hzl, hzat, _⟩ := tup_view hp
    obtain ⟨c, u1, u2, rfl, hc, h1, h2⟩ := sq_v hs
    obtain ⟨d, ws, rfl, hd, hwl, hwat, _⟩ := lst_view h2
    refine ⟨_, (pss_cons (ps_asg (pv 2) (pg_tup rfl (pgs_cons (pg_name (i := 4) sc_apart_at.nd rfl (Or.inl rfl)) (pgs_cons (pg_name (i := 5) sc_apart_at.nd rfl (Or.inr rfl)) (pgs_cons (pg_name (i := 6) sc_apart_at.nd rfl (Or.inl rfl)) pgs_nil))))) (pss_cons (ps_set (i := 8) sc_apart_at.nd rfl (Or.inl rfl) (pe_callTy call_tuple_of (by rfl) B.tuple PyProof.Rows.boot_tuple (pa_cons (pe_lc (own := [("each", 7)]) (g := gName 7) (tt := tYes) (by rfl) sc_apart_at.nd (pi_range1 (by rfl) B.range (pa_cons (pv 0) pa_nil)) (blkOk_by (own := [("each", 7)]) (N := nm_apart_at) (sc := defScope s_apart_at) (by decide +kernel)) (fun _ _ _ _ _ => pg_name (i := 7) sc_apart_at.nd rfl (Or.inl rfl)) (fun _ _ _ _ _ => pts_nil) (fun _ _ _ _ _ => (pe_ifExp (pt_cmpR op_eq (pv 7) (pv 3) (nomark _)) (pv 5) pe_int))) pa_nil))) (pss_cons (ps_for PassesOwn.never rfl (pi_zipB (by rfl) B.zip (pa_cons (pv 1) (pa_cons (pv 6) pa_nil))) (pg_tup rfl (pgs_cons (pg_name (i := 9) sc_apart_at.nd rfl (Or.inl rfl)) (pgs_cons (pg_name (i := 7) sc_apart_at.nd rfl (Or.inl rfl)) pgs_nil))) (pss_one (ps_set (i := 8) sc_apart_at.nd rfl (Or.inl rfl) (pe_f F1 (hr.mono (by decide)) pass0 (pa_cons (pv 8) (pa_cons (pv 7) (pa_cons (pe_un un_neg (pe_ix ix_tup (pv 9) (pv 3) (fun _ _ => rfl))) pa_nil))))))) (pss_one (ps_ret (pv 8)))))), ?_⟩
    walk_at "nf"
    walk_at "sx"
    have m4 := o.m4
    refine ⟨_, hc, rfl, _, _, rfl, _, _, rfl, _, _, rfl, rfl, ?_⟩
    refine ⟨_, rfl, (m : Int), rfl, by omega, by omega, fun D hD => lcS walk_range hD (slt (by omega)) (fun j y => y = .int (if j = pp then q.size else 0)) (fun _ _ => trivial) (fun j x H1 H2 Q1 hj e y q1 => ?_) (fun H1 ys e hy hn hr => ?_)⟩
    · obtain ⟨rfl, rfl⟩ := y
      walk_at "nf"
      walk_at "sx"
      refine ⟨rfl, ?_⟩
      by_cases c : j = pp
      · rw [if_pos c] at q1
        rw [decide_eq_true (by omega)]
        exact iteT (q1 _ _ rfl (Same.refl _))
      · rw [if_neg c] at q1
        rw [decide_eq_false (by omega)]
        exact iteF (q1 _ _ rfl (Same.refl _))
    · have ev := vals_int (f := fun j => if j = pp then q.size else 0) hn hr
      rw [show ((m : Int)).toNat = m by omega] at ev
      refine ⟨D, rfl, _, .inl ⟨.of hy, fun l hl => ?_⟩⟩
      have s1 := e.then_new (o := HO.tup ys) hl
      have h0 : Dp K (upd H1 l (HO.tup ys)) (.ref l) (intsD (foldA q pers pp m 0)) := Dp.tup_ints (.of (by rw [upd_same, ev]; rfl))
      generalize upd H1 l (HO.tup ys) = H2 at s1 h0 ⊢
      refine ⟨_, rfl, _, rfl, a, d, rfl, zipB_core s1 hz (.inr hd) fun J G wk hG => for_it wk (fun i σ H' => Same H H' ∧ ∃ v7 fv v9, σ = [some (V.int (m : Nat)), some (V.ref a), some (V.ref c), some (V.int (pp : Nat)), some u1, some (V.int q.size), some (V.ref d), v7, some fv, v9] ∧ Dp K H' fv (intsD (foldA q pers pp m i))) ⟨s1, _, _, _, rfl, h0⟩ (fun i σ H' _ p => hG H' p.1) (fun i x σ H3 H4 hi py y => ?_) (fun σ H3 py => ?_)⟩
      · obtain ⟨s3, v7, fv, v9, rfl, hfv⟩ := py
        obtain ⟨T, x1, x2, rfl, hT, rfl, g1, g2⟩ := y
        obtain ⟨r, hr1, hdr⟩ := hzat i x1 g1
        obtain ⟨wv, hw1, hdw⟩ := hwat i x2 g2
        have e2 := Same.new (o := HO.tup [x1, x2]) hT
        obtain ⟨b1, rfl, hb1⟩ := ((hdr.to s3).to e2).ints_tup
        obtain ⟨r1, r2⟩ := o.po.2 r (List.mem_of_getElem? hr1)
        have r3 := o.pb r (List.mem_of_getElem? hr1)
        walk_at "nf"
        refine ⟨T, _, rfl, .of upd_same, rfl, ?_⟩
        walk_at "sx"
        refine ⟨_, hb1, _, atI_getD (by omega), _, rfl, ?_⟩
        refine ⟨fv, x2, _, wv, _, rfl, hfv.to e2, (hdw.to s3).to e2, b64_of (b := 3) (by rw [Int.natAbs_neg]; exact Sq.getD_bd r3 pp), by rw [foldA_len qb]; omega, fun H5 u e5 hu => ⟨(s3.trans e2).trans e5, ?_⟩⟩
        rw [foldA_succ hr1 hw1]
        exact hu
      · obtain ⟨s3, v7, fv, v9, rfl, hfv⟩ := py
        refine ⟨_, rfl, k _ _ s3 ?_⟩
        rw [hzl, hwl, foldA_all] at hfv
        exact hfv
theorem ok_turns_of (B : Bl mg) (F1 : Df P w K mg base CX0 1 "added" pr_added (spAdded K)) (F2 : Df P w K mg base CX0 1 "weighed" pr_weighed (spWeighed K)) (F3 : Df P w K mg base CX0 2 "row_at" pr_row_at (spRowAt K)) (D : Dt K mg "turns_of" s_turns_of pr_turns_of) : Df P w K mg base CX0 3 "turns_of" pr_turns_of (spTurnsOf K) := by
  refine D.ok sc_turns_of (fun vs H Q E h => ?_) (fun f cdv A outer s H vs Q E hr h => ?_)
  · obtain ⟨lv, sv, rv, m, n, bs, pers, q, row, rfl, _⟩ := h
    rfl
  · obtain ⟨lv, sv, rv, m, n, bs, pers, q, row, rfl, hl, hs, hrw, o, qb, rl, rb, k⟩ := h
    obtain ⟨p, b, u, rfl, hp, hb, hu⟩ := ln_v hl
    obtain ⟨c, u1, u2, rfl, hc, h1, h2⟩ := sq_v hs
    obtain ⟨d, ws, rfl, hd, hwl, hwat, _⟩ := lst_view h2
    refine ⟨_, (pss_cons (ps_asg (pv 0) (pg_tup rfl (pgs_cons (pg_name (i := 3) sc_turns_of.nd rfl (Or.inl rfl)) (pgs_cons (pg_name (i := 4) sc_turns_of.nd rfl (Or.inl rfl)) pgs_nil)))) (pss_cons (ps_asg (pv 1) (pg_tup rfl (pgs_cons (pg_name (i := 5) sc_turns_of.nd rfl (Or.inl rfl)) (pgs_cons (pg_name (i := 6) sc_turns_of.nd rfl (Or.inr rfl)) (pgs_cons (pg_name (i := 7) sc_turns_of.nd rfl (Or.inl rfl)) pgs_nil))))) (pss_cons (ps_set (i := 8) sc_turns_of.nd rfl (Or.inr rfl) (pe_f F1 (hr.mono (by decide)) pass0 (pa_cons (pv 2) (pa_cons (pv 3) (pa_cons (pe_un un_neg pe_int) pa_nil))))) (pss_cons (ps_setLc (i := 9) (own := [("each", 11)]) (g := gName 11) (tt := tYes) rfl sc_turns_of.nd rfl rfl (sw_true rfl rfl rfl (by decide +kernel)) (pi_list (pv 7)) (blkOk_by (own := [("each", 11)]) (N := nm_turns_of) (sc := defScope s_turns_of) (by decide +kernel)) (fun _ _ _ _ _ => pg_name (i := 11) sc_turns_of.nd rfl (Or.inl rfl)) (fun _ _ _ _ _ => pts_nil) (fun _ _ _ _ _ => (pe_f F2 (hr.mono (by decide)) pass0 (pa_cons (pv 11) (pa_cons (pv 8) pa_nil))))) (pss_cons (ps_if (pt_val (pe_callB (cr_any rfl) (by rfl) B.any boot_any (pa_cons (pe_lc (own := [("number", 12)]) (g := gName 12) (tt := tYes) (by rfl) sc_turns_of.nd (pi_list (pv 9)) (blkOk_by (own := [("number", 12)]) (N := nm_turns_of) (sc := defScope s_turns_of) (by decide +kernel)) (fun _ _ _ _ _ => pg_name (i := 12) sc_turns_of.nd rfl (Or.inl rfl)) (fun _ _ _ _ _ => pts_nil) (fun _ _ _ _ _ => (pe_or (pe_cmpR op_lt (pv 12) pe_int (nomark _)) (pe_one (pe_cmpR op_ne (pe_op op_mod (pv 12) (pv 6)) pe_int (nomark _)))))) pa_nil))) (pss_one (ps_ret pe_non)) pss_nil) (pss_cons (ps_set (i := 10) sc_turns_of.nd rfl (Or.inl rfl) (pe_callTy call_tuple_of (by rfl) B.tuple PyProof.Rows.boot_tuple (pa_cons (pe_lc (own := [("number", 12)]) (g := gName 12) (tt := tYes) (by rfl) sc_turns_of.nd (pi_list (pv 9)) (blkOk_by (own := [("number", 12)]) (N := nm_turns_of) (sc := defScope s_turns_of) (by decide +kernel)) (fun _ _ _ _ _ => pg_name (i := 12) sc_turns_of.nd rfl (Or.inl rfl)) (fun _ _ _ _ _ => pts_nil) (fun _ _ _ _ _ => (pe_op op_fdiv (pv 12) (pv 6)))) pa_nil))) (pss_one (ps_ret (pe_ifExp (pt_cmpR (op_eqD (hu64 hr)) (pe_f F3 (hr.mono (by decide)) pass0 (pa_cons (pv 0) (pa_cons (pv 10) pa_nil))) (pv 2) (nomark _)) (pv 10) pe_non))))))))), ?_⟩
    walk_at "nf"
    walk_at "sx"
    have m4 := o.m4
    have hq0 := qb.s0
    have hq1 := qb.s1
    have gl : (Sq.addk row bs (-1)).length = m := by rw [Sq.addk_len (by rw [rl, o.bl])]; exact rl
    have gb : ∀ x ∈ Sq.addk row bs (-1), x.natAbs ≤ 2000 := fun x hx => by
      have := Sq.addk_bd (k := -1) (c := 1) (by decide) row bs rb o.bb x hx
      omega
    have wn : ws.length ≤ 3 := by rw [hwl, qb.wl, o.po.1]; exact o.n3
    refine ⟨_, hp, rfl, _, _, rfl, _, _, rfl, rfl, _, hc, rfl, _, _, rfl, _, _, rfl, _, _, rfl, rfl, rv, b, row, bs, -1, rfl, hrw, hb, by unfold B64; omega, by omega, fun H1 g e1 hg => ?_⟩
    have hd1 := e1.seq hd
    refine ⟨_, rfl, d, rfl, ⟨_, hd1⟩, fun D hD => lcS walk_list hD (slt (by omega)) (fun j y => y = .int ((Sq.sumsOf q (Sq.addk row bs (-1))).getD j 0)) (fun H e => e.seq hd1) (fun j x H2 H3 Q1 hj e y q1 => ?_) (fun H2 ys e hy hn hr => ?_)⟩
    · obtain ⟨rfl, hx⟩ := y
      obtain ⟨wv, hw1, hdw⟩ := hwat j x hx
      have hwm := List.mem_of_getElem? hw1
      walk_at "nf"
      walk_at "sx"
      refine ⟨x, g, wv, _, rfl, (hdw.to e1).to e, hg.to e, fun z hz => b64_of (qb.wb wv hwm z hz), by rw [qb.wm wv hwm]; omega, fun H4 e4 => q1 _ _ ?_ e4⟩
      unfold Sq.sumsOf
      rw [List.getD_eq_getElem?_getD, List.getElem?_map, hw1]
      rfl
    · have ev := vals_int (f := fun j => (Sq.sumsOf q (Sq.addk row bs (-1))).getD j 0) hn hr
      have esl : (Sq.sumsOf q (Sq.addk row bs (-1))).length = ws.length := by unfold Sq.sumsOf; rw [List.length_map]; exact hwl.symm
      rw [← esl] at ev
      have e3 : (List.range (Sq.sumsOf q (Sq.addk row bs (-1))).length).map (fun j => (Sq.sumsOf q (Sq.addk row bs (-1))).getD j 0) = Sq.sumsOf q (Sq.addk row bs (-1)) := by
        have := by_places (Sq.sumsOf q (Sq.addk row bs (-1))) 0 id
        simpa using this
      rw [e3] at ev
      subst ev
      have sb : ∀ z ∈ Sq.sumsOf q (Sq.addk row bs (-1)), z.natAbs ≤ 8000000 := fun z hz => by
        obtain ⟨wv, hwm, rfl⟩ := List.mem_map.mp hz
        have := Sq.dotp_bd 1000 2000 wv (Sq.addk row bs (-1)) (qb.wb wv hwm) gb
        rw [qb.wm wv hwm] at this
        omega
      have hd2 : SqL K H2 D ((Sq.sumsOf q (Sq.addk row bs (-1))).map V.int) := .of hy
      have e02 := e1.trans e
      generalize hsm : Sq.sumsOf q (Sq.addk row bs (-1)) = sums at *
      refine ⟨_, rfl, D, rfl, ⟨_, hd2⟩, fun D2 hD2 => lcS walk_list hD2 (by rw [List.length_map]; exact slt (by omega)) (fun j y => y = .bl (decide (sums.getD j 0 < 0) || decide (sums.getD j 0 % q.size ≠ 0))) (fun H e => e.seq hd2) (fun j x H3 H4 Q1 hj e3 y q1 => ?_) (fun H3 ys e3 hy3 hn3 hr3 => ?_)⟩
      · obtain ⟨rfl, hx⟩ := y
        obtain ⟨t, ht, rfl⟩ := ints_get hx
        have et : sums.getD j 0 = t := by rw [List.getD_eq_getElem?_getD, ht]; rfl
        rw [et] at q1
        walk_at "nf"
        walk_at "sx"
        by_cases c0 : t < 0
        · rw [decide_eq_true c0]
          refine iteT (q1 _ _ ?_ (Same.refl _))
          rw [decide_eq_true c0]
          rfl
        · rw [decide_eq_false c0]
          refine iteF ⟨hq0, rfl, q1 _ _ ?_ (Same.refl _)⟩
          rw [decide_eq_false c0, Bool.false_or, decide_not]
      · have ev := vals_bl (f := fun j => decide (sums.getD j 0 < 0) || decide (sums.getD j 0 % q.size ≠ 0)) hn3 hr3
        rw [List.length_map] at ev
        have e4 : (List.range sums.length).map (fun j => decide (sums.getD j 0 < 0) || decide (sums.getD j 0 % q.size ≠ 0)) = sums.map fun z => decide (z < 0) || decide (z % q.size ≠ 0) := by_places sums 0 fun z => decide (z < 0) || decide (z % q.size ≠ 0)
        rw [e4] at ev
        subst ev
        have e05 := e02.trans e3
        refine ⟨D2, _, rfl, .of hy3, _, rfl, ?_⟩
        have kk := k
        unfold Sq.turnsOf at kk
        rw [hsm] at kk
        have ean : (sums.map fun z => decide (z < 0) || decide (z % q.size ≠ 0)).any id = sums.any fun z => decide (z < 0) || decide (z % q.size ≠ 0) := by rw [List.any_map]; rfl
        rw [ean]
        by_cases c1 : (sums.any fun z => decide (z < 0) || decide (z % q.size ≠ 0)) = true
        · rw [c1]
          rw [if_pos c1] at kk
          exact iteT (kk _ _ e05 .non)
        · have c2 : (sums.any fun z => decide (z < 0) || decide (z % q.size ≠ 0)) = false := by simpa using c1
          rw [c2]
          rw [if_neg c1] at kk
          have hd3 := e3.seq hd2
          refine iteF ⟨_, rfl, D, rfl, ⟨_, hd3⟩, fun D3 hD3 => lcS walk_list hD3 (by rw [List.length_map]; exact slt (by omega)) (fun j y => y = .int (sums.getD j 0 / q.size)) (fun H e => e.seq hd3) (fun j x H4 H5 Q1 hj e4 y q1 => ?_) (fun H4 ys e4 hy4 hn4 hr4 => ?_)⟩
          · obtain ⟨rfl, hx⟩ := y
            obtain ⟨t, ht, rfl⟩ := ints_get hx
            have et : sums.getD j 0 = t := by rw [List.getD_eq_getElem?_getD, ht]; rfl
            rw [et] at q1
            walk_at "nf"
            walk_at "sx"
            exact ⟨⟨hq0, by omega⟩, q1 _ _ rfl (Same.refl _)⟩
          · have ev := vals_int (f := fun j => sums.getD j 0 / q.size) hn4 hr4
            rw [List.length_map] at ev
            have e6 : (List.range sums.length).map (fun j => sums.getD j 0 / q.size) = sums.map (· / q.size) := by_places sums 0 (· / q.size)
            rw [e6] at ev
            subst ev
            refine ⟨D3, rfl, _, .inl ⟨.of hy4, fun l hl2 => ?_⟩⟩
            have e7 := Same.new (o := HO.tup ((sums.map (· / q.size)).map V.int)) hl2
            have e57 := (e05.trans e4).trans e7
            have ht : Dp K (upd H4 l (HO.tup ((sums.map (· / q.size)).map V.int))) (.ref l) (intsD (sums.map (· / q.size))) := Dp.tup_ints (.of upd_same)
            refine ⟨_, _, bs, pers, _, m, rfl, ?_, ht, o.bl, fun r hr => (o.po.2 r hr).1, by have := o.n3; have := o.po.1; omega, by omega, fun z hz => ?_, fun H6 r e8 hr8 => ?_⟩
            · exact hl.to e57
            · obtain ⟨x, hx, rfl⟩ := List.mem_map.mp hz
              have h1 := sb x hx
              have h2 := Int.natAbs_ediv_le_natAbs x q.size
              exact b64_of (b := 8000000) (by omega)
            · refine ⟨_, _, hr8, (hrw.to e57).to e8, shaped_intsD _, shaped_intsD _, _, rfl, ?_⟩
              rw [eqv_ints]
              by_cases c3 : Sq.rowAt bs pers (sums.map (· / q.size)) = row
              · rw [if_pos c3] at kk
                rw [decide_eq_true c3]
                exact iteT (kk _ _ (e57.trans e8) (ht.to e8))
              · rw [if_neg c3] at kk
                rw [decide_eq_false c3]
                exact iteF (kk _ _ (e57.trans e8) .non)
end
end Ws
/-! ## P27f -/
namespace Ws
open PySem PySem.Spec PyProof.Rows L2 RZ
local macro_rules | `(tactic| walk_at "nf") => `(tactic| dsimp only [tNext, tSeq, tDrop, tRet, tRetN, tIfS, tAsg, gName, gTup, gCons, gNil, tVar, tC, tOp, tUn, rI, rI0, rU, rEq, rNe, tTest, tChain, tAnd, tOr, tNot, tAndV, tOrV, tNotV, tIf, tCB, tCKw, tCons, tNil, tTup, tLst, tCa, tCallS, tB, rIxT, rIxL, rIxS, cxOf, Cx.nox, Cx.wish, Cx.blk, L2.start, tPar, tPar3, tNever, tYes, tBits, tRz, tBM, rAppend, tyV, tXf, suiteEnds, gSub, rSetL, tBreak, rMax, tDGet, sDPut, tSl, tNoPart, tPart, tDisp, tPairs, tDGet2, tDNewK, tAugS, ipI, rGetL, tDIn, tDNotIn, tBM0, rPop])
local macro_rules | `(tactic| walk_at "sx") => `(tactic| simp only [wipe, List.cons.injEq, and_assoc, exists_and_left, and_true, List.map_cons, List.map_nil, List.length_cons, List.length_nil, List.cons_append, List.nil_append, List.append_nil, Nat.reduceAdd, Nat.reduceSub, List.replicate, List.getElem?_cons_zero, List.getElem?_cons_succ, List.set_cons_zero, List.set_cons_succ, Option.some.injEq, V.int.injEq, V.bl.injEq, V.ref.injEq, V.str.injEq, exists_eq_left', exists_eq_left, true_and, Bool.true_eq_false, Bool.false_eq_true, if_true, if_false])

theorem flat_nI (ps : List Nat) : ((nI ps).map V.int).all flatV = true := by
  rw [List.all_eq_true]
  intro x hx
  obtain ⟨i, _, rfl⟩ := List.mem_map.mp hx
  rfl
theorem in_nI (ps : List Nat) (i : Nat) : inV (.int (i : Nat)) ((nI ps).map V.int) = ps.contains i := by
  unfold inV
  induction ps with
  | nil => rfl
  | cons p ps ih =>
    show (eqV (.int (p : Nat)) (.int (i : Nat)) || ((nI ps).map V.int).any _) = _
    rw [ih, List.contains_cons]
    congr 1
    show (((p : Nat) : Int) == ((i : Nat) : Int)) = (i == p)
    rw [Bool.eq_iff_iff]
    simp only [beq_iff_eq]
    omega
theorem if_go {t : TT} {r : TS} {D : Ends} {σ : L2.St} {H : Hp} (h : t σ H fun b H1 => if b = true then r D σ H1 else D.nx σ H1) : tIfS t r tNext D σ H := h
theorem range_find {α : Type} (f : Nat → Option α) (i : Nat) (h : (List.range i).findSome? f = none) : (List.range (i + 1)).findSome? f = f i := by
  rw [List.range_succ, List.findSome?_append, h]
  cases e : f i <;> simp [e]
theorem find_hit {α : Type} (f : Nat → Option α) (i m : Nat) (hi : i < m) (h : (List.range i).findSome? f = none) {x : α} (e : f i = some x) : (List.range m).findSome? f = some x := by
  have em : List.range m = List.range i ++ i :: (List.range (m - (i + 1))).map (fun k => (i + 1) + k) := by
    have h2 : m = (i + 1) + (m - (i + 1)) := by omega
    conv => lhs; rw [h2, List.range_add, List.range_succ]
    simp
  rw [em, List.findSome?_append, h, List.findSome?_cons, e]
  rfl
theorem take_find {α β : Type} (f : α → Option β) {l : List α} {i : Nat} {a : α} (ha : l[i]? = some a) (h : (l.take i).findSome? f = none) : (l.take (i + 1)).findSome? f = f a := by
  rw [take_at ha, List.findSome?_append, h]
  cases e : f a <;> simp [e]
theorem list_hit {α β : Type} (f : α → Option β) {l : List α} {i : Nat} {a : α} (ha : l[i]? = some a) (h : (l.take i).findSome? f = none) {x : β} (e : f a = some x) : l.findSome? f = some x := by
  have el : l = l.take i ++ a :: l.drop (i + 1) := by
    obtain ⟨h1, h2⟩ := List.getElem?_eq_some_iff.mp ha
    conv => lhs; rw [← List.take_append_drop i l, List.drop_eq_getElem_cons h1, h2]
  rw [el, List.findSome?_append, h, List.findSome?_cons, e]
  rfl
section
variable {P : Program} {w : World} {K : PySem.W.Frag} {mg : Str → Option Value} {base : Heap}
theorem ok_bar_of (B : Bl mg) (F1 : Df P w K mg base CX0 1 "added" pr_added (spAdded K)) (F2 : Df P w K mg base CX0 1 "weighed" pr_weighed (spWeighed K)) (F3 : Df P w K mg base CX0 2 "apart_at" pr_apart_at (spApart K)) (D : Dt K mg "bar_of" s_bar_of pr_bar_of) : Df P w K mg base CX0 3 "bar_of" pr_bar_of (spBarOf K) := by
  refine D.ok sc_bar_of (fun vs H Q E h => ?_) (fun f cdv A outer s H vs Q E hr h => ?_)
  · obtain ⟨lv, sv, rv, m, n, bs, pers, q, row, rfl, _⟩ := h
    rfl
  · obtain ⟨lv, sv, rv, m, n, bs, pers, q, row, rfl, hl, hs, hrw, o, qb, rl, rb, k⟩ := h
    obtain ⟨p, b, u, rfl, hp, hb, hu⟩ := ln_v hl
    obtain ⟨c, u1, u2, rfl, hc, h1, h2⟩ := sq_v hs
    obtain ⟨d, ws, rfl, hd, hwl, hwat, _⟩ := lst_view h2
    obtain ⟨pa, rfl, hpa⟩ := row_view h1
    have m4 := o.m4
    have hq0 := qb.s0
    have hq1 := qb.s1
    have gl : (Sq.addk row bs (-1)).length = m := by rw [Sq.addk_len (by rw [rl, o.bl])]; exact rl
    have gb : ∀ x ∈ Sq.addk row bs (-1), x.natAbs ≤ 2000 := fun x hx => by
      have := Sq.addk_bd (k := -1) (c := 1) (by decide) row bs rb o.bb x hx
      omega
    have np : pers.length ≤ 3 := by rw [o.po.1]; exact o.n3
    refine ⟨_, (pss_cons (ps_asg (pv 1) (pg_tup rfl (pgs_cons (pg_name (i := 4) sc_bar_of.nd rfl (Or.inl rfl)) (pgs_cons (pg_name (i := 5) sc_bar_of.nd rfl (Or.inl rfl)) pgs_nil)))) (pss_cons (ps_asg (pv 2) (pg_tup rfl (pgs_cons (pg_name (i := 6) sc_bar_of.nd rfl (Or.inl rfl)) (pgs_cons (pg_name (i := 7) sc_bar_of.nd rfl (Or.inl rfl)) (pgs_cons (pg_name (i := 8) sc_bar_of.nd rfl (Or.inl rfl)) pgs_nil))))) (pss_cons (ps_set (i := 9) sc_bar_of.nd rfl (Or.inl rfl) (pe_f F1 (hr.mono (by decide)) pass0 (pa_cons (pv 3) (pa_cons (pv 4) (pa_cons (pe_un un_neg pe_int) pa_nil))))) (pss_cons (ps_for PassesOwn.never rfl (pi_range1 (by rfl) B.range (pa_cons (pv 0) pa_nil)) (pg_name (i := 10) sc_bar_of.nd rfl (Or.inl rfl)) (pss_one (ps_if (pt_cmpR op_notIn_seq (pv 10) (pv 6) (by rfl)) (pss_cons (ps_set (i := 11) sc_bar_of.nd rfl (Or.inl rfl) (pe_f F3 (hr.mono (by decide)) pass0 (pa_cons (pv 0) (pa_cons (pv 5) (pa_cons (pv 2) (pa_cons (pv 10) pa_nil)))))) (pss_one (ps_if (pt_cmpR op_ne (pe_f F2 (hr.mono (by decide)) pass0 (pa_cons (pv 11) (pa_cons (pv 9) pa_nil))) pe_int (nomark _)) (pss_one (ps_ret (pe_tup (pa_cons pe_str (pa_cons (pv 11) pa_nil))))) pss_nil))) pss_nil))) (pss_cons (ps_for PassesOwn.never rfl (pi_list (pv 8)) (pg_name (i := 12) sc_bar_of.nd rfl (Or.inl rfl)) (pss_one (ps_if (pt_cmpR op_ne (pe_op op_mod (pe_f F2 (hr.mono (by decide)) pass0 (pa_cons (pv 12) (pa_cons (pv 9) pa_nil))) (pv 7)) pe_int (nomark _)) (pss_one (ps_ret (pe_tup (pa_cons pe_str (pa_cons (pv 7) (pa_cons (pv 12) pa_nil)))))) pss_nil))) (pss_cons (ps_for PassesOwn.never rfl (pi_list (pv 8)) (pg_name (i := 12) sc_bar_of.nd rfl (Or.inl rfl)) (pss_one (ps_if (pt_cmpR op_lt (pe_f F2 (hr.mono (by decide)) pass0 (pa_cons (pv 12) (pa_cons (pv 9) pa_nil))) pe_int (nomark _)) (pss_one (ps_ret (pe_tup (pa_cons pe_str (pa_cons (pv 12) pa_nil))))) pss_nil))) (pss_one (ps_ret pe_non)))))))), ?_⟩
    walk_at "nf"
    walk_at "sx"
    refine ⟨_, hp, rfl, _, _, rfl, _, _, rfl, rfl, _, hc, rfl, _, _, rfl, _, _, rfl, _, _, rfl, rfl, rv, b, row, bs, -1, rfl, hrw, hb, by unfold B64; omega, by omega, fun H1 g e1 hg => ?_⟩
    generalize hgap : Sq.addk row bs (-1) = gap at *
    have kk := k
    unfold Sq.barOf at kk
    rw [hgap] at kk
    let St : L2.St → Prop := fun σ => ∃ v10 v11 v12, σ = [some (V.int (m : Nat)), some (V.ref p), some (V.ref c), some rv, some b, some u, some (V.ref pa), some (V.int q.size), some (V.ref d), some g, v10, v11, v12]
    refine ⟨_, rfl, (m : Int), rfl, by omega, by omega, for_it walk_range (fun i σ H' => Same H1 H' ∧ St σ ∧ (List.range i).findSome? (Sq.apartB m pers q gap) = none) ⟨Same.refl _, ⟨_, _, _, rfl⟩, rfl⟩ (fun _ _ _ _ _ => trivial) (fun i x σ H3 H2 hi py y => ?_) (fun σ H2 py => ?_)⟩
    · obtain ⟨s2, ⟨v10, v11, v12, rfl⟩, none_⟩ := py
      obtain ⟨rfl, rfl⟩ := y
      have him : i < m := by omega
      have ez : (0 + (i : Int)) = ((i : Nat) : Int) := by omega
      have hg2 := hg.to s2
      have s12 := e1.trans s2
      refine if_go ⟨_, rfl, _, rfl, pa, _, rfl, .inr (s12.seqT hpa), rfl, flat_nI _, _, rfl, ?_⟩
      show if (!inV (V.int (0 + (i : Int))) ((nI q.ps).map V.int)) = true then _ else _
      rw [ez, in_nI]
      have eap : Sq.apartB m pers q gap i = if q.ps.contains i = true then none else if Sq.dotp (Sq.apartOf m pers q i) gap ≠ 0 then some (.apart (Sq.apartOf m pers q i)) else none := by
        unfold Sq.apartB
        by_cases c : i ∈ q.ps
        · rw [if_pos c, if_pos (List.contains_iff_mem.mpr c)]
        · rw [if_neg c, if_neg (fun z => c (List.contains_iff_mem.mp z))]
      cases cin : q.ps.contains i with
      | true =>
        rw [cin] at eap
        refine iteF ⟨s2, ⟨_, _, _, rfl⟩, ?_⟩
        rw [range_find _ _ none_, eap]
        rfl
      | false =>
        rw [cin] at eap
        refine iteT ?_
        obtain ⟨al, ab⟩ := Sq.apartOf_ok qb o.pb np i
        refine sq_go ⟨_, rfl, _, rfl, _, rfl, _, rfl, u, _, m, n, bs, pers, q, i, by rw [← ez], hu.to s12, hs.to s12, o, qb, him, fun H3 v3 e3 hv3 => ?_⟩
        refine if_go ⟨_, rfl, _, rfl, v3, g, _, gap, rfl, hv3, hg2.to e3, fun z hz => b64_of (ab z hz), by rw [al]; omega, fun H4 e4 => ⟨rfl, _, rfl, ?_⟩⟩
        dsimp only
        by_cases c0 : Sq.dotp (Sq.apartOf m pers q i) gap = 0
        · rw [c0]
          refine iteF ⟨s2.trans (e3.trans e4), ⟨_, _, _, rfl⟩, ?_⟩
          rw [range_find _ _ none_, eap, if_neg (by decide), if_neg (fun z => z c0)]
        · rw [decide_eq_false (fun z => c0 (V.int.inj z))]
          refine iteT ⟨_, rfl, (by show _ ≤ sizeLine; simp [sizeLine_eq]), fun l hl2 => kk _ _ ((s12.trans (e3.trans e4)).then_new hl2) ?_⟩
          have eb : Sq.apartB m pers q gap i = some (.apart (Sq.apartOf m pers q i)) := by rw [eap, if_neg (by decide), if_pos c0]
          rw [find_hit _ i m him none_ eb]
          exact .tup (.of upd_same) (.cons (.str _) (.cons ((hv3.to e4).to (Same.new hl2)) .nil))
    · obtain ⟨s2, ⟨v10, v11, v12, rfl⟩, none_⟩ := py
      have s12 := e1.trans s2
      have emm : ((m : Int)).toNat = m := by omega
      rw [emm] at none_
      rw [none_, Option.none_or] at kk
      have hd2 := s12.seq hd
      have hg2 := hg.to s2
      dsimp only
      refine sq_fr ⟨_, rfl, d, rfl, ⟨_, hd2⟩, for_it walk_list (fun i σ H' => Same H2 H' ∧ St σ ∧ (q.ws.take i).findSome? (Sq.restB q gap) = none) ⟨Same.refl _, ⟨_, _, _, rfl⟩, rfl⟩ (fun i σ H' _ p => p.1.seq hd2) (fun i x σ H3 H4 hi py y => ?_) (fun σ H3 py => ?_)⟩
      · obtain ⟨s3, ⟨v10, v11, v12, rfl⟩, none2⟩ := py
        obtain ⟨rfl, hx⟩ := y
        obtain ⟨wv, hw1, hdw⟩ := hwat i x hx
        have hwm := List.mem_of_getElem? hw1
        have s13 := s12.trans s3
        refine if_go ⟨_, rfl, _, rfl, x, g, wv, gap, rfl, hdw.to s13, hg2.to s3, fun z hz => b64_of (qb.wb wv hwm z hz), by rw [qb.wm wv hwm]; omega, fun H5 e5 => ⟨_, rfl, _, _, rfl, rfl, hq0, rfl, _, rfl, ?_⟩⟩
        dsimp only
        by_cases c0 : Sq.dotp wv gap % q.size = 0
        · rw [decide_eq_true (show V.int (Sq.dotp wv gap % q.size) = V.int 0 from by rw [c0])]
          refine iteF ⟨s3.trans e5, ⟨_, _, _, rfl⟩, ?_⟩
          rw [take_find _ hw1 none2]
          unfold Sq.restB
          rw [if_neg (fun z => z c0)]
        · rw [decide_eq_false (fun z => c0 (V.int.inj z))]
          refine iteT ⟨_, rfl, _, rfl, (by show _ ≤ sizeLine; simp [sizeLine_eq]), fun l hl2 => kk _ _ ((s13.trans e5).then_new hl2) ?_⟩
          have eb : Sq.restB q gap wv = some (.rest q.size wv) := by unfold Sq.restB; rw [if_pos c0]
          rw [list_hit _ hw1 none2 eb]
          exact .tup (.of upd_same) (.cons (.str _) (.cons (.int _) (.cons (((hdw.to s13).to e5).to (Same.new hl2)) .nil)))
      · obtain ⟨s3, ⟨v10, v11, v12, rfl⟩, none2⟩ := py
        rw [List.take_of_length_le (by omega)] at none2
        rw [none2, Option.none_or] at kk
        have s13 := s12.trans s3
        have hd3 := s13.seq hd
        have hg3 := hg2.to s3
        dsimp only
        refine sq_fr ⟨_, rfl, d, rfl, ⟨_, hd3⟩, for_it walk_list (fun i σ H' => Same H3 H' ∧ St σ ∧ (q.ws.take i).findSome? (Sq.lessB gap) = none) ⟨Same.refl _, ⟨_, _, _, rfl⟩, rfl⟩ (fun i σ H' _ p => p.1.seq hd3) (fun i x σ H4 H5 hi py y => ?_) (fun σ H4 py => ?_)⟩
        · obtain ⟨s4, ⟨v10, v11, v12, rfl⟩, none3⟩ := py
          obtain ⟨rfl, hx⟩ := y
          obtain ⟨wv, hw1, hdw⟩ := hwat i x hx
          have hwm := List.mem_of_getElem? hw1
          have s14 := s13.trans s4
          refine if_go ⟨_, rfl, _, rfl, x, g, wv, gap, rfl, hdw.to s14, hg3.to s4, fun z hz => b64_of (qb.wb wv hwm z hz), by rw [qb.wm wv hwm]; omega, fun H6 e6 => ⟨_, _, rfl, rfl, _, rfl, ?_⟩⟩
          dsimp only
          by_cases c0 : Sq.dotp wv gap < 0
          · rw [decide_eq_true c0]
            refine iteT ⟨_, rfl, (by show _ ≤ sizeLine; simp [sizeLine_eq]), fun l hl2 => kk _ _ ((s14.trans e6).then_new hl2) ?_⟩
            have eb : Sq.lessB gap wv = some (.less wv) := by unfold Sq.lessB; rw [if_pos c0]
            rw [list_hit _ hw1 none3 eb]
            exact .tup (.of upd_same) (.cons (.str _) (.cons (((hdw.to s14).to e6).to (Same.new hl2)) .nil))
          · rw [decide_eq_false c0]
            refine iteF ⟨s4.trans e6, ⟨_, _, _, rfl⟩, ?_⟩
            rw [take_find _ hw1 none3]
            unfold Sq.lessB
            rw [if_neg c0]
        · obtain ⟨s4, ⟨v10, v11, v12, rfl⟩, none3⟩ := py
          rw [List.take_of_length_le (by omega)] at none3
          rw [none3] at kk
          exact kk _ _ (s13.trans s4) .non
end
end Ws
/-! ## P27g -/
namespace Ws
open PySem PySem.Spec PyProof.Rows L2 RZ
local macro_rules | `(tactic| walk_at "nf") => `(tactic| dsimp only [tNext, tSeq, tDrop, tRet, tRetN, tIfS, tAsg, gName, gTup, gCons, gNil, tVar, tC, tOp, tUn, rI, rI0, rU, rEq, rNe, tTest, tChain, tAnd, tOr, tNot, tAndV, tOrV, tNotV, tIf, tCB, tCKw, tCons, tNil, tTup, tLst, tCa, tCallS, tB, rIxT, rIxL, rIxS, cxOf, Cx.nox, Cx.wish, Cx.blk, L2.start, tPar, tPar3, tNever, tYes, tBits, tRz, tBM, rAppend, tyV, tXf, suiteEnds, gSub, rSetL, tBreak, rMax, tDGet, sDPut, tSl, tNoPart, tPart, tDisp, tPairs, tDGet2, tDNewK, tAugS, ipI, rGetL, tDIn, tDNotIn, tBM0, rPop])
local macro_rules | `(tactic| walk_at "sx") => `(tactic| simp only [wipe, List.cons.injEq, and_assoc, exists_and_left, and_true, List.map_cons, List.map_nil, List.length_cons, List.length_nil, List.cons_append, List.nil_append, List.append_nil, Nat.reduceAdd, Nat.reduceSub, List.replicate, List.getElem?_cons_zero, List.getElem?_cons_succ, List.set_cons_zero, List.set_cons_succ, Option.some.injEq, V.int.injEq, V.bl.injEq, V.ref.injEq, V.str.injEq, exists_eq_left', exists_eq_left, true_and, Bool.true_eq_false, Bool.false_eq_true, if_true, if_false])

/-! ### wholesay.lines: sets -/
def isEntryD (m : Int) (d : PyData) : Bool := isTn d m && areB d 0 (10 ^ 9)
def nzD : PyData → Bool
  | .tuple ds => ds.any fun d => iOf d != 0
  | _ => false
def ltAt (ps : List PyData) (i : Nat) : Bool := PySem.W.dataLt (ps.getD i .none) (ps.getD (i + 1) .none)
def ascD (ps : List PyData) : Bool := (List.range (ps.length - 1)).all (ltAt ps)
def isLineD (m : Int) : PyData → Bool
  | .tuple [b, .tuple ps] => isEntryD m b && (decide (ps.length ≤ 12) && ps.all (fun p => isEntryD m p && nzD p)) && ascD ps
  | _ => false
def lineR (n : Int) (c : PyData) : PyData → Bool
  | .tuple ps => isEntryD n c && (decide (ps.length ≤ 12) && ps.all (fun p => isEntryD n p && nzD p)) && ascD ps
  | _ => false
theorem line_pair (n : Int) (c rows : PyData) : isLineD n (.tuple [c, rows]) = lineR n c rows := by cases rows <;> rfl
inductive SF
  | ok
  | bad (n : Nat)
  | great
def badAt (m : Int) (ls : List PyData) (i : Nat) : Bool := !isLineD m (ls.getD i .none) || (decide (0 < i) && !PySem.W.dataLt (ls.getD (i - 1) .none) (ls.getD i .none))
def setF : PyData → SF
  | .tuple [m, .tuple ls] => if isBt m 1 4 then (if 400 < ls.length then .great else match (List.range ls.length).find? (badAt (iOf m) ls) with
      | some i => .bad (i + 1)
      | none => .ok) else .bad 0
  | _ => .bad 0
def spIsEntry (K : PySem.W.Frag) : Sp := fun vs H Q _ => ∃ (v : V) (d : PyData) (m : Int), vs = [v, .int m] ∧ Dp K H v d ∧ m < 10000 ∧ ∀ H', Same H H' → Q (.bl (isEntryD m d)) H'
def spIsLine (K : PySem.W.Frag) : Sp := fun vs H Q _ => ∃ (v : V) (d : PyData) (m : Int), vs = [v, .int m] ∧ Dp K H v d ∧ m < 10000 ∧ ∀ H', Same H H' → Q (.bl (isLineD m d)) H'
def spNeedSet (K : PySem.W.Frag) (BS TG : Addr) : Sp := fun vs H Q E => ∃ (v : V) (d : PyData), vs = [v] ∧ Dp K H v d ∧ (setF d = .ok → ∀ H', Same H H' → Q v H') ∧ (∀ n, setF d = .bad n → OutF K BS "place" (.int (n : Nat)) H E) ∧ (setF d = .great → OutF K TG "most" (.int 400) H E)
structure CsL (mg : Str → Option Value) : Prop where
  MOST_FACTOR : ∃ t, mg "MOST_FACTOR" = some (.int (10 ^ 9) t)
  MOST_PERIODS : ∃ t, mg "MOST_PERIODS" = some (.int 12 t)
  MOST_LINES : ∃ t, mg "MOST_LINES" = some (.int 400 t)
structure ErS (P : Program) (w : World) (K : PySem.W.Frag) (mg : Str → Option Value) (base : Heap) (BS TG BR BI : Addr) : Prop where
  BadSet : ErC P w K mg base "BadSet" "place" BS
  TooGreat : ErC P w K mg base "TooGreat" "most" TG
  BadRow : ErC P w K mg base "BadRow" "value" BR
  BadIndex : ErC P w K mg base "BadIndex" "value" BI
abbrev s_is_entry : Stmt := top 29
abbrev nm_is_entry : List Str := ["value", "many"]
abbrev pr_is_entry : List Str := ["value", "many"]
theorem sc_is_entry : FnScope nm_is_entry pr_is_entry (defScope s_is_entry) := ⟨rfl, rfl, rfl, by decide +kernel, rfl, by decide +kernel, by decide +kernel⟩
abbrev s_is_line : Stmt := top 30
abbrev nm_is_line : List Str := ["value", "many", "periods", "at", "period"]
abbrev pr_is_line : List Str := ["value", "many"]
theorem sc_is_line : FnScope nm_is_line pr_is_line (defScope s_is_line) := ⟨rfl, rfl, rfl, by decide +kernel, rfl, by decide +kernel, by decide +kernel⟩
abbrev s_need_set : Stmt := top 31
abbrev nm_need_set : List Str := ["value", "many", "lines", "at", "line"]
abbrev pr_need_set : List Str := ["value"]
theorem sc_need_set : FnScope nm_need_set pr_need_set (defScope s_need_set) := ⟨rfl, rfl, rfl, by decide +kernel, rfl, by decide +kernel, by decide +kernel⟩
theorem entry_ints {m : Int} {d : PyData} (h : isEntryD m d = true) : ∃ xs : List Int, d = intsD xs ∧ (xs.length : Int) = m ∧ ∀ x ∈ xs, 0 ≤ x ∧ x ≤ 10 ^ 9 := by
  unfold isEntryD at h
  rw [Bool.and_eq_true] at h
  obtain ⟨ds, rfl, hl⟩ := isTn_tup h.1
  have h2 := h.2
  simp only [areB, List.all_eq_true] at h2
  have hi : ∀ d ∈ ds, d = .int (iOf d) ∧ 0 ≤ iOf d ∧ iOf d ≤ 10 ^ 9 := fun d hd => by
    have := h2 d hd
    cases d with
    | int i => simpa [isBt, iOf] using this
    | _ => cases this
  refine ⟨ds.map iOf, ?_, by simpa using hl, fun x hx => ?_⟩
  · unfold intsD
    rw [List.map_map]
    congr 1
    conv => lhs; rw [← List.map_id ds]
    exact List.map_congr_left fun d hd => (hi d hd).1
  · obtain ⟨d, hd, rfl⟩ := List.mem_map.mp hx
    exact (hi d hd).2
theorem nz_ints (xs : List Int) : nzD (intsD xs) = xs.any fun n => n != 0 := by
  unfold nzD intsD
  show (xs.map PyData.int).any _ = _
  rw [List.any_map]
  rfl
theorem alike_intsD (a b : List Int) : PySem.W.alike (intsD a) (intsD b) = true := by
  unfold intsD
  simp only [PySem.W.alike]
  exact PySem.W.alike_ints a b
theorem depth_intsD (a : List Int) : (intsD a).depth = 1 := by
  unfold intsD
  simp only [PyData.depth]
  rw [PySem.W.depth_ints]
section
variable {P : Program} {w : World} {K : PySem.W.Frag} {mg : Str → Option Value} {base : Heap} {BS TG BR BI : Addr}
theorem ok_is_entry (C : CsL mg) (F1 : Df P w K mg base CX0 1 "is_tuple_of" pr_is_tuple_of (spIsTupleOf K)) (F2 : Df P w K mg base CX0 3 "are_between" pr_are_between (spAreBetween K)) (D : Dt K mg "is_entry" s_is_entry pr_is_entry) : Df P w K mg base CX0 4 "is_entry" pr_is_entry (spIsEntry K) := by
  refine D.ok sc_is_entry (fun vs H Q E h => ?_) (fun f cdv A outer s H vs Q E hr h => ?_)
  · obtain ⟨v, d, n, rfl, _⟩ := h
    rfl
  · obtain ⟨v, d, n, rfl, hd, hn, k⟩ := h
    unfold isEntryD at k
    refine ⟨_, (pss_one (ps_ret (pe_and (pe_f F1 (hr.mono (by decide)) pass0 (pa_cons (pv 0) (pa_cons (pv 1) pa_nil))) (pe_one (pe_f F2 (hr.mono (by decide)) pass0 (pa_cons (pv 0) (pa_cons pe_int (pa_cons (pe_glob (v := .int (10 ^ 9)) rfl C.MOST_FACTOR.choose_spec ⟨_, rfl⟩) pa_nil)))))))), ?_⟩
    walk_at "nf"
    walk_at "sx"
    refine ⟨v, d, n, rfl, hd, _, rfl, ?_⟩
    cases e : isTn d n with
    | true =>
      refine iteT ⟨v, d, 0, 10 ^ 9, rfl, hd, fun ds e2 => ?_, fun H' e3 => ?_⟩
      · subst e2
        simp only [isTn, decide_eq_true_eq] at e
        omega
      · have := k H' e3
        rw [e, Bool.true_and] at this
        exact this
    | false =>
      refine iteF ?_
      have := k H (Same.refl _)
      rw [e, Bool.false_and] at this
      exact this
theorem ok_is_line (B : Bl mg) (C : CsL mg) (F1 : Df P w K mg base CX0 1 "is_tuple_of" pr_is_tuple_of (spIsTupleOf K)) (F2 : Df P w K mg base CX0 4 "is_entry" pr_is_entry (spIsEntry K)) (D : Dt K mg "is_line" s_is_line pr_is_line) : Df P w K mg base CX0 5 "is_line" pr_is_line (spIsLine K) := by
  refine D.ok sc_is_line (fun vs H Q E h => ?_) (fun f cdv A outer s H vs Q E hr h => ?_)
  · obtain ⟨v, d, n, rfl, _⟩ := h
    rfl
  · obtain ⟨v, d, n, rfl, hd, hn, k⟩ := h
    refine ⟨_, (pss_cons (ps_if (PW.pt (pw_or (pt_not (pt_val (pe_f F1 (hr.mono (by decide)) pass0 (pa_cons (pv 0) (pa_cons pe_int pa_nil))))) (pw_or (pt_not (pt_val (pe_f F2 (hr.mono (by decide)) pass0 (pa_cons (pe_ix ix_tup (pv 0) pe_int (fun _ _ => rfl)) (pa_cons (pv 1) pa_nil))))) (pw_or1 (pt_not (pt_val (pe_callB call_isi (by rfl) B.isinstance boot_isinstance (pa_cons (pe_ix ix_tup (pv 0) pe_int (fun _ _ => rfl)) (pa_cons (pe_bltn (v := .ty "tuple") (by rfl) B.tuple PyProof.Rows.boot_tuple rfl) pa_nil))))))))) (pss_one (ps_ret pe_bl)) pss_nil) (pss_cons (ps_set (i := 2) sc_is_line.nd rfl (Or.inr rfl) (pe_ix ix_tup (pv 0) pe_int (fun _ _ => rfl))) (pss_cons (ps_if (PW.pt (pw_or (pt_cmpR op_gt (pe_callB call_len_seq (by rfl) B.len PySem.boot_len (pa_cons (pv 2) pa_nil)) (pe_glob (v := .int 12) rfl C.MOST_PERIODS.choose_spec ⟨_, rfl⟩) (nomark _)) (pw_or1 (pt_not (pt_val (pe_callB (cr_all rfl) (by rfl) B.all boot_all (pa_cons (pe_lc (own := [("period", 4)]) (g := gName 4) (tt := tYes) (te := tAndV (tCa (spIsEntry K) E0 (tCons (tVar 4) (tCons (tVar 1) tNil))) (tCB (rAnyT K) (tCons (tVar 4) tNil))) (by rfl) sc_is_line.nd (pi_tup (pv 2)) (blkOk_by (own := [("period", 4)]) (N := nm_is_line) (sc := defScope s_is_line) (by decide +kernel)) (fun _ _ _ _ _ => pg_name (i := 4) sc_is_line.nd rfl (Or.inl rfl)) (fun _ _ _ _ _ => pts_nil) (fun _ _ _ _ _ => (pe_and (pe_f F2 (hr.mono (by decide)) pass0 (pa_cons (pv 4) (pa_cons (pv 1) pa_nil))) (pe_one (pe_callB (cr_anyT rfl) (by rfl) B.any boot_any (pa_cons (pv 4) pa_nil)))))) pa_nil))))))) (pss_one (ps_ret pe_bl)) pss_nil) (pss_one (ps_ret (pe_callB (cr_all rfl) (by rfl) B.all boot_all (pa_cons (pe_lc (own := [("at", 3)]) (g := gName 3) (tt := tYes) (te := tOp (rLtD K) (tOp (rIxT K) (tVar 2) (tVar 3)) (tOp (rIxT K) (tVar 2) (tOp (rI0 fun i j => V.int (i + j)) (tVar 3) (tC (V.int 1))))) (by rfl) sc_is_line.nd (pi_range1 (by rfl) B.range (pa_cons (pe_op op_sub (pe_callB call_len_seq (by rfl) B.len PySem.boot_len (pa_cons (pv 2) pa_nil)) pe_int) pa_nil)) (blkOk_by (own := [("at", 3)]) (N := nm_is_line) (sc := defScope s_is_line) (by decide +kernel)) (fun _ _ _ _ _ => pg_name (i := 3) sc_is_line.nd rfl (Or.inl rfl)) (fun _ _ _ _ _ => pts_nil) (fun _ _ _ _ _ => (pe_cmpR (op_ltD (hu65 hr)) (pe_ix ix_tup (pv 2) (pv 3) (fun _ _ => rfl)) (pe_ix ix_tup (pv 2) (pe_op op_add (pv 3) pe_int) (fun _ _ => rfl)) (nomark _)))) pa_nil))))))), ?_⟩
    walk_at "nf"
    walk_at "sx"
    refine ⟨v, d, 2, rfl, hd, _, rfl, ?_⟩
    cases e0 : isTn d 2 with
    | false =>
      have ef : isLineD n d = false := by
        unfold isLineD
        split
        · simp [isTn] at e0
        · rfl
      rw [ef] at k
      exact iteT (k _ (Same.refl _))
    | true =>
      obtain ⟨ds, rfl, hl⟩ := isTn_tup e0
      match ds, hl with
      | [c, rows], _ =>
      obtain ⟨a, xs, rfl, hs, ha⟩ := hd.tup_inv
      obtain ⟨cv, rv, rfl, hc, hrw⟩ := ha.two
      have e12 := line_pair n c rows
      refine iteF ⟨a, rfl, _, hs, _, rfl, cv, c, n, rfl, hc, hn, fun H1 s1 => ⟨_, rfl, ?_⟩⟩
      cases e1 : isEntryD n c with
      | false =>
        have ef : isLineD n (.tuple [c, rows]) = false := by rw [e12]; cases rows <;> simp [lineR, e1]
        rw [ef] at k
        exact iteT (k _ s1)
      | true =>
        refine iteF ⟨a, rfl, _, s1.seqT hs, _, rfl, isi_tuple (hrw.to s1) ⟨_, rfl, ?_⟩⟩
        cases rows with
        | tuple ps =>
          have e12 : isLineD n (.tuple [c, .tuple ps]) = ((decide (ps.length ≤ 12) && ps.all (fun p => isEntryD n p && nzD p)) && ascD ps) := by
            rw [e12]
            show (isEntryD n c && _ && _) = _
            rw [e1, Bool.true_and]
          obtain ⟨b, zs, rfl, hz, hza⟩ := hrw.tup_inv
          have hzl := hza.length
          have hz1 := s1.seqT hz
          refine iteF ⟨a, rfl, _, s1.seqT hs, _, rfl, b, rfl, zs, .inr hz1, ?_⟩
          by_cases c12 : ps.length ≤ 12
          · rw [decide_eq_false (by omega)]
            rw [decide_eq_true c12, Bool.true_and] at e12
            refine iteF ⟨_, rfl, b, rfl, ⟨zs, hz1⟩, fun D hD => lcS (walk_tup (K := K) (a := b) (xs := zs)) hD (slt (by omega)) (fun i y => y = .bl (isEntryD n (ps.getD i .none) && nzD (ps.getD i .none))) (fun H e => e.seqT hz1) (fun i x H2 H3 Q1 hi e y q1 => ?_) (fun H2 ys e hy hn2 hr2 => ?_)⟩
            · obtain ⟨rfl, hx⟩ := y
              obtain ⟨d, hd1, hd2⟩ := hza.getV hx
              have ed : ps.getD i .none = d := by simp [hd1]
              rw [ed] at q1
              walk_at "nf"
              walk_at "sx"
              refine ⟨x, d, n, rfl, (hd2.to s1).to e, hn, fun H4 e4 => ?_⟩
              refine ⟨_, rfl, ?_⟩
              cases e5 : isEntryD n d with
              | false =>
                rw [e5, Bool.false_and] at q1
                exact iteF (q1 _ _ rfl e4)
              | true =>
                rw [e5, Bool.true_and] at q1
                obtain ⟨xs, rfl, _, _⟩ := entry_ints e5
                obtain ⟨b2, rfl, hb2⟩ := (((hd2.to s1).to e).to e4).ints_tup
                rw [nz_ints] at q1
                exact iteT ⟨b2, xs, rfl, hb2, q1 _ _ rfl e4⟩
            · have ev := vals_bl (f := fun i => isEntryD n (ps.getD i .none) && nzD (ps.getD i .none)) hn2 hr2
              rw [hzl] at ev
              have e6 : (List.range ps.length).map (fun i => isEntryD n (ps.getD i .none) && nzD (ps.getD i .none)) = ps.map fun p => isEntryD n p && nzD p := by_places ps .none fun p => isEntryD n p && nzD p
              rw [e6] at ev
              subst ev
              have s2 := s1.trans e
              refine ⟨D, _, rfl, .of hy, _, rfl, ?_⟩
              have eall : (ps.map fun p => isEntryD n p && nzD p).all id = ps.all fun p => isEntryD n p && nzD p := by rw [List.all_map]; rfl
              rw [eall]
              cases e7 : (ps.all fun p => isEntryD n p && nzD p) with
              | false =>
                rw [e7, Bool.false_and] at e12
                rw [e12] at k
                exact iteT (k _ s2)
              | true =>
                rw [e7, Bool.true_and] at e12
                rw [e12] at k
                have hz2 := s2.seqT hz
                have each : ∀ i, i < ps.length → ∃ xs : List Int, ps.getD i .none = intsD xs := fun i hi => by
                  have := List.all_eq_true.mp e7 (ps.getD i .none) (by simp [hi])
                  rw [Bool.and_eq_true] at this
                  obtain ⟨xs, h, _⟩ := entry_ints this.1
                  exact ⟨xs, h⟩
                refine iteF ⟨_, rfl, b, rfl, zs, .inr hz2, _, _, rfl, rfl, (zs.length : Int) - 1, rfl, by omega, by omega, fun D2 hD2 => lcS walk_range hD2 (slt (by omega)) (fun i y => y = .bl (ltAt ps i)) (fun _ _ => trivial) (fun i x H3 H4 Q1 hi e8 y q1 => ?_) (fun H3 ys e8 hy3 hn3 hr3 => ?_)⟩
                · obtain ⟨rfl, rfl⟩ := y
                  have ez : (0 + (i : Int)) = ((i : Nat) : Int) := by omega
                  have hi2 : i + 1 < ps.length := by omega
                  obtain ⟨x1, hx1, ha1, hd1⟩ := hza.at_ (show i < ps.length by omega)
                  obtain ⟨x2, hx2, ha2, hd2⟩ := hza.at_ hi2
                  obtain ⟨xs1, ex1⟩ := each i (by omega)
                  obtain ⟨xs2, ex2⟩ := each (i + 1) hi2
                  have hz3 := e8.seqT hz2
                  walk_at "nf"
                  walk_at "sx"
                  rw [ez]
                  refine ⟨_, hz3, x1, ha1, _, hz3, x2, by rw [show ((i : Int) + 1) = ((i + 1 : Nat) : Int) by omega]; exact ha2, _, _, (hd1.to s2).to e8, (hd2.to s2).to e8, ?_, ?_, ?_, q1 _ _ rfl (Same.refl _)⟩
                  · rw [ex1, ex2]
                    exact alike_intsD _ _
                  · rw [ex1]
                    exact fun z => by cases z
                  · rw [ex1, depth_intsD]
                    decide
                · have ev := vals_bl (f := ltAt ps) hn3 hr3
                  have e9 : ((zs.length : Int) - 1).toNat = ps.length - 1 := by omega
                  rw [e9] at ev
                  subst ev
                  refine ⟨D2, _, rfl, .of hy3, ?_⟩
                  have ea : ((List.range (ps.length - 1)).map (ltAt ps)).all id = ascD ps := by unfold ascD; rw [List.all_map]; rfl
                  rw [ea]
                  exact k _ (s2.trans e8)
          · rw [decide_eq_true (by omega)]
            rw [decide_eq_false c12, Bool.false_and, Bool.false_and] at e12
            rw [e12] at k
            exact iteT (k _ s1)
        | _ =>
          rw [e12] at k
          exact iteT (k _ s1)
end
end Ws
/-! ## P27h -/
namespace Ws
open PySem PySem.Spec PyProof.Rows L2 RZ
local macro_rules | `(tactic| walk_at "nf") => `(tactic| dsimp only [tNext, tSeq, tDrop, tRet, tRetN, tIfS, tAsg, gName, gTup, gCons, gNil, tVar, tC, tOp, tUn, rI, rI0, rU, rEq, rNe, tTest, tChain, tAnd, tOr, tNot, tAndV, tOrV, tNotV, tIf, tCB, tCKw, tCons, tNil, tTup, tLst, tCa, tCallS, tB, rIxT, rIxL, rIxS, cxOf, Cx.nox, Cx.wish, Cx.blk, L2.start, tPar, tPar3, tNever, tYes, tBits, tRz, tBM, rAppend, tyV, tXf, suiteEnds, gSub, rSetL, tBreak, rMax, tDGet, sDPut, tSl, tNoPart, tPart, tDisp, tPairs, tDGet2, tDNewK, tAugS, ipI, rGetL, tDIn, tDNotIn, tBM0, rPop])
local macro_rules | `(tactic| walk_at "sx") => `(tactic| simp only [wipe, List.cons.injEq, and_assoc, exists_and_left, and_true, List.map_cons, List.map_nil, List.length_cons, List.length_nil, List.cons_append, List.nil_append, List.append_nil, Nat.reduceAdd, Nat.reduceSub, List.replicate, List.getElem?_cons_zero, List.getElem?_cons_succ, List.set_cons_zero, List.set_cons_succ, Option.some.injEq, V.int.injEq, V.bl.injEq, V.ref.injEq, V.str.injEq, exists_eq_left', exists_eq_left, true_and, Bool.true_eq_false, Bool.false_eq_true, if_true, if_false])

def rowOk (m : Nat) (d : PyData) : Bool := isTn d m && areB d 0 (10 ^ 60)
abbrev Ln := Sq.Row × List Sq.Row
def lineD (l : Ln) : PyData := lnD l.1 l.2
def setD (m : Nat) (ls : List Ln) : PyData := .tuple [.int (m : Nat), .tuple (ls.map lineD)]
structure SetOk (m : Nat) (ls : List Ln) : Prop where
  ok : setF (setD m ls) = .ok
  m1 : 1 ≤ m
  m4 : m ≤ 4
  lo : ∀ l ∈ ls, LnOk m l.2.length l.1 l.2
  few : ls.length ≤ 400
def spNeedRow (K : PySem.W.Frag) (BR : Addr) : Sp := fun vs H Q E => ∃ (v rv lv : V) (p : Addr) (m : Nat) (d : PyData), vs = [.ref p, rv] ∧ SqT K H p [.int (m : Nat), lv] ∧ m ≤ 4 ∧ Dp K H rv d ∧ (rowOk m d = true → ∀ H', Same H H' → Q .non H') ∧ (rowOk m d = false → OutF K BR "value" d H E)
def isWD (m : Int) : PyData → Bool
  | .tuple ds => decide ((ds.length : Int) = m) && ds.all isI
  | _ => false
def spIsW (K : PySem.W.Frag) : Sp := fun vs H Q _ => ∃ (v : V) (d : PyData) (m : Int), vs = [v, .int m] ∧ Dp K H v d ∧ m < 10000 ∧ ∀ H', Same H H' → Q (.bl (isWD m d)) H'
abbrev s_need_row_of : Stmt := top 32
abbrev nm_need_row_of : List Str := ["value", "row"]
abbrev pr_need_row_of : List Str := ["value", "row"]
theorem sc_need_row_of : FnScope nm_need_row_of pr_need_row_of (defScope s_need_row_of) := ⟨rfl, rfl, rfl, by decide +kernel, rfl, by decide +kernel, by decide +kernel⟩
abbrev s_is_weights : Stmt := top 38
abbrev nm_is_weights : List Str := ["value", "many", "weight"]
abbrev pr_is_weights : List Str := ["value", "many"]
theorem sc_is_weights : FnScope nm_is_weights pr_is_weights (defScope s_is_weights) := ⟨rfl, rfl, rfl, by decide +kernel, rfl, by decide +kernel, by decide +kernel⟩
section
variable {P : Program} {w : World} {K : PySem.W.Frag} {mg : Str → Option Value} {base : Heap} {BS TG BR BI : Addr}
theorem badL_none {m : Int} {ls : List PyData} (h : ∀ i, i < ls.length → badAt m ls i = false) : (List.range ls.length).find? (badAt m ls) = none := by
  rw [List.find?_eq_none]
  intro i hi
  rw [h i (List.mem_range.mp hi)]
  decide
theorem find_first {f : Nat → Bool} {i n : Nat} (hi : i < n) (h : ∀ j, j < i → f j = false) (e : f i = true) : (List.range n).find? f = some i := by
  have em : List.range n = List.range i ++ i :: (List.range (n - (i + 1))).map (fun k => (i + 1) + k) := by
    have h2 : n = (i + 1) + (n - (i + 1)) := by omega
    conv => lhs; rw [h2, List.range_add, List.range_succ]
    simp
  have h0 : (List.range i).find? f = none := List.find?_eq_none.mpr fun j hj => by rw [h j (List.mem_range.mp hj)]; decide
  rw [em, List.find?_append, h0, List.find?_cons, e]
  rfl
theorem alikeAll_ln : ∀ (a b : List PyData), (∀ x ∈ a, ∃ xs : List Int, x = intsD xs) → (∀ x ∈ b, ∃ xs : List Int, x = intsD xs) → PySem.W.alikeAll a b = true
  | [], _, _, _ => by simp [PySem.W.alikeAll]
  | _ :: _, [], _, _ => by simp [PySem.W.alikeAll]
  | x :: a, y :: b, h1, h2 => by
    obtain ⟨xs, rfl⟩ := h1 x (by simp)
    obtain ⟨ys, rfl⟩ := h2 y (by simp)
    simp only [PySem.W.alikeAll, alike_intsD, Bool.true_and]
    exact alikeAll_ln a b (fun z hz => h1 z (List.mem_cons_of_mem _ hz)) fun z hz => h2 z (List.mem_cons_of_mem _ hz)
theorem line_shape {m : Int} {d : PyData} (h : isLineD m d = true) : ∃ (b : List Int) (ps : List PyData), d = .tuple [intsD b, .tuple ps] ∧ ∀ x ∈ ps, ∃ xs : List Int, x = intsD xs := by
  unfold isLineD at h
  split at h
  · rename_i c ps
    simp only [Bool.and_eq_true, List.all_eq_true] at h
    obtain ⟨xs, rfl, _⟩ := entry_ints h.1.1
    refine ⟨xs, ps, rfl, fun x hx => ?_⟩
    obtain ⟨ys, h1, _⟩ := entry_ints (h.1.2.2 x hx).1
    exact ⟨ys, h1⟩
  · cases h
theorem line_alike {m : Int} {d e : PyData} (h1 : isLineD m d = true) (h2 : isLineD m e = true) : PySem.W.alike d e = true := by
  obtain ⟨b, ps, rfl, hp⟩ := line_shape h1
  obtain ⟨c, qs, rfl, hq⟩ := line_shape h2
  simp only [PySem.W.alike, PySem.W.alikeAll, alike_intsD, Bool.true_and, Bool.and_true]
  exact alikeAll_ln ps qs hp hq
theorem depthAll_ints : ∀ (ps : List PyData), (∀ x ∈ ps, ∃ xs : List Int, x = intsD xs) → PyData.depthAll ps ≤ 1
  | [], _ => by simp [PyData.depthAll]
  | x :: ps, h => by
    obtain ⟨xs, rfl⟩ := h x (by simp)
    have := depthAll_ints ps fun z hz => h z (List.mem_cons_of_mem _ hz)
    simp only [PyData.depthAll, depth_intsD]
    omega
theorem line_depth {m : Int} {d : PyData} (h : isLineD m d = true) : d.depth ≤ 3 := by
  obtain ⟨b, ps, rfl, hp⟩ := line_shape h
  have := depthAll_ints ps hp
  simp only [PyData.depth, PyData.depthAll, depth_intsD]
  omega
theorem ok_need_set (B : Bl mg) (C : CsL mg) (T : ErS P w K mg base BS TG BR BI) (F1 : Df P w K mg base CX0 1 "is_tuple_of" pr_is_tuple_of (spIsTupleOf K)) (F2 : Df P w K mg base CX0 2 "is_between" pr_is_between (spIsBetween K)) (F3 : Df P w K mg base CX0 5 "is_line" pr_is_line (spIsLine K)) (D : Dt K mg "need_set" s_need_set pr_need_set) : Df P w K mg base (L2.CX P w) 6 "need_set" pr_need_set (spNeedSet K BS TG) := by
  refine D.okX sc_need_set (fun vs H Q E h => ?_) (fun f cdv A outer s H vs Q E hr h => ?_)
  · obtain ⟨v, d, rfl, _⟩ := h
    rfl
  · obtain ⟨v, d, rfl, hd, k1, k2, k3⟩ := h
    refine ⟨_, (pss_cons (ps_if (PW.pt (pw_or (pt_not (pt_val (pe_f F1 (hr.mono (by decide)) pass0 (pa_cons (pv 0) (pa_cons pe_int pa_nil))))) (pw_or (pt_not (pt_val (pe_f F2 (hr.mono (by decide)) pass0 (pa_cons (pe_ix ix_tup (pv 0) pe_int (fun _ _ => rfl)) (pa_cons pe_int (pa_cons pe_int pa_nil)))))) (pw_or1 (pt_not (pt_val (pe_callB call_isi (by rfl) B.isinstance boot_isinstance (pa_cons (pe_ix ix_tup (pv 0) pe_int (fun _ _ => rfl)) (pa_cons (pe_bltn (v := .ty "tuple") (by rfl) B.tuple PyProof.Rows.boot_tuple rfl) pa_nil))))))))) (pss_one (ps_rz rfl T.BadSet (hr.mono (by decide)) (takes_of rfl rfl rfl rfl) (by rfl) pe_int)) pss_nil) (pss_cons (ps_asg (pv 0) (pg_tup rfl (pgs_cons (pg_name (i := 1) sc_need_set.nd rfl (Or.inl rfl)) (pgs_cons (pg_name (i := 2) sc_need_set.nd rfl (Or.inl rfl)) pgs_nil)))) (pss_cons (ps_if (pt_cmpR op_gt (pe_callB call_len_seq (by rfl) B.len PySem.boot_len (pa_cons (pv 2) pa_nil)) (pe_glob (v := .int 400) rfl C.MOST_LINES.choose_spec ⟨_, rfl⟩) (nomark _)) (pss_one (ps_rz rfl T.TooGreat (hr.mono (by decide)) (takes_of rfl rfl rfl rfl) (by rfl) (pe_glob (v := .int 400) rfl C.MOST_LINES.choose_spec ⟨_, rfl⟩))) pss_nil) (pss_cons (ps_for (passes_of rfl) rfl (pi_enumT (by rfl) B.enumerate (pa_cons (pv 2) pa_nil)) (pg_tup rfl (pgs_cons (pg_name (i := 3) sc_need_set.nd rfl (Or.inl rfl)) (pgs_cons (pg_name (i := 4) sc_need_set.nd rfl (Or.inl rfl)) pgs_nil))) (pss_one (ps_if (PW.pt (pw_or (pt_not (pt_val (pe_f F3 (hr.mono (by decide)) pass0 (pa_cons (pv 4) (pa_cons (pv 1) pa_nil))))) (pw_or1 (PW.pt (pw_and (pt_cmpR op_gt (pv 3) pe_int (nomark _)) (pw_and1 (pt_cmpR (op_leD (hu65 hr)) (pv 4) (pe_ix ix_tup (pv 2) (pe_op op_sub (pv 3) pe_int) (fun _ _ => rfl)) (nomark _)))))))) (pss_one (ps_rz rfl T.BadSet (hr.mono (by decide)) (takes_of rfl rfl rfl rfl) (by rfl) (pe_op op_add (pv 3) pe_int))) pss_nil))) (pss_one (ps_ret (pv 0))))))), ?_⟩
    walk_at "nf"
    walk_at "sx"
    have bad : ∀ (n : Nat), setF d = .bad n → ∀ {σ : L2.St} {H1 : Hp}, Same H H1 → rzQ BS "place" (fun cls d x H => E cls d H) σ (V.int (n : Nat)) H1 := fun n e _ _ s1 => rz_f (k2 n e) s1 (.int _)
    have great : setF d = .great → ∀ {σ : L2.St} {H1 : Hp}, Same H H1 → rzQ TG "most" (fun cls d x H => E cls d H) σ (V.int 400) H1 := fun e _ _ s1 => rz_f (k3 e) s1 (.int _)
    refine ⟨v, d, 2, rfl, hd, _, rfl, ?_⟩
    cases e0 : isTn d 2 with
    | false =>
      have ef : setF d = .bad 0 := by
        unfold setF
        split
        · simp [isTn] at e0
        · rfl
      exact iteT (bad 0 ef (Same.refl _))
    | true =>
      obtain ⟨ds, rfl, hl⟩ := isTn_tup e0
      match ds, hl with
      | [c, rows], _ =>
      obtain ⟨a, xs, rfl, hs, ha⟩ := hd.tup_inv
      obtain ⟨cv, rv, rfl, hc, hrw⟩ := ha.two
      refine iteF ⟨a, rfl, _, hs, _, rfl, cv, c, 1, 4, rfl, hc, _, rfl, ?_⟩
      cases e1 : isBt c 1 4 with
      | false =>
        have ef : setF (.tuple [c, rows]) = .bad 0 := by cases rows <;> simp [setF, e1]
        exact iteT (bad 0 ef (Same.refl _))
      | true =>
        refine iteF ⟨a, rfl, _, hs, _, rfl, isi_tuple hrw ⟨_, rfl, ?_⟩⟩
        cases rows with
        | tuple ds =>
          obtain ⟨b, zs, rfl, hs2, ha2⟩ := hrw.tup_inv
          have hl2 := ha2.length
          refine iteF ⟨a, rfl, _, hs, rfl, cv, _, rfl, _, _, rfl, rfl, b, rfl, zs, .inr hs2, ?_⟩
          obtain ⟨n, rfl⟩ : ∃ n, c = .int n := by
            cases c with
            | int n => exact ⟨n, rfl⟩
            | _ => cases e1
          have hc2 := hc.int_inv
          subst hc2
          have hn : 1 ≤ n ∧ n ≤ 4 := by simpa [isBt] using e1
          by_cases c12 : 400 < ds.length
          · rw [decide_eq_true (by rw [hl2]; omega)]
            have ef : setF (.tuple [.int n, .tuple ds]) = .great := by simp [setF, e1, c12]
            exact iteT (great ef (Same.refl _))
          · rw [decide_eq_false (by rw [hl2]; omega)]
            have ef : ∀ o, (List.range ds.length).find? (badAt n ds) = o → setF (.tuple [.int n, .tuple ds]) = match o with | some i => .bad (i + 1) | none => .ok := fun o e => by
              show (if isBt (.int n) 1 4 = true then (if 400 < ds.length then SF.great else match (List.range ds.length).find? (badAt n ds) with | some i => SF.bad (i + 1) | none => SF.ok) else SF.bad 0) = _
              rw [if_pos e1, if_neg c12, e]
            refine iteF ⟨_, rfl, b, zs, rfl, hs2, for_it (walk_enumT (xs := zs)) (fun i σ H' => Same H H' ∧ (∃ v4 v5, σ = [some (.ref a), some (.int n), some (.ref b), v4, v5]) ∧ ∀ j, j < i → badAt n ds j = false) ⟨Same.refl _, ⟨_, _, rfl⟩, fun j hj => by omega⟩ (fun i σ H' _ p => p.1.seqT hs2) (fun i x σ H1 H2 hi p y => ?_) (fun σ H1 p => ?_)⟩
            · obtain ⟨s1, ⟨v4, v5, rfl⟩, fb⟩ := p
              obtain ⟨T, x1, x2, rfl, hT, rfl, h1, h2⟩ := y
              obtain rfl : V.int (i : Nat) = x1 := Option.some.inj h1
              obtain ⟨d2, hd1, hd2⟩ := ha2.getV h2
              have s2 : Same H1 (upd H1 T (.tup [V.int (i : Nat), x2])) := Same.new hT
              have hi2 : i < ds.length := by rw [← hl2]; exact hi
              have ed2 : ds.getD i .none = d2 := by simp [hd1]
              walk_at "nf"
              refine ⟨T, _, rfl, .of upd_same, rfl, ?_⟩
              walk_at "sx"
              refine ⟨x2, d2, n, rfl, (hd2.to s1).to s2, by omega, fun H3 s3 => ⟨_, rfl, ?_⟩⟩
              have s4 := (s1.trans s2).trans s3
              have hit : badAt n ds i = true → setF (.tuple [.int n, .tuple ds]) = .bad (i + 1) := fun e => ef _ (find_first hi2 fb e)
              cases e5 : isLineD n d2 with
              | false =>
                refine iteT ?_
                have := bad (i + 1) (hit (by unfold badAt; rw [ed2, e5]; rfl)) (σ := [some (V.ref a), some (V.int n), some (V.ref b), some (V.int (i : Nat)), some x2]) s4
                exact this
              | true =>
                refine iteF ?_
                have next : badAt n ds i = false → ∀ j, j < i + 1 → badAt n ds j = false := fun e j hj => by
                  by_cases z : j = i
                  · rw [z]; exact e
                  · exact fb j (by omega)
                by_cases c0 : 0 < i
                · rw [decide_eq_true (by omega)]
                  obtain ⟨y1, hy1, hy2, hy3⟩ := ha2.at_ (show i - 1 < ds.length by omega)
                  have pl : isLineD n (ds.getD (i - 1) .none) = true := by
                    have := fb (i - 1) (by omega)
                    unfold badAt at this
                    simp only [Bool.or_eq_false_iff, Bool.not_eq_false'] at this
                    exact this.1
                  have eb : badAt n ds i = !PySem.W.dataLt (ds.getD (i - 1) .none) d2 := by
                    unfold badAt
                    rw [ed2, e5, decide_eq_true c0]
                    rfl
                  refine iteT ⟨_, s4.seqT hs2, y1, by rw [show ((i : Int) - 1) = ((i - 1 : Nat) : Int) by omega]; exact hy2, d2, ds.getD (i - 1) .none, ((hd2.to s1).to s2).to s3, hy3.to s4, line_alike e5 pl, (fun z => by subst z; cases e5), by have := line_depth e5; omega, _, rfl, ?_⟩
                  cases e6 : PySem.W.dataLt (ds.getD (i - 1) .none) d2 with
                  | false => exact iteT (bad (i + 1) (hit (by rw [eb, e6]; rfl)) s4)
                  | true => exact iteF ⟨s4, ⟨_, rfl⟩, next (by rw [eb, e6]; rfl)⟩
                · rw [decide_eq_false (by omega)]
                  exact iteF ⟨s4, ⟨_, rfl⟩, next (by unfold badAt; rw [ed2, e5, decide_eq_false c0]; rfl)⟩
            · obtain ⟨s1, ⟨v4, v5, rfl⟩, fb⟩ := p
              walk_at "nf"
              refine ⟨_, rfl, k1 (ef none (badL_none fun i hi => fb i (by rw [hl2]; exact hi))) _ s1⟩
        | _ => exact iteT (bad 0 (by simp [setF, e1]) (Same.refl _))
theorem ok_need_row (B : Bl mg) (T : ErS P w K mg base BS TG BR BI) (F1 : Df P w K mg base CX0 4 "is_row" pr_is_row (spIsRow K)) (D : Dt K mg "need_row_of" s_need_row_of pr_need_row_of) : Df P w K mg base (L2.CX P w) 5 "need_row_of" pr_need_row_of (spNeedRow K BR) := by
  refine D.okX sc_need_row_of (fun vs H Q E h => ?_) (fun f cdv A outer s H vs Q E hr h => ?_)
  · obtain ⟨v, rv, lv, p, m, d, rfl, _⟩ := h
    rfl
  · obtain ⟨v, rv, lv, p, m, d, rfl, hp, hm, hd, k1, k2⟩ := h
    refine ⟨_, (pss_one (ps_if (pt_not (pt_val (pe_f F1 (hr.mono (by decide)) pass0 (pa_cons (pv 1) (pa_cons (pe_ix ix_tup (pv 0) pe_int (fun _ _ => rfl)) pa_nil))))) (pss_one (ps_rz rfl T.BadRow (hr.mono (by decide)) (takes_of rfl rfl rfl rfl) (by rfl) (pv 1))) pss_nil)), ?_⟩
    walk_at "nf"
    walk_at "sx"
    refine ⟨_, hp, _, rfl, rv, d, m, rfl, hd, by omega, fun H1 e1 => ⟨_, rfl, ?_⟩⟩
    cases e : rowOk m d with
    | true =>
      have e' : (isTn d m && areB d 0 (10 ^ 60)) = true := e
      rw [e']
      exact iteF (k1 e _ e1)
    | false =>
      have e' : (isTn d m && areB d 0 (10 ^ 60)) = false := e
      rw [e']
      exact iteT (rz_f (k2 e) e1 (hd.to e1))
theorem ok_is_weights (B : Bl mg) (F1 : Df P w K mg base CX0 1 "is_tuple_of" pr_is_tuple_of (spIsTupleOf K)) (F2 : Df P w K mg base CX0 1 "is_integer" pr_is_integer (spIsInteger K)) (D : Dt K mg "is_weights" s_is_weights pr_is_weights) : Df P w K mg base CX0 2 "is_weights" pr_is_weights (spIsW K) := by
  refine D.ok sc_is_weights (fun vs H Q E h => ?_) (fun f cdv A outer s H vs Q E hr h => ?_)
  · obtain ⟨v, d, n, rfl, _⟩ := h
    rfl
  · obtain ⟨v, d, n, rfl, hd, hn, k⟩ := h
    refine ⟨_, (pss_one (ps_ret (pe_and (pe_f F1 (hr.mono (by decide)) pass0 (pa_cons (pv 0) (pa_cons (pv 1) pa_nil))) (pe_one (pe_callB (cr_all rfl) (by rfl) B.all boot_all (pa_cons (pe_lc (own := [("weight", 2)]) (g := gName 2) (tt := tYes) (by rfl) sc_is_weights.nd (pi_tup (pv 0)) (blkOk_by (own := [("weight", 2)]) (N := nm_is_weights) (sc := defScope s_is_weights) (by decide +kernel)) (fun _ _ _ _ _ => pg_name (i := 2) sc_is_weights.nd rfl (Or.inl rfl)) (fun _ _ _ _ _ => pts_nil) (fun _ _ _ _ _ => (pe_f F2 (hr.mono (by decide)) pass0 (pa_cons (pv 2) pa_nil)))) pa_nil)))))), ?_⟩
    walk_at "nf"
    walk_at "sx"
    refine ⟨v, d, n, rfl, hd, _, rfl, ?_⟩
    cases e0 : isTn d n with
    | false =>
      have ef : isWD n d = false := by
        cases d with
        | tuple ds =>
          have : ¬ ((ds.length : Int) = n) := by simpa [isTn] using e0
          simp [isWD, this]
        | _ => rfl
      rw [ef] at k
      exact iteF (k _ (Same.refl _))
    | true =>
      obtain ⟨ds, rfl, hl⟩ := isTn_tup e0
      obtain ⟨b, zs, rfl, hz, hza⟩ := hd.tup_inv
      have hzl := hza.length
      refine iteT ⟨_, rfl, b, rfl, ⟨zs, hz⟩, fun D hD => lcS (walk_tup (K := K) (a := b) (xs := zs)) hD (slt (by omega)) (fun i y => y = .bl (isI (ds.getD i .none))) (fun H e => e.seqT hz) (fun i x H2 H3 Q1 hi e y q1 => ?_) (fun H2 ys e hy hn2 hr2 => ?_)⟩
      · obtain ⟨rfl, hx⟩ := y
        obtain ⟨d, hd1, hd2⟩ := hza.getV hx
        have ed : ds.getD i .none = d := by simp [hd1]
        rw [ed] at q1
        walk_at "nf"
        walk_at "sx"
        exact ⟨x, d, rfl, hd2.to e, q1 _ _ rfl (Same.refl _)⟩
      · have ev := vals_bl (f := fun i => isI (ds.getD i .none)) hn2 hr2
        rw [hzl] at ev
        have e6 : (List.range ds.length).map (fun i => isI (ds.getD i .none)) = ds.map isI := by_places ds .none isI
        rw [e6] at ev
        subst ev
        have ef : isWD n (.tuple ds) = (ds.map isI).all id := by
          show (decide ((ds.length : Int) = n) && ds.all isI) = _
          rw [decide_eq_true hl, Bool.true_and, List.all_map]
          rfl
        rw [ef] at k
        exact ⟨D, _, rfl, .of hy, k _ e⟩
end
end Ws
/-! ## P27i -/
namespace Ws
open PySem PySem.Spec PyProof.Rows L2 RZ
local macro_rules | `(tactic| walk_at "nf") => `(tactic| dsimp only [tNext, tSeq, tDrop, tRet, tRetN, tIfS, tAsg, gName, gTup, gCons, gNil, tVar, tC, tOp, tUn, rI, rI0, rU, rEq, rNe, tTest, tChain, tAnd, tOr, tNot, tAndV, tOrV, tNotV, tIf, tCB, tCKw, tCons, tNil, tTup, tLst, tCa, tCallS, tB, rIxT, rIxL, rIxS, cxOf, Cx.nox, Cx.wish, Cx.blk, L2.start, tPar, tPar3, tNever, tYes, tBits, tRz, tBM, rAppend, tyV, tXf, suiteEnds, gSub, rSetL, tBreak, rMax, tDGet, sDPut, tSl, tNoPart, tPart, tDisp, tPairs, tDGet2, tDNewK, tAugS, ipI, rGetL, tDIn, tDNotIn, tBM0, rPop])
local macro_rules | `(tactic| walk_at "sx") => `(tactic| simp only [wipe, List.cons.injEq, and_assoc, exists_and_left, and_true, List.map_cons, List.map_nil, List.length_cons, List.length_nil, List.cons_append, List.nil_append, List.append_nil, Nat.reduceAdd, Nat.reduceSub, List.replicate, List.getElem?_cons_zero, List.getElem?_cons_succ, List.set_cons_zero, List.set_cons_succ, Option.some.injEq, V.int.injEq, V.bl.injEq, V.ref.injEq, V.str.injEq, exists_eq_left', exists_eq_left, true_and, Bool.true_eq_false, Bool.false_eq_true, if_true, if_false])

def sqAtL (m : Nat) (ls : List Ln) (i : Nat) : Option Sq.Sqr := Sq.sqOf m (ls.getD i ([], [])).2
def tiedAt (m : Nat) (ls : List Ln) : Option Nat := (List.range ls.length).find? fun i => (sqAtL m ls i).isNone
def sqsD (m : Nat) (ls : List Ln) : PyData := .list ((List.range ls.length).map fun i => sqD (sqAtL m ls i))
def spNeedFree (K : PySem.W.Frag) (BS TG : Addr) : Sp := fun vs H Q E => ∃ (v : V) (d : PyData), vs = [v] ∧ Dp K H v d ∧ ((∃ n : Nat, setF d = .bad n ∧ OutF K BS "place" (.int (n : Nat)) H E) ∨
  ∃ m ls, d = setD m ls ∧ SetOk m ls ∧ (∀ i : Nat, tiedAt m ls = some i → OutF K BS "place" (.int ((i + 1 : Nat) : Int)) H E) ∧ (tiedAt m ls = none → ∀ H' u, Same H H' → Dp K H' u (sqsD m ls) → Q u H'))
abbrev s_need_free : Stmt := top 33
abbrev nm_need_free : List Str := ["value", "squares", "at", "square", "_", "periods"]
abbrev pr_need_free : List Str := ["value"]
theorem sc_need_free : FnScope nm_need_free pr_need_free (defScope s_need_free) := ⟨rfl, rfl, rfl, by decide +kernel, rfl, by decide +kernel, by decide +kernel⟩
section
variable {K : PySem.W.Frag} {H : Hp} {v : V}
theorem set_v {m : Nat} {ls : List Ln} (h : Dp K H v (setD m ls)) : ∃ p u, v = .ref p ∧ SqT K H p [.int (m : Nat), u] ∧ Dp K H u (.tuple (ls.map lineD)) := by
  obtain ⟨p, xs, rfl, hs, ha⟩ := h.tup_inv
  obtain ⟨x, y, rfl, h1, h2⟩ := ha.two
  cases h1
  exact ⟨p, y, rfl, hs, h2⟩
end
section
variable {P : Program} {w : World} {K : PySem.W.Frag} {mg : Str → Option Value} {base : Heap} {BS TG BR BI : Addr}
theorem ok_need_free (B : Bl mg) (T : ErS P w K mg base BS TG BR BI) (F1 : Df P w K mg base (L2.CX P w) 6 "need_set" pr_need_set (spNeedSet K BS TG)) (F2 : Df P w K mg base CX0 9 "square_of" pr_square_of (spSq K)) (D : Dt K mg "need_free" s_need_free pr_need_free) : Df P w K mg base (L2.CX P w) 10 "need_free" pr_need_free (spNeedFree K BS TG) := by
  refine D.okX sc_need_free (fun vs H Q E h => ?_) (fun f cdv A outer s H vs Q E hr h => ?_)
  · obtain ⟨v, d, rfl, _⟩ := h
    rfl
  · obtain ⟨v, d, rfl, hd, k⟩ := h
    refine ⟨_, (pss_cons (ps_expr (pe_f (E := E) F1 (hr.mono (by decide)) (passes_call (takes_of rfl rfl rfl rfl) fun _ _ _ _ h => h) (pa_cons (pv 0) pa_nil))) (pss_cons (ps_setLc (i := 1) (own := [("_", 4), ("periods", 5)]) (g := gTup K 2 (gCons (gName 4) (gCons (gName 5) gNil))) (tt := tYes) (te := tCa (spSq K) E0 (tCons (tOp (rIxT K) (tVar 0) (tC (V.int 0))) (tCons (tVar 5) tNil))) rfl sc_need_free.nd rfl rfl (sw_true rfl rfl rfl (by decide +kernel)) (pi_tup (pe_ix ix_tup (pv 0) pe_int (fun _ _ => rfl))) (blkOk_by (own := [("_", 4), ("periods", 5)]) (N := nm_need_free) (sc := defScope s_need_free) (by decide +kernel)) (fun _ _ _ _ _ => pg_tup rfl (pgs_cons (pg_name (i := 4) sc_need_free.nd rfl (Or.inl rfl)) (pgs_cons (pg_name (i := 5) sc_need_free.nd rfl (Or.inl rfl)) pgs_nil))) (fun _ _ _ _ _ => pts_nil) (fun _ _ _ _ _ => (pe_f F2 (hr.mono (by decide)) pass0 (pa_cons (pe_ix ix_tup (pv 0) pe_int (fun _ _ => rfl)) (pa_cons (pv 5) pa_nil))))) (pss_cons (ps_for (passes_of rfl) rfl (pi_enum (by rfl) B.enumerate (pa_cons (pv 1) pa_nil)) (pg_tup rfl (pgs_cons (pg_name (i := 2) sc_need_free.nd rfl (Or.inl rfl)) (pgs_cons (pg_name (i := 3) sc_need_free.nd rfl (Or.inl rfl)) pgs_nil))) (pss_one (ps_if (pt_cmpR op_isN (pv 3) pe_non (nomark _)) (pss_one (ps_rz rfl T.BadSet (hr.mono (by decide)) (takes_of rfl rfl rfl rfl) (by rfl) (pe_op op_add (pv 2) pe_int))) pss_nil))) (pss_one (ps_ret (pv 1)))))), ?_⟩
    walk_at "nf"
    walk_at "sx"
    rcases k with ⟨n, e, ko⟩ | ⟨m, ls, rfl, o, k1, k2⟩
    · exact ⟨v, d, rfl, hd, fun z => (by rw [e] at z; cases z), fun n' e' => (by rw [e] at e'; cases e'; exact ko), fun z => (by rw [e] at z; cases z)⟩
    · obtain ⟨a, u, rfl, hs, hu⟩ := set_v hd
      obtain ⟨b, zs, rfl, hz, hzl, hzat, _⟩ := tup_view hu
      refine ⟨_, _, rfl, hd, fun _ H1 e1 => ?_, fun n' e' => (by rw [o.ok] at e'; cases e'), fun z => (by rw [o.ok] at z; cases z)⟩
      have hz1 := e1.seqT hz
      have hs1 := e1.seqT hs
      refine ⟨_, rfl, a, _, 1, _, rfl, rfl, hs1, rfl, b, rfl, ⟨zs, hz1⟩, fun D hD => lcL (K := K) (walk_tup (K := K) (a := b) (xs := zs)) hD (by rw [hzl]; exact slt (by have := o.few; omega)) (fun i => sqD (sqAtL m ls i)) (fun H e => e.seqT hz1) (fun i x H2 H3 Q1 hi e hDn y q1 => ?_) (fun H2 ys e hy hn2 ha => ?_)⟩
      · obtain ⟨rfl, hx⟩ := y
        obtain ⟨l, hl, hdl⟩ := hzat i x hx
        obtain ⟨lb, lp⟩ := l
        obtain ⟨p, b1, u1, rfl, hp, hb1, hu1⟩ := ln_v ((hdl.to e1).to e)
        have lo := o.lo _ (List.mem_of_getElem? hl)
        have esq : sqAtL m ls i = Sq.sqOf m lp := by unfold sqAtL; rw [List.getD_eq_getElem?_getD, hl]; rfl
        rw [esq] at q1
        walk_at "nf"
        walk_at "sx"
        exact ⟨_, hp, rfl, _, _, rfl, _, _, rfl, rfl, _, (e1.trans e).seqT hs, _, rfl, lp.length, m, u1, lp, rfl, hu1, lo.po, lo.n3, lo.m4, fun H4 w4 e4 hw4 => q1 _ _ e4 hw4⟩
      · have hD2 : SqL K H2 D ys := .of hy
        rw [hzl] at ha hn2
        have s12 := e1.trans e
        refine ⟨_, rfl, D, ys, rfl, hD2, for_it (walk_enum (K := K) (a := D) (xs := ys)) (fun i σ H' => Same H2 H' ∧ (∃ v2 v3, σ = [some (V.ref a), some (V.ref D), v2, v3, none, none]) ∧ ∀ j, j < i → (sqAtL m ls j).isNone = false) ⟨Same.refl _, ⟨_, _, rfl⟩, fun j hj => by omega⟩ (fun i σ H' _ p => p.1.seq hD2) (fun i x σ H3 H4 hi py y => ?_) (fun σ H3 py => ?_)⟩
        · obtain ⟨s3, ⟨v2, v3, rfl⟩, fb⟩ := py
          obtain ⟨T, x1, x2, rfl, hT, rfl, g1, g2⟩ := y
          obtain rfl : V.int (i : Nat) = x1 := Option.some.inj g1
          have e2 := Same.new (o := HO.tup [V.int (i : Nat), x2]) hT
          have hi2 : i < ls.length := by omega
          obtain ⟨d2, hd1, hd2⟩ := ha.getV g2
          rw [List.getElem?_map, List.getElem?_range hi2] at hd1
          obtain rfl := Option.some.inj hd1
          have s23 := (s12.trans s3).trans e2
          dsimp only at hd2
          walk_at "nf"
          refine ⟨T, _, rfl, .of upd_same, rfl, ?_⟩
          walk_at "sx"
          cases e5 : sqAtL m ls i with
          | none =>
            rw [e5] at hd2
            cases hd2
            rw [decide_eq_true rfl]
            have := rz_f (σ := [some (V.ref a), some (V.ref D), some (V.int (i : Nat)), some V.non, none, none]) (k1 i (find_first hi2 fb (by rw [e5]; rfl))) s23 (.int ((i + 1 : Nat) : Int))
            exact iteT this
          | some q =>
            rw [e5] at hd2
            obtain ⟨c, u1, u2, rfl, _⟩ := sq_v hd2
            rw [decide_eq_false (fun z => by cases z)]
            refine iteF ⟨s3.trans e2, ⟨_, rfl⟩, fun j hj => ?_⟩
            by_cases z : j = i
            · rw [z, e5]; rfl
            · exact fb j (by omega)
        · obtain ⟨s3, ⟨v2, v3, rfl⟩, fb⟩ := py
          refine ⟨_, rfl, k2 (List.find?_eq_none.mpr fun j hj => ?_) _ _ (s12.trans s3) (.lst (s3.seq hD2) (DpAll.to ha s3))⟩
          rw [fb j (by rw [hn2]; exact List.mem_range.mp hj)]
          decide
end
end Ws
/-! ## P27j -/
namespace Ws
open PySem PySem.Spec PyProof.Rows L2 RZ
local macro_rules | `(tactic| walk_at "nf") => `(tactic| dsimp only [tNext, tSeq, tDrop, tRet, tRetN, tIfS, tAsg, gName, gTup, gCons, gNil, tVar, tC, tOp, tUn, rI, rI0, rU, rEq, rNe, tTest, tChain, tAnd, tOr, tNot, tAndV, tOrV, tNotV, tIf, tCB, tCKw, tCons, tNil, tTup, tLst, tCa, tCallS, tB, rIxT, rIxL, rIxS, cxOf, Cx.nox, Cx.wish, Cx.blk, L2.start, tPar, tPar3, tNever, tYes, tBits, tRz, tBM, rAppend, tyV, tXf, suiteEnds, gSub, rSetL, tBreak, rMax, tDGet, sDPut, tSl, tNoPart, tPart, tDisp, tPairs, tDGet2, tDNewK, tAugS, ipI, rGetL, tDIn, tDNotIn, tBM0, rPop])
local macro_rules | `(tactic| walk_at "sx") => `(tactic| simp only [wipe, List.cons.injEq, and_assoc, exists_and_left, and_true, List.map_cons, List.map_nil, List.length_cons, List.length_nil, List.cons_append, List.nil_append, List.append_nil, Nat.reduceAdd, Nat.reduceSub, List.replicate, List.getElem?_cons_zero, List.getElem?_cons_succ, List.set_cons_zero, List.set_cons_succ, Option.some.injEq, V.int.injEq, V.bl.injEq, V.ref.injEq, V.str.injEq, exists_eq_left', exists_eq_left, true_and, Bool.true_eq_false, Bool.false_eq_true, if_true, if_false])

def lnAt (ls : List Ln) (i : Nat) : Ln := ls.getD i ([], [])
def turnsAt (m : Nat) (ls : List Ln) (row : Sq.Row) (i : Nat) : Option (Nat × List Int) := (sqAtL m ls i).bind fun q => (Sq.turnsOf (lnAt ls i).1 (lnAt ls i).2 q row).map fun t => (i, t)
def turnsSet (m : Nat) (ls : List Ln) (row : Sq.Row) : Option (Nat × List Int) := (List.range ls.length).findSome? (turnsAt m ls row)
def turnsD : Option (Nat × List Int) → PyData
  | none => .none
  | some (i, t) => .tuple [.int (i : Nat), intsD t]
def barAt (m : Nat) (ls : List Ln) (row : Sq.Row) (i : Nat) : Option Sq.Bar := (sqAtL m ls i).bind fun q => Sq.barOf m (lnAt ls i).1 (lnAt ls i).2 q row
def barsSet (m : Nat) (ls : List Ln) (row : Sq.Row) : List (Option Sq.Bar) := (List.range ls.length).map (barAt m ls row)
def barsD (bs : List (Option Sq.Bar)) : PyData := if bs.any (·.isNone) then .none else .tuple (bs.map barD)
structure RowS (m : Nat) (row : Sq.Row) : Prop where
  len : row.length = m
  bd : ∀ x ∈ row, 0 ≤ x ∧ x ≤ 1000
theorem rowOk_small {m : Nat} {row : Sq.Row} (h : RowS m row) : rowOk m (intsD row) = true := by
  unfold rowOk
  rw [Bool.and_eq_true]
  refine ⟨by simp [isTn, intsD, h.len], ?_⟩
  simp only [areB, intsD, List.all_eq_true]
  intro x hx
  obtain ⟨i, hi, rfl⟩ := List.mem_map.mp hx
  have := h.bd i hi
  simp only [isBt, Bool.and_eq_true, decide_eq_true_eq]
  omega
theorem RowS.na {m : Nat} {row : Sq.Row} (h : RowS m row) : ∀ x ∈ row, x.natAbs ≤ 1000 := fun x hx => by have := h.bd x hx; omega
/-- what turns, bars ask and tell: F of the row if all lines are free -/
def spFree (K : PySem.W.Frag) (BS BR : Addr) (F : Nat → List Ln → Sq.Row → PyData) : Sp := fun vs H Q E => ∃ (v rv : V) (d rd : PyData), vs = [v, rv] ∧ Dp K H v d ∧ Dp K H rv rd ∧ ((∃ n : Nat, setF d = .bad n ∧ OutF K BS "place" (.int (n : Nat)) H E) ∨
  ∃ m ls, d = setD m ls ∧ SetOk m ls ∧ (∀ i : Nat, tiedAt m ls = some i → OutF K BS "place" (.int ((i + 1 : Nat) : Int)) H E) ∧ (tiedAt m ls = none → (rowOk m rd = false → OutF K BR "value" rd H E) ∧ (rowOk m rd = true → ∃ row, rd = intsD row ∧ RowS m row ∧ ∀ H' u, Same H H' → Dp K H' u (F m ls row) → Q u H')))
abbrev s_turns : Stmt := top 34
abbrev nm_turns : List Str := ["value", "row", "squares", "at", "square", "turned"]
abbrev pr_turns : List Str := ["value", "row"]
theorem sc_turns : FnScope nm_turns pr_turns (defScope s_turns) := ⟨rfl, rfl, rfl, by decide +kernel, rfl, by decide +kernel, by decide +kernel⟩
abbrev s_bars : Stmt := top 35
abbrev nm_bars : List Str := ["value", "row", "squares", "found", "line", "square", "bar"]
abbrev pr_bars : List Str := ["value", "row"]
theorem sc_bars : FnScope nm_bars pr_bars (defScope s_bars) := ⟨rfl, rfl, rfl, by decide +kernel, rfl, by decide +kernel, by decide +kernel⟩
section
variable {P : Program} {w : World} {K : PySem.W.Frag} {mg : Str → Option Value} {base : Heap} {BS TG BR BI : Addr}
theorem OutF.to' {C : Addr} {f : Str} {d : PyData} {H H1 : Hp} {E : XK} (h : OutF K C f d H E) (e : Same H H1) : OutF K C f d H1 E := h.to e
theorem noList_bar : ∀ b : Option Sq.Bar, noList (barD b) = true
  | none => rfl
  | some (.apart w) => by
    show (true && (noList (intsD w) && true)) = true
    rw [noList_ints]
    rfl
  | some (.less w) => by
    show (true && (noList (intsD w) && true)) = true
    rw [noList_ints]
    rfl
  | some (.rest m w) => by
    show (true && (true && (noList (intsD w) && true))) = true
    rw [noList_ints]
    rfl
theorem free_some {m : Nat} {ls : List Ln} (h : tiedAt m ls = none) {i : Nat} (hi : i < ls.length) : ∃ q, sqAtL m ls i = some q := by
  have := List.find?_eq_none.mp h i (List.mem_range.mpr hi)
  cases e : sqAtL m ls i with
  | none => rw [e] at this; exact absurd rfl this
  | some q => exact ⟨q, rfl⟩
theorem ok_turns (B : Bl mg) (F1 : Df P w K mg base (L2.CX P w) 10 "need_free" pr_need_free (spNeedFree K BS TG)) (F2 : Df P w K mg base (L2.CX P w) 5 "need_row_of" pr_need_row_of (spNeedRow K BR)) (F3 : Df P w K mg base CX0 3 "turns_of" pr_turns_of (spTurnsOf K)) (D : Dt K mg "turns" s_turns pr_turns) :
    Df P w K mg base (L2.CX P w) 11 "turns" pr_turns (spFree K BS BR fun m ls row => turnsD (turnsSet m ls row)) := by
  refine D.okX sc_turns (fun vs H Q E h => ?_) (fun f cdv A outer s H vs Q E hr h => ?_)
  · obtain ⟨v, rv, d, rd, rfl, _⟩ := h
    rfl
  · obtain ⟨v, rv, d, rd, rfl, hd, hrv, k⟩ := h
    refine ⟨_, (pss_cons (ps_set (i := 2) sc_turns.nd rfl (Or.inl rfl) (pe_f (E := E) F1 (hr.mono (by decide)) (passes_call (takes_of rfl rfl rfl rfl) fun _ _ _ _ h => h) (pa_cons (pv 0) pa_nil))) (pss_cons (ps_expr (pe_f (E := E) F2 (hr.mono (by decide)) (passes_call (takes_of rfl rfl rfl rfl) fun _ _ _ _ h => h) (pa_cons (pv 0) (pa_cons (pv 1) pa_nil)))) (pss_cons (ps_for (passes_of rfl) rfl (pi_enum (by rfl) B.enumerate (pa_cons (pv 2) pa_nil)) (pg_tup rfl (pgs_cons (pg_name (i := 3) sc_turns.nd rfl (Or.inl rfl)) (pgs_cons (pg_name (i := 4) sc_turns.nd rfl (Or.inl rfl)) pgs_nil))) (pss_cons (ps_set (i := 5) sc_turns.nd rfl (Or.inl rfl) (pe_f F3 (hr.mono (by decide)) pass0 (pa_cons (pe_ix ix_tup (pe_ix ix_tup (pv 0) pe_int (fun _ _ => rfl)) (pv 3) (fun _ _ => rfl)) (pa_cons (pv 4) (pa_cons (pv 1) pa_nil))))) (pss_one (ps_if (pt_cmpR op_notN (pv 5) pe_non (nomark _)) (pss_one (ps_ret (pe_tup (pa_cons (pv 3) (pa_cons (pv 5) pa_nil))))) pss_nil)))) (pss_one (ps_ret pe_non))))), ?_⟩
    walk_at "nf"
    walk_at "sx"
    rcases k with ⟨n, e, ko⟩ | ⟨m, ls, rfl, o, k1, k2⟩
    · exact ⟨v, d, rfl, hd, .inl ⟨n, e, ko⟩⟩
    · obtain ⟨a, u, rfl, hs, hu⟩ := set_v hd
      obtain ⟨b, zs, rfl, hz, hzl, hzat, _⟩ := tup_view hu
      refine ⟨_, _, rfl, hd, .inr ⟨m, ls, rfl, o, k1, fun hfree H1 sq e1 hsq => ?_⟩⟩
      obtain ⟨k3, k4⟩ := k2 hfree
      refine ⟨.non, rv, .ref b, a, m, rd, rfl, e1.seqT hs, o.m4, hrv.to e1, fun hok H2 e2 => ?_, fun hno => (k3 hno).to e1⟩
      obtain ⟨row, rfl, rs, kq⟩ := k4 hok
      have s12 := e1.trans e2
      obtain ⟨D, ys, rfl, hD, hn2, hyat, _⟩ := lst_view (f := fun i => sqD (sqAtL m ls i)) (xs := List.range ls.length) (hsq.to e2)
      rw [List.length_range] at hn2
      refine ⟨_, rfl, D, ys, rfl, hD, for_it (walk_enum (K := K) (a := D) (xs := ys)) (fun i σ H' => Same H2 H' ∧ (∃ v3 v4 v5, σ = [some (V.ref a), some rv, some (V.ref D), v3, v4, v5]) ∧ (List.range i).findSome? (turnsAt m ls row) = none) ⟨Same.refl _, ⟨_, _, _, rfl⟩, rfl⟩ (fun i σ H' _ p => p.1.seq hD) (fun i x σ H3 H4 hi py y => ?_) (fun σ H3 py => ?_)⟩
      · obtain ⟨s3, ⟨v3, v4, v5, rfl⟩, fb⟩ := py
        obtain ⟨T, x1, x2, rfl, hT, rfl, g1, g2⟩ := y
        obtain rfl : V.int (i : Nat) = x1 := Option.some.inj g1
        have e2 := Same.new (o := HO.tup [V.int (i : Nat), x2]) hT
        have hi2 : i < ls.length := by omega
        obtain ⟨j, hj, hdq⟩ := hyat i x2 g2
        rw [List.getElem?_range hi2] at hj
        obtain rfl := Option.some.inj hj
        obtain ⟨q, eq⟩ := free_some hfree hi2
        rw [eq] at hdq
        have s23 := (s12.trans s3).trans e2
        have hl : ls[i]? = some (lnAt ls i) := by unfold lnAt; rw [List.getD_eq_getElem?_getD, List.getElem?_eq_getElem hi2]; rfl
        obtain ⟨z, hz1⟩ : ∃ z, zs[i]? = some z := ⟨_, List.getElem?_eq_getElem (by omega)⟩
        obtain ⟨l, hl2, hdl⟩ := hzat i z hz1
        rw [hl] at hl2
        obtain rfl := Option.some.inj hl2
        have lo := o.lo _ (List.mem_of_getElem? hl)
        have qb := Sq.qb_of (show Sq.sqOf m (lnAt ls i).2 = some q from eq) lo.pb (by have := lo.n3; omega)
        have et : turnsAt m ls row i = (Sq.turnsOf (lnAt ls i).1 (lnAt ls i).2 q row).map fun t => (i, t) := by unfold turnsAt; rw [eq]; rfl
        walk_at "nf"
        refine ⟨T, _, rfl, .of upd_same, rfl, ?_⟩
        walk_at "sx"
        refine ⟨_, s23.seqT hs, .ref b, rfl, b, rfl, _, s23.seqT hz, z, atI_nat hz1, z, x2, rv, m, _, (lnAt ls i).1, (lnAt ls i).2, q, row, rfl, hdl.to s23, (hdq.to s3).to e2, hrv.to s23, lo, qb, rs.len, rs.na, fun H5 u5 e5 hu5 => ?_⟩
        cases e6 : Sq.turnsOf (lnAt ls i).1 (lnAt ls i).2 q row with
        | none =>
          rw [e6] at hu5 et
          cases hu5
          rw [decide_eq_true rfl]
          refine iteF ⟨s3.trans (e2.trans e5), ⟨_, rfl⟩, ?_⟩
          rw [range_find _ _ fb, et]
          rfl
        | some t =>
          rw [e6] at hu5 et
          obtain ⟨c, rfl, hc⟩ := hu5.ints_tup
          rw [decide_eq_false (fun z => by cases z)]
          refine iteT ⟨(by show 2 ≤ sizeLine; decide), fun p hp => kq _ _ ((s23.trans e5).then_new hp) ?_⟩
          show Dp K _ _ (turnsD (turnsSet m ls row))
          unfold turnsSet
          rw [find_hit _ i _ hi2 fb et]
          exact .tup (.of upd_same) (.cons (.int _) (.cons (hu5.to (Same.new hp)) .nil))
      · obtain ⟨s3, ⟨v3, v4, v5, rfl⟩, fb⟩ := py
        rw [hn2] at fb
        have := kq H3 .non (s12.trans s3) (by show Dp K H3 _ (turnsD (turnsSet m ls row)); unfold turnsSet; rw [fb]; exact .non)
        exact this
theorem ok_bars (B : Bl mg) (F1 : Df P w K mg base (L2.CX P w) 10 "need_free" pr_need_free (spNeedFree K BS TG)) (F2 : Df P w K mg base (L2.CX P w) 5 "need_row_of" pr_need_row_of (spNeedRow K BR)) (F3 : Df P w K mg base CX0 3 "bar_of" pr_bar_of (spBarOf K)) (D : Dt K mg "bars" s_bars pr_bars) :
    Df P w K mg base (L2.CX P w) 11 "bars" pr_bars (spFree K BS BR fun m ls row => barsD (barsSet m ls row)) := by
  refine D.okX sc_bars (fun vs H Q E h => ?_) (fun f cdv A outer s H vs Q E hr h => ?_)
  · obtain ⟨v, rv, d, rd, rfl, _⟩ := h
    rfl
  · obtain ⟨v, rv, d, rd, rfl, hd, hrv, k⟩ := h
    refine ⟨_, (pss_cons (ps_set (i := 2) sc_bars.nd rfl (Or.inl rfl) (pe_f (E := E) F1 (hr.mono (by decide)) (passes_call (takes_of rfl rfl rfl rfl) fun _ _ _ _ h => h) (pa_cons (pv 0) pa_nil))) (pss_cons (ps_expr (pe_f (E := E) F2 (hr.mono (by decide)) (passes_call (takes_of rfl rfl rfl rfl) fun _ _ _ _ h => h) (pa_cons (pv 0) (pa_cons (pv 1) pa_nil)))) (pss_cons (ps_setLc (i := 3) (own := [("line", 4), ("square", 5)]) (g := gTup K 2 (gCons (gName 4) (gCons (gName 5) gNil))) (tt := tYes) (te := tCa (spBarOf K) E0 (tCons (tOp (rIxT K) (tVar 0) (tC (V.int 0))) (tCons (tVar 4) (tCons (tVar 5) (tCons (tVar 1) tNil))))) rfl sc_bars.nd rfl rfl (sw_true rfl rfl rfl (by decide +kernel)) (pi_zipB (by rfl) B.zip (pa_cons (pe_ix ix_tup (pv 0) pe_int (fun _ _ => rfl)) (pa_cons (pv 2) pa_nil))) (blkOk_by (own := [("line", 4), ("square", 5)]) (N := nm_bars) (sc := defScope s_bars) (by decide +kernel)) (fun _ _ _ _ _ => pg_tup rfl (pgs_cons (pg_name (i := 4) sc_bars.nd rfl (Or.inl rfl)) (pgs_cons (pg_name (i := 5) sc_bars.nd rfl (Or.inl rfl)) pgs_nil))) (fun _ _ _ _ _ => pts_nil) (fun _ _ _ _ _ => (pe_f F3 (hr.mono (by decide)) pass0 (pa_cons (pe_ix ix_tup (pv 0) pe_int (fun _ _ => rfl)) (pa_cons (pv 4) (pa_cons (pv 5) (pa_cons (pv 1) pa_nil))))))) (pss_cons (ps_if (pt_val (pe_callB (cr_any rfl) (by rfl) B.any boot_any (pa_cons (pe_lc (own := [("bar", 6)]) (g := gName 6) (tt := tYes) (by rfl) sc_bars.nd (pi_list (pv 3)) (blkOk_by (own := [("bar", 6)]) (N := nm_bars) (sc := defScope s_bars) (by decide +kernel)) (fun _ _ _ _ _ => pg_name (i := 6) sc_bars.nd rfl (Or.inl rfl)) (fun _ _ _ _ _ => pts_nil) (fun _ _ _ _ _ => (pe_cmpR op_isN (pv 6) pe_non (nomark _)))) pa_nil))) (pss_one (ps_ret pe_non)) pss_nil) (pss_one (ps_ret (pe_callTy call_tuple_of (by rfl) B.tuple PyProof.Rows.boot_tuple (pa_cons (pv 3) pa_nil)))))))), ?_⟩
    walk_at "nf"
    walk_at "sx"
    rcases k with ⟨n, e, ko⟩ | ⟨m, ls, rfl, o, k1, k2⟩
    · exact ⟨v, d, rfl, hd, .inl ⟨n, e, ko⟩⟩
    · obtain ⟨a, u, rfl, hs, hu⟩ := set_v hd
      obtain ⟨b, zs, rfl, hz, hzl, hzat, _⟩ := tup_view hu
      refine ⟨_, _, rfl, hd, .inr ⟨m, ls, rfl, o, k1, fun hfree H1 sq e1 hsq => ?_⟩⟩
      obtain ⟨k3, k4⟩ := k2 hfree
      refine ⟨.non, rv, .ref b, a, m, rd, rfl, e1.seqT hs, o.m4, hrv.to e1, fun hok H2 e2 => ?_, fun hno => (k3 hno).to e1⟩
      obtain ⟨row, rfl, rs, kq⟩ := k4 hok
      have s12 := e1.trans e2
      obtain ⟨D, ys, rfl, hD, hn2, hyat, _⟩ := lst_view (f := fun i => sqD (sqAtL m ls i)) (xs := List.range ls.length) (hsq.to e2)
      rw [List.length_range] at hn2
      have hmin : min zs.length ys.length = ls.length := by rw [hn2, hzl, Nat.min_self]
      refine ⟨_, rfl, a, _, 1, _, rfl, rfl, s12.seqT hs, rfl, _, rfl, b, D, rfl, zipB_core (Same.refl H2) (s12.seqT hz) (.inr hD) fun J G wk hG => fun D2 hD2 => lcF wk hD2 (by rw [hmin]; exact slt (by have := o.few; omega)) (fun _ => true) (fun i y H => Dp K H y (barD (barAt m ls row i))) (fun i y H H' e n q => keepN e n n _ _ (noList_bar _) q) hG (fun i x H3 H4 Q1 Q0 hi e3 y q1 q0 => ?_) (fun H3 ys2 e3 hy g => ?_)⟩
      · obtain ⟨T, x1, x2, rfl, hT, rfl, g1, g2⟩ := y
        have e4 := Same.new (o := HO.tup [x1, x2]) hT
        have hi2 : i < ls.length := by rw [← hmin]; exact hi
        obtain ⟨j, hj, hdq⟩ := hyat i x2 g2
        rw [List.getElem?_range hi2] at hj
        obtain rfl := Option.some.inj hj
        obtain ⟨q, eq⟩ := free_some hfree hi2
        rw [eq] at hdq
        have s23 := (s12.trans e3).trans e4
        have hl : ls[i]? = some (lnAt ls i) := by unfold lnAt; rw [List.getD_eq_getElem?_getD, List.getElem?_eq_getElem hi2]; rfl
        obtain ⟨l, hl2, hdl⟩ := hzat i x1 g1
        rw [hl] at hl2
        obtain rfl := Option.some.inj hl2
        have lo := o.lo _ (List.mem_of_getElem? hl)
        have qb := Sq.qb_of (show Sq.sqOf m (lnAt ls i).2 = some q from eq) lo.pb (by have := lo.n3; omega)
        have et : barAt m ls row i = Sq.barOf m (lnAt ls i).1 (lnAt ls i).2 q row := by unfold barAt; rw [eq]; rfl
        rw [et] at q1
        walk_at "nf"
        refine ⟨T, _, rfl, .of upd_same, rfl, ?_⟩
        walk_at "sx"
        exact ⟨_, s23.seqT hs, _, rfl, x1, x2, rv, m, _, (lnAt ls i).1, (lnAt ls i).2, q, row, rfl, hdl.to s23, (hdq.to e3).to e4, hrv.to s23, lo, qb, rs.len, rs.na, fun H5 u5 e5 hu5 => q1 rfl _ _ hu5 (e4.trans e5)⟩
      · have ha := g.dp (fun i => barD (barAt m ls row i)) fun i y q => q
        rw [all_kept, hmin] at ha
        have hl2 := ha.length
        rw [List.length_map, List.length_range] at hl2
        have hD2 : SqL K H3 D2 ys2 := .of hy
        have s13 := s12.trans e3
        have nn : ∀ i, i < ls.length → ∃ y, ys2[i]? = some y ∧ (decide (y = V.non)) = (barAt m ls row i).isNone ∧ Dp K H3 y (barD (barAt m ls row i)) := fun i hi => by
          obtain ⟨y, hy1⟩ : ∃ y, ys2[i]? = some y := ⟨_, List.getElem?_eq_getElem (by omega)⟩
          obtain ⟨d, hd1, hd2⟩ := ha.getV hy1
          rw [List.getElem?_map, List.getElem?_range hi] at hd1
          obtain rfl := Option.some.inj hd1
          dsimp only at hd2
          refine ⟨y, hy1, ?_, hd2⟩
          cases e5 : barAt m ls row i with
          | none =>
            rw [e5] at hd2
            cases hd2
            rfl
          | some bb =>
            rw [e5] at hd2
            have : ∃ p, y = .ref p := by
              cases bb <;> (obtain ⟨p, xs, rfl, _⟩ := hd2.tup_inv; exact ⟨p, rfl⟩)
            obtain ⟨p, rfl⟩ := this
            rfl
        refine ⟨_, rfl, D2, rfl, ⟨ys2, hD2⟩, fun D3 hD3 => lcS walk_list hD3 (by rw [hl2]; exact slt (by have := o.few; omega)) (fun i y => y = .bl (barAt m ls row i).isNone) (fun H e => e.seq hD2) (fun i x H4 H5 Q1 hi e y q1 => ?_) (fun H4 ys e hy3 hn3 hr3 => ?_)⟩
        · obtain ⟨rfl, hx⟩ := y
          obtain ⟨y, h1, h2, _⟩ := nn i (by omega)
          rw [hx] at h1
          obtain rfl := Option.some.inj h1
          rw [← h2] at q1
          walk_at "nf"
          walk_at "sx"
          exact q1 _ _ rfl (Same.refl _)
        · have ev := vals_bl (f := fun i => (barAt m ls row i).isNone) hn3 hr3
          rw [hl2] at ev
          subst ev
          have ea : ((List.range ls.length).map fun i => (barAt m ls row i).isNone).any id = (barsSet m ls row).any (·.isNone) := by unfold barsSet; rw [List.any_map, List.any_map]; rfl
          refine ⟨D3, _, rfl, .of hy3, _, rfl, ?_⟩
          rw [ea]
          have s14 := s13.trans e
          cases e6 : (barsSet m ls row).any (·.isNone) with
          | true => exact iteT (kq _ _ s14 (by show Dp K _ _ (barsD _); unfold barsD; rw [if_pos e6]; exact .non))
          | false =>
            refine iteF ⟨D2, rfl, _, .inl ⟨e.seq hD2, fun l hl => kq _ _ (s14.then_new hl) ?_⟩⟩
            show Dp K _ _ (barsD _)
            unfold barsD
            rw [if_neg (by rw [e6]; decide)]
            refine .tup (.of upd_same) ?_
            unfold barsSet
            rw [List.map_map]
            exact (DpAll.to ha e).to (Same.new hl)
end
end Ws
/-! ## P27k -/
namespace Ws
open PySem PySem.Spec PyProof.Rows L2 RZ
local macro_rules | `(tactic| walk_at "nf") => `(tactic| dsimp only [tNext, tSeq, tDrop, tRet, tRetN, tIfS, tAsg, gName, gTup, gCons, gNil, tVar, tC, tOp, tUn, rI, rI0, rU, rEq, rNe, tTest, tChain, tAnd, tOr, tNot, tAndV, tOrV, tNotV, tIf, tCB, tCKw, tCons, tNil, tTup, tLst, tCa, tCallS, tB, rIxT, rIxL, rIxS, cxOf, Cx.nox, Cx.wish, Cx.blk, L2.start, tPar, tPar3, tNever, tYes, tBits, tRz, tBM, rAppend, tyV, tXf, suiteEnds, gSub, rSetL, tBreak, rMax, tDGet, sDPut, tSl, tNoPart, tPart, tDisp, tPairs, tDGet2, tDNewK, tAugS, ipI, rGetL, tDIn, tDNotIn, tBM0, rPop])
local macro_rules | `(tactic| walk_at "sx") => `(tactic| simp only [wipe, List.cons.injEq, and_assoc, exists_and_left, and_true, List.map_cons, List.map_nil, List.length_cons, List.length_nil, List.cons_append, List.nil_append, List.append_nil, Nat.reduceAdd, Nat.reduceSub, List.replicate, List.getElem?_cons_zero, List.getElem?_cons_succ, List.set_cons_zero, List.set_cons_succ, Option.some.injEq, V.int.injEq, V.bl.injEq, V.ref.injEq, V.str.injEq, exists_eq_left', exists_eq_left, true_and, Bool.true_eq_false, Bool.false_eq_true, if_true, if_false])

def headW (m : Nat) (k : Str) : Option PyData → Option (Str × Sq.Row)
  | some (.tuple es) => if es.length = m ∧ es.all isI = true then some (k, es.map iOf) else none
  | _ => none
def barHead (m : Nat) : PyData → Option (Str × Sq.Row)
  | .tuple (.str k :: ds) => headW m k (PyData.str k :: ds).getLast?
  | _ => none
def isRest (ds : List PyData) (k : Str) : Bool := decide (k = "rest") && (decide ((ds.length : Int) = 3) && (isI (ds.getD 1 .none) && decide (2 ≤ iOf (ds.getD 1 .none))))
def barVal (gap : Sq.Row) (pers : List Sq.Row) (ds : List PyData) (k : Str) (w : Sq.Row) : Bool :=
  if isRest ds k then decide (Sq.dotp w gap % iOf (ds.getD 1 .none) ≠ 0) && pers.all fun p => decide (Sq.dotp w p % iOf (ds.getD 1 .none) = 0)
  else if decide (k = "apart") && decide ((ds.length : Int) = 2) then decide (Sq.dotp w gap ≠ 0) && !(pers.any fun p => decide (Sq.dotp w p ≠ 0))
  else decide (k = "less") && (decide ((ds.length : Int) = 2) && (decide (Sq.dotp w gap < 0) && pers.all fun p => decide (0 ≤ Sq.dotp w p)))
def spIsBar (K : PySem.W.Frag) (BS BR BI : Addr) : Sp := fun vs H Q E => ∃ (v plv rv bv : V) (d pd rd bd : PyData), vs = [v, plv, rv, bv] ∧ Dp K H v d ∧ Dp K H plv pd ∧ Dp K H rv rd ∧ Dp K H bv bd ∧ ((∃ n : Nat, setF d = .bad n ∧ OutF K BS "place" (.int (n : Nat)) H E) ∨
  ∃ m ls, d = setD m ls ∧ SetOk m ls ∧ (isBt pd 0 ((ls.length : Int) - 1) = false → OutF K BI "value" pd H E) ∧ ∀ i : Nat, pd = .int (i : Nat) → i < ls.length → (rowOk m rd = false → OutF K BR "value" rd H E) ∧
    (rowOk m rd = true → (barHead m bd = none → ∀ H', Same H H' → Q (.bl false) H') ∧ ∀ k w ds row, barHead m bd = some (k, w) → bd = .tuple ds → rd = intsD row → (∀ x ∈ w, B64 x) ∧ ∀ H', Same H H' → Q (.bl (barVal (Sq.addk row (lnAt ls i).1 (-1)) (lnAt ls i).2 ds k w)) H'))
abbrev s_is_bar : Stmt := top 37
abbrev nm_is_bar : List Str := ["value", "place", "row", "bar", "base", "periods", "sums", "rest", "period", "each"]
abbrev pr_is_bar : List Str := ["value", "place", "row", "bar"]
theorem sc_is_bar : FnScope nm_is_bar pr_is_bar (defScope s_is_bar) := ⟨rfl, rfl, rfl, by decide +kernel, rfl, by decide +kernel, by decide +kernel⟩
theorem row_ints {m : Nat} {d : PyData} (h : rowOk m d = true) : ∃ xs : List Int, d = intsD xs ∧ xs.length = m := by
  unfold rowOk at h
  rw [Bool.and_eq_true] at h
  obtain ⟨ds, rfl, hl⟩ := isTn_tup h.1
  have h2 := h.2
  simp only [areB, List.all_eq_true] at h2
  have hi : ∀ d ∈ ds, d = .int (iOf d) := fun d hd => by
    have := h2 d hd
    cases d with
    | int i => rfl
    | _ => cases this
  refine ⟨ds.map iOf, ?_, by simp; omega⟩
  unfold intsD
  rw [List.map_map]
  congr 1
  conv => lhs; rw [← List.map_id ds]
  exact List.map_congr_left fun d hd => hi d hd
theorem atI_neg1 {α : Type} (xs : List α) : atI xs (-1) = xs.getLast? := by
  unfold atI ixN
  rw [if_neg (by decide), List.getLast?_eq_getElem?]
  cases xs with
  | nil => rfl
  | cons x xs =>
    rw [if_pos (by rw [List.length_cons]; omega)]
    show (x :: xs)[_]? = _
    congr 1
    rw [List.length_cons]
    omega
theorem all_ints {es : List PyData} (h : es.all isI = true) : PyData.tuple es = intsD (es.map iOf) := by
  unfold intsD
  rw [List.map_map]
  congr 1
  conv => lhs; rw [← List.map_id es]
  refine List.map_congr_left fun d hd => ?_
  have := List.all_eq_true.mp h d hd
  cases d with
  | int i => rfl
  | _ => cases this
theorem sq_dr {te : TE} {u : TS} {D : Ends} {σ : L2.St} {H : Hp} (h : te σ H fun _ H1 => u D σ H1) : tSeq (tDrop te) u D σ H := h
section
variable {K : PySem.W.Frag} {σ : L2.St} {H : Hp} {a3 : Addr} {ys : List V} {kk : Str} {r : List PyData}
abbrev tLen (K : PySem.W.Frag) (i : Nat) : TE := tCB (fun xs H Q => ∃ p ys, xs = [V.ref p] ∧ (SqL K H p ys ∨ SqT K H p ys) ∧ Q (V.int ys.length) H) (tCons (tVar i) tNil)
structure TB3 (K : PySem.W.Frag) (σ : L2.St) (H : Hp) (a3 : Addr) (ys : List V) (kk : Str) (r : List PyData) : Prop where
  v : σ[3]? = some (some (.ref a3))
  sq : SqT K H a3 ys
  dp : DpAll K H ys (.str kk :: r)
theorem TB3.head (t : TB3 K σ H a3 ys kk r) : atI ys 0 = some (.str kk) := by
  obtain ⟨y0, h1, h2, h3⟩ := t.dp.at_ (i := 0) (by simp)
  have : y0 = .str kk := by
    cases h3
    rfl
  rw [← this]
  exact h2
theorem TB3.len (t : TB3 K σ H a3 ys kk r) : ys.length = (PyData.str kk :: r).length := t.dp.length
theorem v_head (t : TB3 K σ H a3 ys kk r) {s : Str} {Q : VK} (q : Q (.bl (decide (kk = s))) H) : tOp rEq (tOp (rIxT K) (tVar 3) (tC (V.int 0))) (tC (V.str s)) σ H Q := by
  refine ⟨_, t.v, a3, ys, 0, _, rfl, rfl, t.sq, t.head, rfl, ?_⟩
  have : decide (V.str kk = V.str s) = decide (kk = s) := decide_eq_decide.mpr ⟨fun e => V.str.inj e, fun e => by rw [e]⟩
  rw [this]
  exact q
theorem v_len (t : TB3 K σ H a3 ys kk r) {n : Int} {Q : VK} (q : Q (.bl (decide (((PyData.str kk :: r).length : Int) = n))) H) : tOp rEq (tLen K 3) (tC (V.int n)) σ H Q := by
  refine ⟨_, t.v, a3, ys, rfl, .inr t.sq, rfl, ?_⟩
  have : decide (V.int (ys.length : Nat) = V.int n) = decide (((PyData.str kk :: r).length : Int) = n) := decide_eq_decide.mpr ⟨fun e => by have := V.int.inj e; rw [t.len] at this; exact this, fun e => by rw [t.len, e]⟩
  rw [this]
  exact q
theorem t_head (t : TB3 K σ H a3 ys kk r) {s : Str} {R : Bool → Hp → Prop} (q : R (decide (kk = s)) H) : tTest (tOp rEq (tOp (rIxT K) (tVar 3) (tC (V.int 0))) (tC (V.str s))) σ H R := v_head t ⟨_, rfl, q⟩
theorem t_len (t : TB3 K σ H a3 ys kk r) {n : Int} {R : Bool → Hp → Prop} (q : R (decide (((PyData.str kk :: r).length : Int) = n)) H) : tTest (tOp rEq (tLen K 3) (tC (V.int n))) σ H R := v_len t ⟨_, rfl, q⟩
theorem t_and {t1 t2 : TT} {b : Bool} {R : Bool → Hp → Prop} (h1 : ∀ R' : Bool → Hp → Prop, R' b H → t1 σ H R') (h2 : b = true → t2 σ H R) (h3 : b = false → R false H) : tAnd t1 t2 σ H R := by
  refine h1 _ ?_
  cases b with
  | true => exact iteT (h2 rfl)
  | false => exact iteF (h3 rfl)
theorem v_and {t1 t2 : TE} {b : Bool} {Q : VK} (h1 : ∀ Q' : VK, Q' (.bl b) H → t1 σ H Q') (h2 : b = true → t2 σ H Q) (h3 : b = false → Q (.bl false) H) : tAndV t1 t2 σ H Q := by
  refine h1 _ ⟨b, rfl, ?_⟩
  cases b with
  | true => exact iteT (h2 rfl)
  | false => exact iteF (h3 rfl)
theorem at1 (t : TB3 K σ H a3 ys kk r) (h : 2 ≤ (PyData.str kk :: r).length) : ∃ y, atI ys 1 = some y ∧ Dp K H y ((PyData.str kk :: r).getD 1 .none) := by
  obtain ⟨y, h1, h2, h3⟩ := t.dp.at_ (i := 1) h
  exact ⟨y, h2, h3⟩
theorem test_rest (t : TB3 K σ H a3 ys kk r) {R : Bool → Hp → Prop} (q : R (isRest (.str kk :: r) kk) H) :
    tAnd (tTest (tOp rEq (tOp (rIxT K) (tVar 3) (tC (V.int 0))) (tC (V.str (Str.ofString "rest"))))) (tAnd (tTest (tOp rEq (tLen K 3) (tC (V.int 3)))) (tAnd (tB (tCa (spIsInteger K) E0 (tCons (tOp (rIxT K) (tVar 3) (tC (V.int 1))) tNil)))
      (tTest (tOp (rI0 fun i j => V.bl (decide (j ≤ i))) (tOp (rIxT K) (tVar 3) (tC (V.int 1))) (tC (V.int 2)))))) σ H R := by
  unfold isRest at q
  refine t_and (b := decide (kk = "rest")) (fun R' h => t_head t h) (fun e => ?_) (fun e => by rw [e, Bool.false_and] at q; exact q)
  rw [e, Bool.true_and] at q
  refine t_and (b := decide (((PyData.str kk :: r).length : Int) = 3)) (fun R' h => t_len t h) (fun e => ?_) (fun e => by rw [e, Bool.false_and] at q; exact q)
  rw [e, Bool.true_and] at q
  have l3 := of_decide_eq_true e
  obtain ⟨y, hy, hd⟩ := at1 t (by omega)
  refine t_and (b := isI ((PyData.str kk :: r).getD 1 .none)) (fun R' h => ⟨_, t.v, a3, ys, 1, y, rfl, rfl, t.sq, hy, y, _, rfl, hd, _, rfl, h⟩) (fun e => ?_) (fun e => by rw [e, Bool.false_and] at q; exact q)
  rw [e, Bool.true_and] at q
  generalize (PyData.str kk :: r).getD 1 .none = d1 at *
  cases d1 with
  | int z =>
    cases hd
    exact ⟨_, t.v, a3, ys, 1, _, rfl, rfl, t.sq, hy, z, 2, rfl, rfl, _, rfl, q⟩
  | _ => cases e
theorem test_apart (t : TB3 K σ H a3 ys kk r) {R : Bool → Hp → Prop} (q : R (decide (kk = "apart") && decide (((PyData.str kk :: r).length : Int) = 2)) H) :
    tAnd (tTest (tOp rEq (tOp (rIxT K) (tVar 3) (tC (V.int 0))) (tC (V.str (Str.ofString "apart"))))) (tTest (tOp rEq (tLen K 3) (tC (V.int 2)))) σ H R := by
  refine t_and (b := decide (kk = "apart")) (fun R' h => t_head t h) (fun e => ?_) (fun e => by rw [e, Bool.false_and] at q; exact q)
  rw [e, Bool.true_and] at q
  exact t_len t q
end
end Ws
/-! ## P27l -/
namespace Ws
open PySem PySem.Spec PyProof.Rows L2 RZ
local macro_rules | `(tactic| walk_at "nf") => `(tactic| dsimp only [tNext, tSeq, tDrop, tRet, tRetN, tIfS, tAsg, gName, gTup, gCons, gNil, tVar, tC, tOp, tUn, rI, rI0, rU, rEq, rNe, tTest, tChain, tAnd, tOr, tNot, tAndV, tOrV, tNotV, tIf, tCB, tCKw, tCons, tNil, tTup, tLst, tCa, tCallS, tB, rIxT, rIxL, rIxS, cxOf, Cx.nox, Cx.wish, Cx.blk, L2.start, tPar, tPar3, tNever, tYes, tBits, tRz, tBM, rAppend, tyV, tXf, suiteEnds, gSub, rSetL, tBreak, rMax, tDGet, sDPut, tSl, tNoPart, tPart, tDisp, tPairs, tDGet2, tDNewK, tAugS, ipI, rGetL, tDIn, tDNotIn, tBM0, rPop])
local macro_rules | `(tactic| walk_at "sx") => `(tactic| simp only [wipe, List.cons.injEq, and_assoc, exists_and_left, and_true, List.map_cons, List.map_nil, List.length_cons, List.length_nil, List.cons_append, List.nil_append, List.append_nil, Nat.reduceAdd, Nat.reduceSub, List.replicate, List.getElem?_cons_zero, List.getElem?_cons_succ, List.set_cons_zero, List.set_cons_succ, Option.some.injEq, V.int.injEq, V.bl.injEq, V.ref.injEq, V.str.injEq, exists_eq_left', exists_eq_left, true_and, Bool.true_eq_false, Bool.false_eq_true, if_true, if_false])

theorem head_inv {m : Nat} {bd : PyData} {kk : Str} {wv : Sq.Row} (h : barHead m bd = some (kk, wv)) : ∃ r es, bd = .tuple (.str kk :: r) ∧ (PyData.str kk :: r).getLast? = some (.tuple es) ∧ es.length = m ∧ es.all isI = true ∧ wv = es.map iOf := by
  unfold barHead at h
  split at h
  · rename_i k ds
    cases e : (PyData.str k :: ds).getLast? with
    | none => rw [e] at h; cases h
    | some xl =>
      rw [e] at h
      cases xl with
      | tuple es =>
        have h : (if es.length = m ∧ es.all isI = true then some (k, es.map iOf) else none) = some (kk, wv) := h
        split at h
        · rename_i c
          cases h
          exact ⟨ds, es, rfl, e, c.1, c.2, rfl⟩
        · cases h
      | _ => cases h
  · cases h
section
variable {K : PySem.W.Frag} {σ : L2.St} {H : Hp}
theorem test_odd {m : Nat} {a : Addr} {u bv : V} {bd : PyData} {R : Bool → Hp → Prop} (h0 : σ[0]? = some (some (.ref a))) (h3 : σ[3]? = some (some bv)) (hs : SqT K H a [.int (m : Nat), u]) (hm : m ≤ 4) (hbd : Dp K H bv bd) (q : ∀ H', Same H H' → R (barHead m bd).isNone H') :
    tOr (tNot (tB (tCB (rIsi K) (tCons (tVar 3) (tCons (tC (V.ty "tuple")) tNil))))) (tOr (tNot fun σ H Q => tVar 3 σ H fun x H' => ∃ k, TruV K x H' k ∧ Q k H') (tOr (tNot (tB (tCB (rIsi K) (tCons (tOp (rIxT K) (tVar 3) (tC (V.int 0))) (tCons (tC (V.ty "str")) tNil)))))
      (tNot (tB (tCa (spIsW K) E0 (tCons (tOp (rIxT K) (tVar 3) (tUn (rU fun i => V.int (-i)) (tC (V.int 1)))) (tCons (tOp (rIxT K) (tVar 0) (tC (V.int 0))) tNil))))))) σ H R := by
  have qn : barHead m bd = none → R true H := fun e => by
    have := q H (Same.refl _)
    rwa [e] at this
  walk_at "nf"
  refine ⟨_, h3, isi_tuple hbd ⟨_, rfl, ?_⟩⟩
  cases bd with
  | tuple ds =>
    obtain ⟨a3, ys, rfl, ha3, hya⟩ := hbd.tup_inv
    have hyl := hya.length
    refine iteF ⟨_, h3, !ys.isEmpty, .inr (.inl ⟨ys, ha3, rfl⟩), ?_⟩
    cases ds with
    | nil =>
      cases hya
      exact iteT (qn rfl)
    | cons x r =>
      have ne : ys.isEmpty = false := by cases ys with
        | nil => simp at hyl
        | cons => rfl
      rw [ne]
      obtain ⟨y0, hy0, hy0', hyd⟩ := hya.at_ (i := 0) (by simp)
      refine iteF ⟨_, h3, a3, _, 0, y0, rfl, rfl, ha3, hy0', isi_str hyd ⟨_, rfl, ?_⟩⟩
      have ex0 : (x :: r).getD 0 .none = x := rfl
      rw [ex0] at hyd ⊢
      cases x with
      | str kk =>
        obtain ⟨xl, hxl⟩ : ∃ xl, (PyData.str kk :: r).getLast? = some xl := ⟨_, List.getLast?_eq_some_getLast (by simp)⟩
        obtain ⟨yl, hyl1, hyl2⟩ := at_dp hya (i := -1) (d := xl) (by rw [atI_neg1]; exact hxl)
        refine iteF ⟨_, h3, 1, rfl, a3, _, -1, yl, rfl, rfl, ha3, hyl1, _, h0, a, _, 0, _, rfl, rfl, hs, rfl, yl, xl, m, rfl, hyl2, by omega, fun H3 e3 => ⟨_, rfl, ?_⟩⟩
        have ebh : barHead m (.tuple (.str kk :: r)) = headW m kk (some xl) := by
          show headW m kk (PyData.str kk :: r).getLast? = _
          rw [hxl]
        have := q H3 e3
        rw [ebh] at this
        have e9 : (headW m kk (some xl)).isNone = !isWD m xl := by
          cases xl with
          | tuple es =>
            show (if es.length = m ∧ es.all isI = true then some (kk, es.map iOf) else none).isNone = !(decide ((es.length : Int) = m) && es.all isI)
            by_cases c1 : es.length = m
            · rw [decide_eq_true (by omega)]
              cases c2 : es.all isI with
              | true => rw [if_pos ⟨c1, rfl⟩]; rfl
              | false => rw [if_neg (fun z => by cases z.2)]; rfl
            · rw [decide_eq_false (by omega), if_neg (fun z => c1 z.1)]
              rfl
          | _ => rfl
        rw [e9] at this
        exact this
      | _ => exact iteT (qn rfl)
  | _ => exact iteT (qn rfl)
end
section
variable {P : Program} {w : World} {K : PySem.W.Frag} {mg : Str → Option Value} {base : Heap} {BS TG BR BI : Addr}
theorem ok_is_bar (B : Bl mg) (T : ErS P w K mg base BS TG BR BI) (F1 : Df P w K mg base (L2.CX P w) 6 "need_set" pr_need_set (spNeedSet K BS TG)) (F2 : Df P w K mg base (L2.CX P w) 5 "need_row_of" pr_need_row_of (spNeedRow K BR)) (F3 : Df P w K mg base CX0 2 "is_between" pr_is_between (spIsBetween K)) (F4 : Df P w K mg base CX0 2 "is_weights" pr_is_weights (spIsW K)) (F5 : Df P w K mg base CX0 1 "weighed" pr_weighed (spWeighed K)) (F6 : Df P w K mg base CX0 1 "added" pr_added (spAdded K)) (F7 : Df P w K mg base CX0 1 "is_integer" pr_is_integer (spIsInteger K)) (D : Dt K mg "is_bar" s_is_bar pr_is_bar) :
    Df P w K mg base (L2.CX P w) 7 "is_bar" pr_is_bar (spIsBar K BS BR BI) := by
  refine D.okX sc_is_bar (fun vs H Q E h => ?_) (fun f cdv A outer s H vs Q E hr h => ?_)
  · obtain ⟨v, plv, rv, bv, d, pd, rd, bd, rfl, _⟩ := h
    rfl
  · obtain ⟨v, plv, rv, bv, d, pd, rd, bd, rfl, hd, hpd, hrd, hbd, k⟩ := h
    refine ⟨_, (pss_cons (ps_expr (pe_f (E := E) F1 (hr.mono (by decide)) (passes_call (takes_of rfl rfl rfl rfl) fun _ _ _ _ h => h) (pa_cons (pv 0) pa_nil))) (pss_cons (ps_if (pt_not (pt_val (pe_f F3 (hr.mono (by decide)) pass0 (pa_cons (pv 1) (pa_cons pe_int (pa_cons (pe_op op_sub (pe_callB call_len_seq (by rfl) B.len PySem.boot_len (pa_cons (pe_ix ix_tup (pv 0) pe_int (fun _ _ => rfl)) pa_nil)) pe_int) pa_nil)))))) (pss_one (ps_rz rfl T.BadIndex (hr.mono (by decide)) (takes_of rfl rfl rfl rfl) (by rfl) (pv 1))) pss_nil) (pss_cons (ps_expr (pe_f (E := E) F2 (hr.mono (by decide)) (passes_call (takes_of rfl rfl rfl rfl) fun _ _ _ _ h => h) (pa_cons (pv 0) (pa_cons (pv 2) pa_nil)))) (pss_cons (ps_if (PW.pt (pw_or (pt_not (pt_val (pe_callB call_isi (by rfl) B.isinstance boot_isinstance (pa_cons (pv 3) (pa_cons (pe_bltn (v := .ty "tuple") (by rfl) B.tuple PyProof.Rows.boot_tuple rfl) pa_nil))))) (pw_or (pt_not (pt_truth (pv 3) (by intro _; rfl))) (pw_or (pt_not (pt_val (pe_callB call_isi (by rfl) B.isinstance boot_isinstance (pa_cons (pe_ix ix_tup (pv 3) pe_int (fun _ _ => rfl)) (pa_cons (pe_bltn (v := .ty "str") (by rfl) B.str PyProof.Rows.boot_str rfl) pa_nil))))) (pw_or1 (pt_not (pt_val (pe_f F4 (hr.mono (by decide)) pass0 (pa_cons (pe_ix ix_tup (pv 3) (pe_un un_neg pe_int) (fun _ _ => rfl)) (pa_cons (pe_ix ix_tup (pv 0) pe_int (fun _ _ => rfl)) pa_nil)))))))))) (pss_one (ps_ret pe_bl)) pss_nil) (pss_cons (ps_asg (pe_ix ix_tup (pe_ix ix_tup (pv 0) pe_int (fun _ _ => rfl)) (pv 1) (fun _ _ => rfl)) (pg_tup rfl (pgs_cons (pg_name (i := 4) sc_is_bar.nd rfl (Or.inl rfl)) (pgs_cons (pg_name (i := 5) sc_is_bar.nd rfl (Or.inl rfl)) pgs_nil)))) (pss_cons (ps_setLc (i := 6) (own := [("period", 8)]) (g := gName 8) (tt := tYes) (te := tCa (spWeighed K) E0 (tCons (tOp (rIxT K) (tVar 3) (tUn (rU fun i => V.int (-i)) (tC (V.int 1)))) (tCons (tVar 8) tNil))) rfl sc_is_bar.nd rfl rfl (sw_true rfl rfl rfl (by decide +kernel)) (pi_tup (pv 5)) (blkOk_by (own := [("period", 8)]) (N := nm_is_bar) (sc := defScope s_is_bar) (by decide +kernel)) (fun _ _ _ _ _ => pg_name (i := 8) sc_is_bar.nd rfl (Or.inl rfl)) (fun _ _ _ _ _ => pts_nil) (fun _ _ _ _ _ => (pe_f F5 (hr.mono (by decide)) pass0 (pa_cons (pe_ix ix_tup (pv 3) (pe_un un_neg pe_int) (fun _ _ => rfl)) (pa_cons (pv 8) pa_nil))))) (pss_cons (ps_set (i := 7) sc_is_bar.nd rfl (Or.inl rfl) (pe_f F5 (hr.mono (by decide)) pass0 (pa_cons (pe_ix ix_tup (pv 3) (pe_un un_neg pe_int) (fun _ _ => rfl)) (pa_cons (pe_f F6 (hr.mono (by decide)) pass0 (pa_cons (pv 2) (pa_cons (pv 4) (pa_cons (pe_un un_neg pe_int) pa_nil)))) pa_nil)))) (pss_cons (ps_if (PW.pt (pw_and (pt_cmpR op_eq (pe_ix ix_tup (pv 3) pe_int (fun _ _ => rfl)) pe_str (nomark _)) (pw_and (pt_cmpR op_eq (pe_callB call_len_seq (by rfl) B.len PySem.boot_len (pa_cons (pv 3) pa_nil)) pe_int (nomark _)) (pw_and (pt_val (pe_f F7 (hr.mono (by decide)) pass0 (pa_cons (pe_ix ix_tup (pv 3) pe_int (fun _ _ => rfl)) pa_nil))) (pw_and1 (pt_cmpR op_ge (pe_ix ix_tup (pv 3) pe_int (fun _ _ => rfl)) pe_int (nomark _))))))) (pss_one (ps_ret (pe_and (pe_cmpR op_ne (pe_op op_mod (pv 7) (pe_ix ix_tup (pv 3) pe_int (fun _ _ => rfl))) pe_int (nomark _)) (pe_one (pe_callB (cr_all rfl) (by rfl) B.all boot_all (pa_cons (pe_lc (own := [("each", 9)]) (g := gName 9) (tt := tYes) (te := tOp rEq (tOp (rI (fun _ j => 0 < j) fun i j => V.int (i % j)) (tVar 9) (tOp (rIxT K) (tVar 3) (tC (V.int 1)))) (tC (V.int 0))) (by rfl) sc_is_bar.nd (pi_list (pv 6)) (blkOk_by (own := [("each", 9)]) (N := nm_is_bar) (sc := defScope s_is_bar) (by decide +kernel)) (fun _ _ _ _ _ => pg_name (i := 9) sc_is_bar.nd rfl (Or.inl rfl)) (fun _ _ _ _ _ => pts_nil) (fun _ _ _ _ _ => (pe_cmpR op_eq (pe_op op_mod (pv 9) (pe_ix ix_tup (pv 3) pe_int (fun _ _ => rfl))) pe_int (nomark _)))) pa_nil)))))) pss_nil) (pss_cons (ps_if (PW.pt (pw_and (pt_cmpR op_eq (pe_ix ix_tup (pv 3) pe_int (fun _ _ => rfl)) pe_str (nomark _)) (pw_and1 (pt_cmpR op_eq (pe_callB call_len_seq (by rfl) B.len PySem.boot_len (pa_cons (pv 3) pa_nil)) pe_int (nomark _))))) (pss_one (ps_ret (pe_and (pe_cmpR op_ne (pv 7) pe_int (nomark _)) (pe_one (pe_not (pe_callB (cr_anyI rfl) (by rfl) B.any boot_any (pa_cons (pv 6) pa_nil))))))) pss_nil) (pss_one (ps_ret (pe_and (pe_cmpR op_eq (pe_ix ix_tup (pv 3) pe_int (fun _ _ => rfl)) pe_str (nomark _)) (pe_and (pe_cmpR op_eq (pe_callB call_len_seq (by rfl) B.len PySem.boot_len (pa_cons (pv 3) pa_nil)) pe_int (nomark _)) (pe_and (pe_cmpR op_lt (pv 7) pe_int (nomark _)) (pe_one (pe_callB (cr_all rfl) (by rfl) B.all boot_all (pa_cons (pe_lc (own := [("each", 9)]) (g := gName 9) (tt := tYes) (by rfl) sc_is_bar.nd (pi_list (pv 6)) (blkOk_by (own := [("each", 9)]) (N := nm_is_bar) (sc := defScope s_is_bar) (by decide +kernel)) (fun _ _ _ _ _ => pg_name (i := 9) sc_is_bar.nd rfl (Or.inl rfl)) (fun _ _ _ _ _ => pts_nil) (fun _ _ _ _ _ => (pe_cmpR op_ge (pv 9) pe_int (nomark _)))) pa_nil))))))))))))))))), ?_⟩
    dsimp only [cxOf, Cx.nox, L2.start]
    refine sq_dr ⟨_, rfl, ?_⟩
    rcases k with ⟨n, e, ko⟩ | ⟨m, ls, rfl, o, k1, k2⟩
    · exact ⟨v, d, rfl, hd, fun z => (by rw [e] at z; cases z), fun n' e' => (by rw [e] at e'; cases e'; exact ko), fun z => (by rw [e] at z; cases z)⟩
    · obtain ⟨a, u, rfl, hs, hu⟩ := set_v hd
      obtain ⟨b, zs, rfl, hz, hzl, hzat, _⟩ := tup_view hu
      refine ⟨_, _, rfl, hd, fun _ H1 e1 => ?_, fun n' e' => (by rw [o.ok] at e'; cases e'), fun z => (by rw [o.ok] at z; cases z)⟩
      have hs1 := e1.seqT hs
      refine sq_if0 ⟨_, rfl, _, rfl, a, _, 1, _, rfl, rfl, hs1, rfl, b, zs, rfl, .inr (e1.seqT hz), _, 1, rfl, rfl, plv, pd, 0, (zs.length : Int) - 1, rfl, hpd.to e1, _, rfl, ?_⟩
      rw [hzl]
      cases e0 : isBt pd 0 ((ls.length : Int) - 1) with
      | false => exact iteT ⟨_, rfl, rz_f (k1 e0) e1 (hpd.to e1)⟩
      | true =>
        obtain ⟨i, rfl, hi⟩ : ∃ i : Nat, pd = .int (i : Nat) ∧ i < ls.length := by
          cases pd with
          | int z =>
            simp only [isBt, Bool.and_eq_true, decide_eq_true_eq] at e0
            exact ⟨z.toNat, by rw [Int.toNat_of_nonneg e0.1], by omega⟩
          | _ => cases e0
        cases hpd
        obtain ⟨k3, k4⟩ := k2 i rfl hi
        refine iteF (sq_dr ⟨_, rfl, _, rfl, .non, rv, .ref b, a, m, rd, rfl, hs1, o.m4, hrd.to e1, fun hok H2 e2 => ?_, fun hno => (k3 hno).to e1⟩)
        obtain ⟨kn, ky⟩ := k4 hok
        obtain ⟨row, rfl, rowl⟩ := row_ints hok
        have s12 := e1.trans e2
        have hs2 := s12.seqT hs
        have hl : ls[i]? = some (lnAt ls i) := by unfold lnAt; rw [List.getD_eq_getElem?_getD, List.getElem?_eq_getElem hi]; rfl
        obtain ⟨z, hz1⟩ : ∃ z, zs[i]? = some z := ⟨_, List.getElem?_eq_getElem (by omega)⟩
        obtain ⟨l, hl2, hdl⟩ := hzat i z hz1
        rw [hl] at hl2
        obtain rfl := Option.some.inj hl2
        have lo := o.lo _ (List.mem_of_getElem? hl)
        refine sq_if0 (test_odd (m := m) (a := a) (u := .ref b) (bd := bd) rfl rfl hs2 o.m4 (hbd.to s12) fun H3 e3 => ?_)
        have s13 := s12.trans e3
        cases ebh : barHead m bd with
        | none => exact iteT (kn ebh _ s13)
        | some kw =>
              obtain ⟨kk, wv0⟩ := kw
              obtain ⟨r, es, rfl, hxl, esl, esi, rfl⟩ := head_inv ebh
              dsimp only [Option.isNone]
              refine iteF ?_
              obtain ⟨a3, ys, rfl, ha3, hya⟩ := (hbd.to s12).tup_inv
              obtain ⟨yl, hyl1, hyl2⟩ := at_dp hya (i := -1) (d := .tuple es) (by rw [atI_neg1]; exact hxl)
              next =>
                obtain ⟨wb, kq⟩ := ky _ _ _ _ ebh rfl rfl
                have wl : (es.map iOf).length = m := by rw [List.length_map]; exact esl
                rw [all_ints esi] at hyl2
                generalize es.map iOf = wv at *
                obtain ⟨p, b1, u1, rfl, hp, hb1, hu1⟩ := ln_v (hdl.to s13)
                obtain ⟨b2, ps, rfl, hps, hpl, hpat, _⟩ := tup_view hu1
                have hyl3 := hyl2.to e3
                have m4 := o.m4
                generalize hgap : Sq.addk row (lnAt ls i).1 (-1) = gap at *
                generalize hpers : (lnAt ls i).2 = pers at *
                refine ⟨_, rfl, a, _, 1, _, rfl, rfl, s13.seqT hs, rfl, _, rfl, b, _, i, _, rfl, rfl, s13.seqT hz, atI_nat hz1, p, _, rfl, hp, rfl, _, _, rfl, _, _, rfl, rfl, ?_⟩
                dsimp only [gTup, gCons, gNil, gName]
                refine sq_go ⟨_, rfl, b2, rfl, ⟨_, hps⟩, fun D hD => lcS walk_tup hD (by rw [hpl]; exact slt (by have := lo.n3; omega)) (fun j y => y = .int (Sq.dotp wv (pers.getD j []))) (fun H e => e.seqT hps) (fun j x H4 H5 Q1 hj e y q1 => ?_) (fun H4 ys2 e4 hy4 hn4 hr4 => ?_)⟩
                · obtain ⟨rfl, hx⟩ := y
                  obtain ⟨pe, hpe, hdpe⟩ := hpat j x hx
                  have epe : pers.getD j [] = pe := by rw [List.getD_eq_getElem?_getD, hpe]; rfl
                  rw [epe] at q1
                  exact ⟨rfl, _, rfl, 1, rfl, a3, _, -1, yl, rfl, rfl, (e3.trans e).seqT ha3, hyl1, _, rfl, yl, x, wv, pe, rfl, hyl3.to e, hdpe.to e, wb, by omega, fun H6 e6 => q1 _ _ rfl e6⟩
                · have ev := vals_int (f := fun j => Sq.dotp wv (pers.getD j [])) hn4 hr4
                  rw [hpl] at ev
                  have e5 : (List.range pers.length).map (fun j => Sq.dotp wv (pers.getD j [])) = pers.map (Sq.dotp wv) := by_places pers [] (Sq.dotp wv)
                  rw [e5] at ev
                  subst ev
                  have s14 := s13.trans e4
                  have hd4 : SqL K H4 D ((pers.map (Sq.dotp wv)).map V.int) := .of hy4
                  refine sq_go ⟨_, rfl, 1, rfl, a3, _, -1, yl, rfl, rfl, (e3.trans e4).seqT ha3, hyl1, _, rfl, _, rfl, 1, rfl, rv, b1, row, (lnAt ls i).1, -1, rfl, hrd.to s14, hb1.to e4, by unfold B64; omega, by omega, fun H5 g e5 hg => ⟨yl, g, wv, gap, rfl, (hyl3.to e4).to e5, by rw [← hgap]; exact hg, wb, by omega, fun H6 e6 => ?_⟩⟩
                  have s16 := (s14.trans e5).trans e6
                  have hd6 := (e5.trans e6).seq hd4
                  have ha6 := ((e3.trans e4).trans (e5.trans e6)).seqT ha3
                  have hya6 := DpAll.to hya ((e3.trans e4).trans (e5.trans e6))
                  generalize hrest : Sq.dotp wv gap = rest at *
                  have kq' := fun H' (e : Same H6 H') => kq H' (s16.trans e)
                  unfold barVal at kq'
                  rw [hrest] at kq'
                  have hall : ∀ {q : Int → Bool} {te : TE} {σ : L2.St} {H7 : Hp} {Q7 : VK}, σ[6]? = some (some (V.ref D)) → Same H6 H7 → (∀ (x : Int) (H8 : Hp) (Q8 : VK), Same H7 H8 → (∀ H9, Same H8 H9 → Q8 (.bl (q x)) H9) → te ((wipe σ [9]).set 9 (some (.int x))) H8 Q8) → (∀ x, wipe ((wipe σ [9]).set 9 (some (.int x))) [9] = wipe σ [9]) →
                      (∀ H9, Same H7 H9 → Q7 (.bl (pers.all fun p => q (Sq.dotp wv p))) H9) → tCB (rAll K) (tCons (tLc (iList K (tVar 6)) (gName 9) tYes te [9]) tNil) σ H7 Q7 := fun {q te σ H7 Q7} h6 e7 hte hw hq => by
                    have hd7 := e7.seq hd6
                    refine ⟨_, h6, D, rfl, ⟨_, hd7⟩, fun D7 hD7 => lcS walk_list hD7 (by rw [List.length_map, List.length_map]; exact slt (by have := lo.n3; omega)) (fun j y => y = .bl (q ((pers.map (Sq.dotp wv)).getD j 0))) (fun H e => e.seq hd7) (fun j x H8 H9 Q1 hj e y q1 => ?_) (fun H8 ys3 e8 hy8 hn8 hr8 => ?_)⟩
                    · obtain ⟨rfl, hx⟩ := y
                      obtain ⟨t, ht, rfl⟩ := ints_get hx
                      have et : (pers.map (Sq.dotp wv)).getD j 0 = t := by rw [List.getD_eq_getElem?_getD, ht]; rfl
                      rw [et] at q1
                      exact ⟨hw t, hte t _ _ e fun H9 e9 => q1 _ _ rfl e9⟩
                    · have ev := vals_bl (f := fun j => q ((pers.map (Sq.dotp wv)).getD j 0)) hn8 hr8
                      rw [List.length_map] at ev
                      have e10 : (List.range (pers.map (Sq.dotp wv)).length).map (fun j => q ((pers.map (Sq.dotp wv)).getD j 0)) = (pers.map (Sq.dotp wv)).map q := by_places _ 0 q
                      rw [e10] at ev
                      subst ev
                      refine ⟨D7, _, rfl, .of hy8, ?_⟩
                      have : (((pers.map (Sq.dotp wv)).map q).all id) = pers.all fun p => q (Sq.dotp wv p) := by rw [List.all_map, List.all_map]; rfl
                      rw [this]
                      exact hq _ e8
                  refine sq_if0 (test_rest (a3 := a3) (ys := ys) (kk := kk) (r := r) ⟨rfl, ha6, hya6⟩ ?_)
                  cases hR : isRest (.str kk :: r) kk with
                  | true =>
                    rw [hR] at kq'
                    refine iteT ?_
                    have hR2 := hR
                    unfold isRest at hR2
                    simp only [Bool.and_eq_true, decide_eq_true_eq] at hR2
                    obtain ⟨_, l3, i1, i2⟩ := hR2
                    obtain ⟨y1, hy1, hyd1⟩ := at1 (show TB3 K [none, none, none, some (V.ref a3)] H6 a3 ys kk r from ⟨rfl, ha6, hya6⟩) (by omega)
                    generalize (PyData.str kk :: r).getD 1 .none = d1 at *
                    cases d1 with
                    | int md =>
                      cases hyd1
                      have i2 : 2 ≤ md := i2
                      refine v_and (b := decide (rest % md ≠ 0)) (fun Q' h => ⟨_, rfl, _, rfl, a3, _, 1, _, rfl, rfl, ha6, hy1, _, _, rfl, rfl, by omega, rfl, ?_⟩) (fun e => ?_) (fun e => ?_)
                      · have : (!decide (V.int (rest % md) = V.int 0)) = decide (rest % md ≠ 0) := by rw [decide_not]; exact congrArg (fun z => !z) (decide_eq_decide.mpr ⟨fun e => V.int.inj e, fun e => by rw [e]⟩)
                        rw [← this] at h
                        exact h
                      · refine hall (q := fun x => decide (x % md = 0)) rfl (Same.refl _) (fun x H8 Q8 e8 q8 => ?_) (fun x => rfl) (fun H9 e9 => ?_)
                        · refine ⟨_, rfl, _, rfl, a3, _, 1, _, rfl, rfl, e8.seqT ha6, hy1, _, _, rfl, rfl, by omega, rfl, ?_⟩
                          have := q8 _ (Same.refl _)
                          have e7 : decide (V.int (x % md) = V.int 0) = decide (x % md = 0) := decide_eq_decide.mpr ⟨fun e => V.int.inj e, fun e => by rw [e]⟩
                          rw [← e7] at this
                          exact this
                        · have := kq' H9 e9
                          rw [if_pos rfl, show iOf (.int md) = md from rfl, e, Bool.true_and] at this
                          exact this
                      · have := kq' H6 (Same.refl _)
                        rw [if_pos rfl, show iOf (.int md) = md from rfl, e, Bool.false_and] at this
                        exact this
                    | _ => cases i1
                  | false =>
                    rw [hR] at kq'
                    refine iteF ?_
                    refine sq_if0 (test_apart (a3 := a3) (ys := ys) (kk := kk) (r := r) ⟨rfl, ha6, hya6⟩ ?_)
                    cases hA : (decide (kk = "apart") && decide (((PyData.str kk :: r).length : Int) = 2)) with
                    | true =>
                      rw [hA] at kq'
                      refine iteT ?_
                      refine v_and (b := decide (rest ≠ 0)) (fun Q' h => ⟨_, rfl, rfl, ?_⟩) (fun e => ?_) (fun e => ?_)
                      · have : (!decide (V.int rest = V.int 0)) = decide (rest ≠ 0) := by rw [decide_not]; exact congrArg (fun z => !z) (decide_eq_decide.mpr ⟨fun e => V.int.inj e, fun e => by rw [e]⟩)
                        rw [← this] at h
                        exact h
                      · refine ⟨_, rfl, D, _, rfl, hd6, _, rfl, ?_⟩
                        have := kq' H6 (Same.refl _)
                        rw [if_neg (by decide), if_pos rfl, e, Bool.true_and] at this
                        have e7 : ((pers.map (Sq.dotp wv)).any fun n => n != 0) = pers.any fun p => decide (Sq.dotp wv p ≠ 0) := by
                          rw [List.any_map]
                          congr 1
                          funext p
                          show (Sq.dotp wv p != 0) = _
                          rw [decide_not]
                          rfl
                        rw [e7]
                        exact this
                      · have := kq' H6 (Same.refl _)
                        rw [if_neg (by decide), if_pos rfl, e, Bool.false_and] at this
                        exact this
                    | false =>
                      rw [hA] at kq'
                      refine iteF ?_
                      have tb : TB3 K (((((List.map some [V.ref a, V.int (i : Nat), rv, V.ref a3] ++ List.replicate (nm_is_bar.length - [V.ref a, V.int (i : Nat), rv, V.ref a3].length) none).set 4 (some b1)).set 5 (some (V.ref b2))).set 6 (some (V.ref D))).set 7 (some (V.int rest))) H6 a3 ys kk r := ⟨rfl, ha6, hya6⟩
                      have fin : ∀ b : Bool, (decide (kk = "less") && (decide (((PyData.str kk :: r).length : Int) = 2) && (decide (rest < 0) && pers.all fun p => decide (0 ≤ Sq.dotp wv p)))) = b → ∀ H9, Same H6 H9 → Q (.bl b) H9 := fun b e H9 e9 => by
                        have := kq' H9 e9
                        rw [if_neg (by decide), if_neg (by decide), e] at this
                        exact this
                      refine v_and (b := decide (kk = "less")) (fun Q' h => v_head tb h) (fun e1 => ?_) (fun e1 => fin false (by rw [e1]; rfl) _ (Same.refl _))
                      refine v_and (b := decide (((PyData.str kk :: r).length : Int) = 2)) (fun Q' h => v_len tb h) (fun e2 => ?_) (fun e2 => fin false (by rw [e1, e2]; rfl) _ (Same.refl _))
                      refine v_and (b := decide (rest < 0)) (fun Q' h => ⟨_, rfl, _, _, rfl, rfl, h⟩) (fun e3 => ?_) (fun e3 => fin false (by rw [e1, e2, e3]; rfl) _ (Same.refl _))
                      refine hall (q := fun x => decide (0 ≤ x)) rfl (Same.refl _) (fun x H8 Q8 e8 q8 => ⟨_, rfl, _, _, rfl, rfl, q8 _ (Same.refl _)⟩) (fun x => rfl) (fun H9 e9 => fin _ (by rw [e1, e2, e3]; rfl) _ e9)
end
end Ws
/-! ## P27m -/
namespace Ws
open PySem PySem.Spec PyProof.Rows L2 RZ
local macro_rules | `(tactic| walk_at "nf") => `(tactic| dsimp only [tNext, tSeq, tDrop, tRet, tRetN, tIfS, tAsg, gName, gTup, gCons, gNil, tVar, tC, tOp, tUn, rI, rI0, rU, rEq, rNe, tTest, tChain, tAnd, tOr, tNot, tAndV, tOrV, tNotV, tIf, tCB, tCKw, tCons, tNil, tTup, tLst, tCa, tCallS, tB, rIxT, rIxL, rIxS, cxOf, Cx.nox, Cx.wish, Cx.blk, L2.start, tPar, tPar3, tNever, tYes, tBits, tRz, tBM, rAppend, tyV, tXf, suiteEnds, gSub, rSetL, tBreak, rMax, tDGet, sDPut, tSl, tNoPart, tPart, tDisp, tPairs, tDGet2, tDNewK, tAugS, ipI, rGetL, tDIn, tDNotIn, tBM0, rPop])
local macro_rules | `(tactic| walk_at "sx") => `(tactic| simp only [wipe, List.cons.injEq, and_assoc, exists_and_left, and_true, List.map_cons, List.map_nil, List.length_cons, List.length_nil, List.cons_append, List.nil_append, List.append_nil, Nat.reduceAdd, Nat.reduceSub, List.replicate, List.getElem?_cons_zero, List.getElem?_cons_succ, List.set_cons_zero, List.set_cons_succ, Option.some.injEq, V.int.injEq, V.bl.injEq, V.ref.injEq, V.str.injEq, exists_eq_left', exists_eq_left, true_and, Bool.true_eq_false, Bool.false_eq_true, if_true, if_false])

def spNever : Sp := fun _ _ _ _ => False
def spHasBad (K : PySem.W.Frag) (BS BR : Addr) : Sp := fun vs H Q E => ∃ (v rv : V) (d rd : PyData), vs = [v, rv] ∧ Dp K H v d ∧ Dp K H rv rd ∧ ((∃ n : Nat, setF d = .bad n ∧ OutF K BS "place" (.int (n : Nat)) H E) ∨
  ∃ m ls, d = setD m ls ∧ SetOk m ls ∧ rowOk m rd = false ∧ OutF K BR "value" rd H E)
abbrev s_put_in_order : Stmt := top 47
abbrev nm_put_in_order : List Str := ["value", "many", "lines", "ties", "within", "_", "periods", "tie", "at", "line"]
abbrev pr_put_in_order : List Str := ["value"]
theorem sc_put_in_order : FnScope nm_put_in_order pr_put_in_order (defScope s_put_in_order) := ⟨rfl, rfl, rfl, by decide +kernel, rfl, by decide +kernel, by decide +kernel⟩
abbrev s_has : Stmt := top 49
abbrev nm_has : List Str := ["value", "row", "many", "lines", "line"]
abbrev pr_has : List Str := ["value", "row"]
theorem sc_has : FnScope nm_has pr_has (defScope s_has) := ⟨rfl, rfl, rfl, by decide +kernel, rfl, by decide +kernel, by decide +kernel⟩
section
variable {P : Program} {w : World} {K : PySem.W.Frag} {mg : Str → Option Value} {base : Heap} {BS TG BR BI : Addr}
theorem never_put (D : Dt K mg "put_in_order" s_put_in_order pr_put_in_order) : Df P w K mg base CX0 1 "put_in_order" pr_put_in_order spNever := by
  refine D.ok sc_put_in_order (fun vs H Q E h => h.elim) (fun f cdv A outer s H vs Q E hr h => h.elim)
theorem ok_has_bad (B : Bl mg) (T : ErS P w K mg base BS TG BR BI) (F1 : Df P w K mg base (L2.CX P w) 6 "need_set" pr_need_set (spNeedSet K BS TG)) (F2 : Df P w K mg base (L2.CX P w) 5 "need_row_of" pr_need_row_of (spNeedRow K BR)) (F3 : Df P w K mg base CX0 1 "put_in_order" pr_put_in_order spNever) (F4 : Df P w K mg base CX0 3 "turns_of" pr_turns_of (spTurnsOf K)) (F5 : Df P w K mg base CX0 9 "square_of" pr_square_of (spSq K)) (D : Dt K mg "has" s_has pr_has) :
    Df P w K mg base (L2.CX P w) 10 "has" pr_has (spHasBad K BS BR) := by
  refine D.okX sc_has (fun vs H Q E h => ?_) (fun f cdv A outer s H vs Q E hr h => ?_)
  · obtain ⟨v, rv, d, rd, rfl, _⟩ := h
    rfl
  · obtain ⟨v, rv, d, rd, rfl, hd, hrv, k⟩ := h
    refine ⟨_, (pss_cons (ps_expr (pe_f (E := E) F1 (hr.mono (by decide)) (passes_call (takes_of rfl rfl rfl rfl) fun _ _ _ _ h => h) (pa_cons (pv 0) pa_nil))) (pss_cons (ps_expr (pe_f (E := E) F2 (hr.mono (by decide)) (passes_call (takes_of rfl rfl rfl rfl) fun _ _ _ _ h => h) (pa_cons (pv 0) (pa_cons (pv 1) pa_nil)))) (pss_cons (ps_asg (pe_f F3 (hr.mono (by decide)) pass0 (pa_cons (pv 0) pa_nil)) (pg_tup rfl (pgs_cons (pg_name (i := 2) sc_has.nd rfl (Or.inr rfl)) (pgs_cons (pg_name (i := 3) sc_has.nd rfl (Or.inl rfl)) pgs_nil)))) (pss_one (ps_ret (pe_callB (cr_any rfl) (by rfl) B.any boot_any (pa_cons (pe_lc (own := [("line", 4)]) (g := gName 4) (tt := tYes) (te := tOp (fun x y H Q => y = V.non ∧ Q (V.bl (!decide (x = V.non))) H) (tCa (spTurnsOf K) E0 (tCons (tVar 4) (tCons (tCa (spSq K) E0 (tCons (tVar 2) (tCons (tOp (rIxT K) (tVar 4) (tC (V.int 1))) tNil))) (tCons (tVar 1) tNil)))) (tC V.non)) (by rfl) sc_has.nd (pi_tup (pv 3)) (blkOk_by (own := [("line", 4)]) (N := nm_has) (sc := defScope s_has) (by decide +kernel)) (fun _ _ _ _ _ => pg_name (i := 4) sc_has.nd rfl (Or.inl rfl)) (fun _ _ _ _ _ => pts_nil) (fun _ _ _ _ _ => (pe_cmpR op_notN (pe_f F4 (hr.mono (by decide)) pass0 (pa_cons (pv 4) (pa_cons (pe_f F5 (hr.mono (by decide)) pass0 (pa_cons (pv 2) (pa_cons (pe_ix ix_tup (pv 4) pe_int (fun _ _ => rfl)) pa_nil))) (pa_cons (pv 1) pa_nil)))) pe_non (nomark _)))) pa_nil))))))), ?_⟩
    dsimp only [cxOf, Cx.nox, L2.start]
    refine sq_dr ⟨_, rfl, ?_⟩
    rcases k with ⟨n, e, ko⟩ | ⟨m, ls, rfl, o, hno, k2⟩
    · exact ⟨v, d, rfl, hd, fun z => (by rw [e] at z; cases z), fun n' e' => (by rw [e] at e'; cases e'; exact ko), fun z => (by rw [e] at z; cases z)⟩
    · obtain ⟨a, u, rfl, hs, hu⟩ := set_v hd
      refine ⟨_, _, rfl, hd, fun _ H1 e1 => ?_, fun n' e' => (by rw [o.ok] at e'; cases e'), fun z => (by rw [o.ok] at z; cases z)⟩
      refine sq_dr ⟨_, rfl, _, rfl, .non, rv, u, a, m, rd, rfl, e1.seqT hs, o.m4, hrv.to e1, fun hok => ?_, fun _ => k2.to e1⟩
      rw [hno] at hok
      cases hok
end
end Ws
/-! ## Y27 -/
/-! min(t), max(t) of a tuple of ints -/
namespace Ws
open PySem PySem.Spec PyProof.Rows L2 RZ
def rMaxTI (K : PySem.W.Frag) : List V → Hp → VK → Prop := fun vs H Q => ∃ (a : Addr) (ns : List Int), vs = [V.ref a] ∧ SqT K H a (ns.map V.int) ∧ 0 < ns.length ∧ ∀ m, m ∈ ns → (∀ y, y ∈ ns → y ≤ m) → Q (.int m) H
def rMinTI (K : PySem.W.Frag) : List V → Hp → VK → Prop := fun vs H Q => ∃ (a : Addr) (ns : List Int), vs = [V.ref a] ∧ SqT K H a (ns.map V.int) ∧ 0 < ns.length ∧ ∀ m, m ∈ ns → (∀ y, y ∈ ns → m ≤ y) → Q (.int m) H
theorem minD_ints (a : Int) (as : List Int) : ∃ m, PySem.W.minD (PyData.int a) (as.map PyData.int) = .int m ∧ m ∈ a :: as ∧ ∀ y ∈ a :: as, m ≤ y := by
  unfold PySem.W.minD
  induction as generalizing a with
  | nil => exact ⟨a, rfl, by simp, by simp⟩
  | cons y as ih =>
    simp only [List.map_cons, List.foldl_cons]
    rw [PySem.W.dataLt_int]
    by_cases c : y < a
    · rw [if_pos (by simpa using c)]
      obtain ⟨m, h1, h2, h3⟩ := ih y
      refine ⟨m, h1, ?_, fun z hz => ?_⟩
      · rcases List.mem_cons.mp h2 with e | e
        · rw [e]; simp
        · exact List.mem_cons_of_mem _ (List.mem_cons_of_mem _ e)
      · have hy := h3 y (by simp)
        rcases List.mem_cons.mp hz with rfl | hz
        · omega
        · exact h3 z hz
    · rw [if_neg (by simpa using c)]
      obtain ⟨m, h1, h2, h3⟩ := ih a
      refine ⟨m, h1, ?_, fun z hz => ?_⟩
      · rcases List.mem_cons.mp h2 with e | e
        · rw [e]; simp
        · exact List.mem_cons_of_mem _ (List.mem_cons_of_mem _ e)
      · have ha := h3 a (by simp)
        rcases List.mem_cons.mp hz with rfl | hz
        · exact ha
        · rcases List.mem_cons.mp hz with rfl | hz
          · omega
          · exact h3 z (List.mem_cons_of_mem _ hz)
theorem maxD_ints (a : Int) (as : List Int) : ∃ m, PySem.W.maxD (PyData.int a) (as.map PyData.int) = .int m ∧ m ∈ a :: as ∧ ∀ y ∈ a :: as, y ≤ m := by
  unfold PySem.W.maxD
  induction as generalizing a with
  | nil => exact ⟨a, rfl, by simp, by simp⟩
  | cons y as ih =>
    simp only [List.map_cons, List.foldl_cons]
    rw [PySem.W.dataLt_int]
    by_cases c : a < y
    · rw [if_pos (by simpa using c)]
      obtain ⟨m, h1, h2, h3⟩ := ih y
      refine ⟨m, h1, ?_, fun z hz => ?_⟩
      · rcases List.mem_cons.mp h2 with e | e
        · rw [e]; simp
        · exact List.mem_cons_of_mem _ (List.mem_cons_of_mem _ e)
      · have hy := h3 y (by simp)
        rcases List.mem_cons.mp hz with rfl | hz
        · omega
        · exact h3 z hz
    · rw [if_neg (by simpa using c)]
      obtain ⟨m, h1, h2, h3⟩ := ih a
      refine ⟨m, h1, ?_, fun z hz => ?_⟩
      · rcases List.mem_cons.mp h2 with e | e
        · rw [e]; simp
        · exact List.mem_cons_of_mem _ (List.mem_cons_of_mem _ e)
      · have ha := h3 a (by simp)
        rcases List.mem_cons.mp hz with rfl | hz
        · exact ha
        · rcases List.mem_cons.mp hz with rfl | hz
          · omega
          · exact h3 z (List.mem_cons_of_mem _ hz)
section
variable {X : Cx}
theorem cr_minT (hc : X.calm = true) (hu : X.A.units + 65 < cLine) : CallR X (.builtin "min") (rMinTI X.K) := by
  intro pins s σ H vs us Q I r h
  obtain ⟨p, ns, rfl, hs, hne, q⟩ := h
  obtain ⟨its, rel, pl, _⟩ := I.tuple hs
  rw [Vals.ref1 r]
  match ns, hne with
  | a :: as, _ =>
  obtain ⟨bs, hr⟩ := Dp.readsAll I ((a :: as).map PyData.int) _ its (DpAll.ints (a :: as)) rel
  refine PySem.W.min_tuple_data (x := .int a) (xs := as.map PyData.int) (I.ok.hd hc) pl (by simpa using hr) ⟨fun d hd e he => ?_, fun d hd z => ?_⟩ (by have := depth_ints (a :: as); simp only [List.map_cons] at this; omega) fun k v h2 tk cs hv hR up => ?_
  · have hd : d ∈ (a :: as).map PyData.int := hd
    have he : e ∈ (a :: as).map PyData.int := he
    obtain ⟨d, _, rfl⟩ := List.mem_map.mp hd
    obtain ⟨e, _, rfl⟩ := List.mem_map.mp he
    rfl
  · have hd : d ∈ (a :: as).map PyData.int := hd
    obtain ⟨d, _, rfl⟩ := List.mem_map.mp hd
    cases z
  · obtain ⟨m, h1, h3, h4⟩ := minD_ints a as
    rw [h1] at hR
    cases hR
    exact ⟨.int m, H, I.kept up, ⟨_, rfl⟩, q m h3 h4⟩
theorem cr_maxT (hc : X.calm = true) (hu : X.A.units + 65 < cLine) : CallR X (.builtin "max") (rMaxTI X.K) := by
  intro pins s σ H vs us Q I r h
  obtain ⟨p, ns, rfl, hs, hne, q⟩ := h
  obtain ⟨its, rel, pl, _⟩ := I.tuple hs
  rw [Vals.ref1 r]
  match ns, hne with
  | a :: as, _ =>
  obtain ⟨bs, hr⟩ := Dp.readsAll I ((a :: as).map PyData.int) _ its (DpAll.ints (a :: as)) rel
  refine PySem.W.max_tuple_data (x := .int a) (xs := as.map PyData.int) (I.ok.hd hc) pl (by simpa using hr) ⟨fun d hd e he => ?_, fun d hd z => ?_⟩ (by have := depth_ints (a :: as); simp only [List.map_cons] at this; omega) fun k v h2 tk cs hv hR up => ?_
  · have hd : d ∈ (a :: as).map PyData.int := hd
    have he : e ∈ (a :: as).map PyData.int := he
    obtain ⟨d, _, rfl⟩ := List.mem_map.mp hd
    obtain ⟨e, _, rfl⟩ := List.mem_map.mp he
    rfl
  · have hd : d ∈ (a :: as).map PyData.int := hd
    obtain ⟨d, _, rfl⟩ := List.mem_map.mp hd
    cases z
  · obtain ⟨m, h1, h3, h4⟩ := maxD_ints a as
    rw [h1] at hR
    cases hR
    exact ⟨.int m, H, I.kept up, ⟨_, rfl⟩, q m h3 h4⟩
end
end Ws
/-! ## I27 -/
namespace Sq
theorem neg_min {left : Row} {m : Int} (h1 : m ∈ left) (h2 : ∀ y ∈ left, m ≤ y) : negB left = decide (m < 0) := by
  unfold negB
  rw [Bool.eq_iff_iff]
  simp only [List.any_eq_true, decide_eq_true_eq]
  constructor
  · rintro ⟨x, hx, hn⟩
    have := h2 x hx
    omega
  · exact fun h => ⟨m, h1, h⟩
theorem zer_max {left : Row} {m : Int} (hn : negB left = false) (h1 : m ∈ left) (h2 : ∀ y ∈ left, y ≤ m) : zerB left = decide (m = 0) := by
  have nn : ∀ y ∈ left, 0 ≤ y := fun y hy => by
    unfold negB at hn
    have := List.any_eq_false.mp hn y hy
    simpa using this
  unfold zerB
  rw [Bool.eq_iff_iff]
  simp only [List.all_eq_true, decide_eq_true_eq]
  constructor
  · exact fun h => h m h1
  · intro h x hx
    have := h2 x hx
    have := nn x hx
    omega
theorem foldl_max (l : List Int) (a : Int) : (∀ y ∈ l, y ≤ l.foldl max a) ∧ a ≤ l.foldl max a ∧ (l.foldl max a = a ∨ l.foldl max a ∈ l) := by
  induction l generalizing a with
  | nil => simp
  | cons x l ih =>
    rw [List.foldl_cons]
    obtain ⟨h1, h2, h3⟩ := ih (max a x)
    refine ⟨fun y hy => ?_, by omega, ?_⟩
    · rcases List.mem_cons.mp hy with rfl | hy
      · omega
      · exact h1 y hy
    · rcases h3 with h3 | h3
      · by_cases c : x ≤ a
        · left; omega
        · right; rw [h3]; simp; left; omega
      · right; exact List.mem_cons_of_mem _ h3
theorem mx_max {left : Row} {m : Int} (hn : negB left = false) (h1 : m ∈ left) (h2 : ∀ y ∈ left, y ≤ m) : mx left = m.toNat := by
  have nn : ∀ y ∈ left, 0 ≤ y := fun y hy => by
    unfold negB at hn
    have := List.any_eq_false.mp hn y hy
    simpa using this
  obtain ⟨a1, a2, a3⟩ := foldl_max left 0
  have := a1 m h1
  unfold mx
  have : left.foldl max 0 = m := by
    rcases a3 with e | e
    · have := nn m h1
      omega
    · have := h2 _ e
      omega
  rw [this]
theorem less_zero (left p : Row) (h : p.length = left.length) : less left p 0 = left := by
  unfold less
  induction left generalizing p with
  | nil => simp
  | cons x left ih =>
    cases p with
    | nil => simp at h
    | cons y p =>
      rw [List.zipWith_cons_cons, ih p (by simpa using h)]
      simp
theorem less_succ (left p : Row) (k : Nat) : subr (less left p k) p = less left p (k + 1) := by
  unfold subr less
  induction left generalizing p with
  | nil => simp
  | cons x left ih =>
    cases p with
    | nil => simp
    | cons y p =>
      rw [List.zipWith_cons_cons, List.zipWith_cons_cons, List.zipWith_cons_cons, ih]
      congr 1
      have : ((k + 1 : Nat) : Int) * y = k * y + y := by
        rw [Int.natCast_add, Int.add_mul]; simp
      omega
theorem less_len (left p : Row) (k : Nat) (h : p.length = left.length) : (less left p k).length = left.length := by simp [less, h]
theorem less_le {left p : Row} {k : Nat} {b : Int} (h1 : ∀ x ∈ left, x ≤ b) (h2 : ∀ x ∈ p, 0 ≤ x) : ∀ x ∈ less left p k, x ≤ b := by
  unfold less
  induction left generalizing p with
  | nil => simp
  | cons x left ih =>
    cases p with
    | nil => simp
    | cons y p =>
      intro z hz
      rw [List.zipWith_cons_cons] at hz
      rcases List.mem_cons.mp hz with rfl | hz
      · have := h1 x (by simp)
        have := h2 y (by simp)
        have := Int.mul_nonneg (show (0 : Int) ≤ k by omega) this
        omega
      · exact ih (fun x hx => h1 x (List.mem_cons_of_mem _ hx)) (fun x hx => h2 x (List.mem_cons_of_mem _ hx)) z hz
end Sq
/-! ## Q27a -/
namespace Ws
open PySem PySem.Spec PyProof.Rows L2 RZ
local macro_rules | `(tactic| walk_at "nf") => `(tactic| dsimp only [tNext, tSeq, tDrop, tRet, tRetN, tIfS, tAsg, gName, gTup, gCons, gNil, tVar, tC, tOp, tUn, rI, rI0, rU, rEq, rNe, tTest, tChain, tAnd, tOr, tNot, tAndV, tOrV, tNotV, tIf, tCB, tCKw, tCons, tNil, tTup, tLst, tCa, tCallS, tB, rIxT, rIxL, rIxS, cxOf, Cx.nox, Cx.wish, Cx.blk, L2.start, tPar, tPar3, tNever, tYes, tBits, tRz, tBM, rAppend, tyV, tXf, suiteEnds, gSub, rSetL, tBreak, rMax, tDGet, sDPut, tSl, tNoPart, tPart, tDisp, tPairs, tDGet2, tDNewK, tAugS, ipI, rGetL, tDIn, tDNotIn, tBM0, rPop])
local macro_rules | `(tactic| walk_at "sx") => `(tactic| simp only [wipe, List.cons.injEq, and_assoc, exists_and_left, and_true, List.map_cons, List.map_nil, List.length_cons, List.length_nil, List.cons_append, List.nil_append, List.append_nil, Nat.reduceAdd, Nat.reduceSub, List.replicate, List.getElem?_cons_zero, List.getElem?_cons_succ, List.set_cons_zero, List.set_cons_succ, Option.some.injEq, V.int.injEq, V.bl.injEq, V.ref.injEq, V.str.injEq, exists_eq_left', exists_eq_left, true_and, Bool.true_eq_false, Bool.false_eq_true, if_true, if_false])

/-! ### the law's own defs -/
def spRowL (K : PySem.W.Frag) : Sp := fun vs H Q _ => ∃ (a l c : Addr) (n m : Nat) (b : Int), vs = [.ref a, .int (m : Nat), .int b] ∧ LSt H a l c n ∧ n ≤ 900000 ∧ m ≤ 10 ∧ 1 ≤ b ∧ b ≤ 1000000000 ∧
  ∀ H' u row, Sbt a l H H' → LSt H' a l c (n + m) → Dp K H' u (intsD row) → row.length = m → (∀ x ∈ row, 0 ≤ x ∧ x < b) → Q u H'
def spMinus (K : PySem.W.Frag) : Sp := fun vs H Q _ => ∃ (av bv : V) (xs ys : List Int), vs = [av, bv] ∧ Dp K H av (intsD xs) ∧ Dp K H bv (intsD ys) ∧ xs.length ≤ 1000 ∧ ∀ H' u, Same H H' → Dp K H' u (intsD (Sq.subr xs ys)) → Q u H'
def spWhole (K : PySem.W.Frag) : Sp := fun vs H Q _ => ∃ v d, vs = [v] ∧ Dp K H v d ∧ Q (.bl (isI d)) H
def spSumL (K : PySem.W.Frag) : Sp := fun vs H Q _ => ∃ (av bv : V) (xs ys : List Int), vs = [av, bv] ∧ Dp K H av (intsD xs) ∧ Dp K H bv (intsD ys) ∧ (∀ x ∈ xs, B64 x) ∧ ∀ H', Same H H' → Q (.int (Sq.dotp xs ys)) H'
def spFills (K : PySem.W.Frag) (N : Nat) : Sp := fun vs H Q _ => ∃ (av bv : V) (left : List Int) (ps : List Sq.Row) (m : Nat), vs = [av, bv] ∧ Dp K H av (intsD left) ∧ Dp K H bv (.tuple (ps.map intsD)) ∧ left.length = m ∧ 1 ≤ m ∧ m ≤ 10 ∧ (∀ p ∈ ps, p.length = m) ∧ ps.length < N ∧ (∀ x ∈ left, x ≤ 100000) ∧ (∀ p ∈ ps, ∀ x ∈ p, 0 ≤ x) ∧ ∀ H', Same H H' → Q (.bl (Sq.fills ps left)) H'
abbrev s__law_row : Stmt := top 54
abbrev nm__law_row : List Str := ["state", "many_so", "bound", "place"]
abbrev pr__law_row : List Str := ["state", "many_so", "bound"]
theorem sc__law_row : FnScope nm__law_row pr__law_row (defScope s__law_row) := ⟨rfl, rfl, rfl, by decide +kernel, rfl, by decide +kernel, by decide +kernel⟩
abbrev s__law_minus : Stmt := top 60
abbrev nm__law_minus : List Str := ["row", "base", "number", "less"]
abbrev pr__law_minus : List Str := ["row", "base"]
theorem sc__law_minus : FnScope nm__law_minus pr__law_minus (defScope s__law_minus) := ⟨rfl, rfl, rfl, by decide +kernel, rfl, by decide +kernel, by decide +kernel⟩
abbrev s__law_whole : Stmt := top 61
abbrev nm__law_whole : List Str := ["value"]
abbrev pr__law_whole : List Str := ["value"]
theorem sc__law_whole : FnScope nm__law_whole pr__law_whole (defScope s__law_whole) := ⟨rfl, rfl, rfl, by decide +kernel, rfl, by decide +kernel, by decide +kernel⟩
abbrev s__law_sum : Stmt := top 62
abbrev nm__law_sum : List Str := ["weights", "row", "found", "weight", "number"]
abbrev pr__law_sum : List Str := ["weights", "row"]
theorem sc__law_sum : FnScope nm__law_sum pr__law_sum (defScope s__law_sum) := ⟨rfl, rfl, rfl, by decide +kernel, rfl, by decide +kernel, by decide +kernel⟩
abbrev s__law_fills : Stmt := top 55
abbrev nm__law_fills : List Str := ["left", "periods_so", "here", "step", "number", "less"]
abbrev pr__law_fills : List Str := ["left", "periods_so"]
theorem sc__law_fills : FnScope nm__law_fills pr__law_fills (defScope s__law_fills) := ⟨rfl, rfl, rfl, by decide +kernel, rfl, by decide +kernel, by decide +kernel⟩
structure SN (n : Nat) (d : PyData) : Prop where
  lay : d.canLay0 = true
  dep : d.depth ≤ n
theorem SN.all {n : Nat} : ∀ {ds : List PyData}, (∀ d ∈ ds, SN n d) → PyData.canLayAll0 ds = true ∧ PyData.depthAll ds ≤ n
  | [], _ => ⟨by simp [PyData.canLayAll0], by simp [PyData.depthAll]⟩
  | d :: ds, h => by
    obtain ⟨i1, i2⟩ := SN.all (ds := ds) fun x hx => h x (List.mem_cons_of_mem _ hx)
    have h1 := h d (List.mem_cons_self ..)
    refine ⟨by simp [PyData.canLayAll0, i1, h1.lay], ?_⟩
    have := h1.dep
    simp only [PyData.depthAll]
    omega
theorem SN.list {n : Nat} {ds : List PyData} (h : ∀ d ∈ ds, SN n d) : SN (n + 1) (.list ds) := by
  obtain ⟨h1, h2⟩ := SN.all h
  exact ⟨by simp [PyData.canLay0, h1], by simp only [PyData.depth]; omega⟩
theorem SN.tuple {n : Nat} {ds : List PyData} (h : ∀ d ∈ ds, SN n d) : SN (n + 1) (.tuple ds) := by
  obtain ⟨h1, h2⟩ := SN.all h
  exact ⟨by simp [PyData.canLay0, h1], by simp only [PyData.depth]; omega⟩
theorem SN.shaped {n : Nat} {d : PyData} (h : SN n d) (hn : n ≤ 64) : SeqAt.shaped d = true := by
  have := h.dep
  unfold SeqAt.shaped
  rw [h.lay, decide_eq_true (by omega)]
  rfl
theorem SN.int (z : Int) : SN 0 (.int z) := ⟨by simp [PyData.canLay0], by simp [PyData.depth]⟩
theorem SN.ints (ns : List Int) : SN 1 (intsD ns) := SN.tuple fun d hd => by
  obtain ⟨i, _, rfl⟩ := List.mem_map.mp hd
  exact .int i
theorem SN.rowsT (ps : List Sq.Row) : SN 2 (.tuple (ps.map intsD)) := SN.tuple fun d hd => by
  obtain ⟨r, _, rfl⟩ := List.mem_map.mp hd
  exact .ints r
theorem SN.rowsLi (ps : List Sq.Row) : SN 2 (.list (ps.map intsD)) := SN.list fun d hd => by
  obtain ⟨r, _, rfl⟩ := List.mem_map.mp hd
  exact .ints r
theorem SN.ln (l : Ln) : SN 3 (lineD l) := SN.tuple fun d hd => by
  rcases List.mem_cons.mp hd with rfl | hd
  · exact ⟨(SN.ints _).lay, Nat.le_trans (SN.ints _).dep (by decide)⟩
  · obtain rfl := List.mem_singleton.mp hd
    exact .rowsT _
theorem eqv_nil_t (ds : List PyData) : PyData.eqv (.tuple ds) (.tuple []) = ds.isEmpty := by
  cases ds <;> rfl
theorem eqv_nil_l (ds : List PyData) : PyData.eqv (.list ds) (.list []) = ds.isEmpty := by
  cases ds <;> rfl
theorem vals_of {ys : List V} {P : Int → Prop} (h : ∀ (i : Nat) (y : V), ys[i]? = some y → ∃ r : Int, y = V.int r ∧ P r) : ∃ cs : List Int, ys = cs.map V.int ∧ cs.length = ys.length ∧ ∀ c ∈ cs, P c := by
  induction ys with
  | nil => exact ⟨[], rfl, rfl, fun c hc => absurd hc (by simp)⟩
  | cons y ys ih =>
    obtain ⟨cs, h1, h2, h3⟩ := ih fun i z hz => h (i + 1) z (by simpa using hz)
    obtain ⟨r, h4, h5⟩ := h 0 y rfl
    refine ⟨r :: cs, by rw [h4, h1]; rfl, by simp [h2], fun c hc => ?_⟩
    rcases List.mem_cons.mp hc with e | e
    · rw [e]; exact h5
    · exact h3 c e
section
variable {P : Program} {w : World} {K : PySem.W.Frag} {mg : Str → Option Value} {base : Heap}
theorem ok_rowL (B : Bl mg) (F1 : Df P w K mg base CX0 2 "_law_draw" pr__law_draw spDrawW) (D : Dt K mg "_law_row" s__law_row pr__law_row) : Df P w K mg base CX0 3 "_law_row" pr__law_row (spRowL K) := by
  refine D.ok sc__law_row (fun vs H Q E h => ?_) (fun f cdv A outer s H vs Q E hr h => ?_)
  · obtain ⟨a, l, c, n, m, b, rfl, _⟩ := h
    rfl
  · obtain ⟨a, l, c, n, m, b, rfl, hl, hn, hm, b1, b2, k⟩ := h
    refine ⟨_, (pss_one (ps_ret (pe_callTy call_tuple_of (by rfl) B.tuple PyProof.Rows.boot_tuple (pa_cons (pe_lc (own := [("place", 3)]) (g := gName 3) (tt := tYes) (by rfl) sc__law_row.nd (pi_range1 (by rfl) B.range (pa_cons (pv 1) pa_nil)) (blkOk_by (own := [("place", 3)]) (N := nm__law_row) (sc := defScope s__law_row) (by decide +kernel)) (fun _ _ _ _ _ => pg_name (i := 3) sc__law_row.nd rfl (Or.inl rfl)) (fun _ _ _ _ _ => pts_nil) (fun _ _ _ _ _ => (pe_f F1 (hr.mono (by decide)) pass0 (pa_cons (pv 0) (pa_cons (pv 2) pa_nil))))) pa_nil)))), ?_⟩
    walk_at "nf"
    walk_at "sx"
    refine ⟨_, rfl, (m : Int), rfl, by omega, by omega, fun D hD => lcD walk_range 1 hD (slt (by omega)) (fun _ y => ∃ r : Int, y = V.int r ∧ (0 ≤ r ∧ r < b)) hl (fun _ => trivial) (fun i x H1 H2 Q1 hi e1 s1 y q1 => ?_) (fun H1 ys e1 s1 hy hn1 hr1 => ?_)⟩
    · obtain ⟨rfl, rfl⟩ := y
      walk_at "nf"
      walk_at "sx"
      exact ⟨a, l, c, _, b, rfl, s1, by omega, b1, by omega, fun H3 r e3 s3 r1 r2 => q1 _ _ ⟨r, rfl, r1, r2⟩ e3 (s3.mono (by omega))⟩
    · obtain ⟨cs, rfl, hcl, hcb⟩ := vals_of hr1
      have em : ((m : Int)).toNat = m := by omega
      exact ⟨D, rfl, _, .inl ⟨.of hy, fun t ht => k _ _ cs (e1.same (Same.new ht)) ((s1.new ht).mono (by omega)) (Dp.tup_ints (.of upd_same)) (by omega) hcb⟩⟩
theorem ok_minus (B : Bl mg) (D : Dt K mg "_law_minus" s__law_minus pr__law_minus) : Df P w K mg base CX0 1 "_law_minus" pr__law_minus (spMinus K) := by
  refine D.ok sc__law_minus (fun vs H Q E h => ?_) (fun f cdv A outer s H vs Q E hr h => ?_)
  · obtain ⟨av, bv, fs, xs, rfl, _⟩ := h
    rfl
  · obtain ⟨av, bv, fs, xs, rfl, ha, hb, hz, k⟩ := h
    obtain ⟨p, rfl, hp⟩ := ha.ints_tup
    obtain ⟨q, rfl, hq⟩ := hb.ints_tup
    refine ⟨_, (pss_one (ps_ret (pe_callTy call_tuple_of (by rfl) B.tuple PyProof.Rows.boot_tuple (pa_cons (pe_lc (own := [("number", 2), ("less", 3)]) (g := gTup K 2 (gCons (gName 2) (gCons (gName 3) gNil))) (tt := tYes) (by rfl) sc__law_minus.nd (pi_zipA (by rfl) B.zip (pa_cons (pv 0) (pa_cons (pv 1) pa_nil))) (blkOk_by (own := [("number", 2), ("less", 3)]) (N := nm__law_minus) (sc := defScope s__law_minus) (by decide +kernel)) (fun _ _ _ _ _ => pg_tup rfl (pgs_cons (pg_name (i := 2) sc__law_minus.nd rfl (Or.inl rfl)) (pgs_cons (pg_name (i := 3) sc__law_minus.nd rfl (Or.inl rfl)) pgs_nil))) (fun _ _ _ _ _ => pts_nil) (fun _ _ _ _ _ => (pe_op op_sub (pv 2) (pv 3)))) pa_nil)))), ?_⟩
    walk_at "nf"
    walk_at "sx"
    refine ⟨_, rfl, _, rfl, p, q, _, _, rfl, .inr ⟨hp, hq, fun D hD => lcS walk_zipT hD (by simp only [List.length_map]; exact slt (by omega)) (fun i y => y = .int (fs.getD i 0 - xs.getD i 0)) (fun H1 e => ⟨e.seqT hp, e.seqT hq⟩) (fun i x H1 H2 Q1 hi e y q1 => ?_) (fun H1 ys e hD1 hn hr => ?_)⟩⟩
    · obtain ⟨T, x1, x2, rfl, hT, rfl, h1, h2⟩ := y
      obtain ⟨rfl, rfl, m1, m2⟩ := pair_at hi h1 h2
      walk_at "nf"
      refine ⟨T, _, rfl, .of upd_same, rfl, ?_⟩
      walk_at "sx"
      exact q1 _ _ rfl (Same.new hT)
    · have ev := vals_int (f := fun i => fs.getD i 0 - xs.getD i 0) hn hr
      simp only [List.length_map] at ev
      rw [zip_range (fun a b => a - b)] at ev
      exact ⟨D, rfl, _, .inl ⟨.of (by rw [hD1, ev]; rfl), fun l hl => k _ _ (e.then_new hl) (Dp.tup_ints (.of upd_same))⟩⟩
theorem ok_whole (B : Bl mg) (D : Dt K mg "_law_whole" s__law_whole pr__law_whole) : Df P w K mg base CX0 1 "_law_whole" pr__law_whole (spWhole K) := by
  refine D.ok sc__law_whole (fun vs H Q E h => ?_) (fun f cdv A outer s H vs Q E hr h => ?_)
  · obtain ⟨v, d, rfl, _⟩ := h
    rfl
  · obtain ⟨v, d, rfl, hd, k⟩ := h
    refine ⟨_, (pss_one (ps_ret (pe_and (pe_callB call_isi (by rfl) B.isinstance boot_isinstance (pa_cons (pv 0) (pa_cons (pe_bltn (v := .ty "int") (by rfl) B.int PyProof.Rows.boot_int rfl) pa_nil))) (pe_one (pe_not (pe_callB call_isi (by rfl) B.isinstance boot_isinstance (pa_cons (pv 0) (pa_cons (pe_bltn (v := .ty "bool") (by rfl) B.bool PyProof.Rows.boot_bool rfl) pa_nil)))))))), ?_⟩
    walk_at "nf"
    walk_at "sx"
    refine isi_int hd ⟨_, rfl, ?_⟩
    cases hx : isIB d with
    | true =>
      refine iteT (isi_bool hd ⟨_, rfl, ?_⟩)
      have e : (!isBo d) = isI d := by cases d <;> first | rfl | (simp [isIB, isI, isBo] at hx)
      rw [e]
      exact k
    | false =>
      refine iteF ?_
      have e : isI d = false := by cases d <;> first | rfl | (simp [isIB, isI, isBo] at hx)
      rw [← e]
      exact k
theorem dotp_take {xs ys : List Int} {i : Nat} {x y : Int} (h1 : xs[i]? = some x) (h2 : ys[i]? = some y) : Sq.dotp (xs.take (i + 1)) (ys.take (i + 1)) = Sq.dotp (xs.take i) (ys.take i) + x * y := by
  induction xs generalizing ys i with
  | nil => simp at h1
  | cons a xs ih =>
    cases ys with
    | nil => simp at h2
    | cons b ys =>
      cases i with
      | zero =>
        have : a = x := by simpa using h1
        have : b = y := by simpa using h2
        subst_vars
        simp [Sq.dotp]
      | succ i =>
        have := ih (by simpa using h1) (by simpa using h2)
        show a * b + Sq.dotp (xs.take (i + 1)) (ys.take (i + 1)) = (a * b + Sq.dotp (xs.take i) (ys.take i)) + x * y
        omega
theorem dotp_min (xs ys : List Int) : Sq.dotp (xs.take (min xs.length ys.length)) (ys.take (min xs.length ys.length)) = Sq.dotp xs ys := by
  induction xs generalizing ys with
  | nil => simp [Sq.dotp]
  | cons a xs ih =>
    cases ys with
    | nil => simp [Sq.dotp]
    | cons b ys =>
      rw [List.length_cons, List.length_cons, Nat.succ_min_succ]
      show a * b + Sq.dotp (xs.take _) (ys.take _) = a * b + Sq.dotp xs ys
      rw [ih]
theorem ok_sumL (B : Bl mg) (D : Dt K mg "_law_sum" s__law_sum pr__law_sum) : Df P w K mg base CX0 1 "_law_sum" pr__law_sum (spSumL K) := by
  refine D.ok sc__law_sum (fun vs H Q E h => ?_) (fun f cdv A outer s H vs Q E hr h => ?_)
  · obtain ⟨av, bv, fs, xs, rfl, _⟩ := h
    rfl
  · obtain ⟨av, bv, fs, xs, rfl, ha, hb, hf, k⟩ := h
    obtain ⟨p, rfl, hp⟩ := ha.ints_tup
    obtain ⟨q, rfl, hq⟩ := hb.ints_tup
    refine ⟨_, (pss_cons (ps_set (i := 2) sc__law_sum.nd rfl (Or.inl rfl) pe_int) (pss_cons (ps_for PassesOwn.never rfl (pi_zipA (by rfl) B.zip (pa_cons (pv 0) (pa_cons (pv 1) pa_nil))) (pg_tup rfl (pgs_cons (pg_name (i := 3) sc__law_sum.nd rfl (Or.inl rfl)) (pgs_cons (pg_name (i := 4) sc__law_sum.nd rfl (Or.inl rfl)) pgs_nil))) (pss_one (ps_set (i := 2) sc__law_sum.nd rfl (Or.inl rfl) (pe_op op_add (pv 2) (pe_op op_mul (pv 3) (pv 4)))))) (pss_one (ps_ret (pv 2))))), ?_⟩
    walk_at "nf"
    walk_at "sx"
    refine ⟨_, rfl, _, rfl, p, q, _, _, rfl, .inr ⟨hp, hq, for_it walk_zipT (fun i σ H' => Same H H' ∧ ∃ v3 v4, σ = [some (V.ref p), some (.ref q), some (.int (Sq.dotp (fs.take i) (xs.take i))), v3, v4]) ⟨Same.refl _, _, _, rfl⟩ (fun i σ H' _ p => ⟨p.1.seqT hp, p.1.seqT hq⟩) (fun i x σ H1 H2 hi py y => ?_) (fun σ H1 py => ?_)⟩⟩
    · obtain ⟨s1, v3, v4, rfl⟩ := py
      obtain ⟨T, x1, x2, rfl, hT, rfl, h1, h2⟩ := y
      obtain ⟨x, hx, rfl⟩ := ints_get h1
      obtain ⟨y, hy, rfl⟩ := ints_get h2
      have bx := hf x (List.mem_of_getElem? hx)
      walk_at "nf"
      refine ⟨T, _, rfl, .of upd_same, rfl, ?_⟩
      walk_at "sx"
      refine ⟨.inl bx, s1.then_new hT, ?_⟩
      rw [dotp_take hx hy]
      exact ⟨rfl, _, rfl⟩
    · obtain ⟨s1, v3, v4, rfl⟩ := py
      have := k _ s1
      rw [← dotp_min] at this
      simp only [List.length_map]
      exact ⟨_, rfl, this⟩
theorem fills0 (D : Dt K mg "_law_fills" s__law_fills pr__law_fills) : Df P w K mg base CX0 1 "_law_fills" pr__law_fills (spFills K 0) := by
  refine D.ok sc__law_fills (fun vs H Q E h => ?_) (fun f cdv A outer s H vs Q E hr h => ?_)
  · obtain ⟨av, bv, left, ps, m, rfl, _⟩ := h
    rfl
  · obtain ⟨av, bv, left, ps, m, rfl, _, _, _, _, _, _, h, _⟩ := h
    omega
theorem ok_fills {N d : Nat} (B : Bl mg) (F1 : Df P w K mg base CX0 d "_law_fills" pr__law_fills (spFills K N)) (D : Dt K mg "_law_fills" s__law_fills pr__law_fills) : Df P w K mg base CX0 (d + 1) "_law_fills" pr__law_fills (spFills K (N + 1)) := by
  refine D.ok sc__law_fills (fun vs H Q E h => ?_) (fun f cdv A outer s H vs Q E hr h => ?_)
  · obtain ⟨av, bv, left, ps, m, rfl, _⟩ := h
    rfl
  · obtain ⟨av, bv, left, ps, m, rfl, ha, hb, hl, m1, m10, hpl, hpn, hlb, hpp, k⟩ := h
    obtain ⟨p, rfl, hp⟩ := ha.ints_tup
    obtain ⟨b, zs, rfl, hz, hzl, hzat, hza⟩ := tup_view hb
    refine ⟨_, (pss_cons (ps_if (pt_cmpR op_lt (pe_callB (cr_minT rfl (hu65 hr)) (by rfl) B.min boot_min (pa_cons (pv 0) pa_nil)) pe_int (nomark _)) (pss_one (ps_ret pe_bl)) pss_nil) (pss_cons (ps_if (PW.pt (pw_or (pt_cmpR op_eq (pe_callB (cr_maxT rfl (hu65 hr)) (by rfl) B.max boot_max (pa_cons (pv 0) pa_nil)) pe_int (nomark _)) (pw_or1 (pt_cmpR (op_eqD (hu64 hr)) (pv 1) (pe_tup pa_nil) (nomark _))))) (pss_one (ps_ret (pe_cmpR op_eq (pe_callB (cr_maxT rfl (hu65 hr)) (by rfl) B.max boot_max (pa_cons (pv 0) pa_nil)) pe_int (nomark _)))) pss_nil) (pss_cons (ps_set (i := 2) sc__law_fills.nd rfl (Or.inl rfl) (pv 0)) (pss_cons (ps_for PassesOwn.never rfl (pi_range1 (by rfl) B.range (pa_cons (pe_op op_add (pe_callB (cr_maxT rfl (hu65 hr)) (by rfl) B.max boot_max (pa_cons (pv 0) pa_nil)) pe_int) pa_nil)) (pg_name (i := 3) sc__law_fills.nd rfl (Or.inl rfl)) (pss_cons (ps_if (PW.pt (pw_and (pt_cmpR op_ge (pe_callB (cr_minT rfl (hu65 hr)) (by rfl) B.min boot_min (pa_cons (pv 2) pa_nil)) pe_int (nomark _)) (pw_and1 (pt_val (pe_f F1 (hr.mono (by omega)) pass0 (pa_cons (pv 2) (pa_cons (pe_slice (show SlR _ (rSlA K) from sl_tupA) (pv 1) (po_some pe_int) po_none) pa_nil))))))) (pss_one (ps_ret pe_bl)) pss_nil) (pss_one (ps_set (i := 2) sc__law_fills.nd rfl (Or.inl rfl) (pe_callTy call_tuple_of (by rfl) B.tuple PyProof.Rows.boot_tuple (pa_cons (pe_lc (own := [("number", 4), ("less", 5)]) (g := gTup K 2 (gCons (gName 4) (gCons (gName 5) gNil))) (tt := tYes) (by rfl) sc__law_fills.nd (pi_zipA (by rfl) B.zip (pa_cons (pv 2) (pa_cons (pe_ix ix_tup (pv 1) pe_int (fun _ _ => rfl)) pa_nil))) (blkOk_by (own := [("number", 4), ("less", 5)]) (N := nm__law_fills) (sc := defScope s__law_fills) (by decide +kernel)) (fun _ _ _ _ _ => pg_tup rfl (pgs_cons (pg_name (i := 4) sc__law_fills.nd rfl (Or.inl rfl)) (pgs_cons (pg_name (i := 5) sc__law_fills.nd rfl (Or.inl rfl)) pgs_nil))) (fun _ _ _ _ _ => pts_nil) (fun _ _ _ _ _ => (pe_op op_sub (pv 4) (pv 5)))) pa_nil)))))) (pss_one (ps_ret pe_bl)))))), ?_⟩
    dsimp only [cxOf, Cx.nox, L2.start]
    refine sq_if0 ⟨_, rfl, p, left, rfl, hp, by omega, fun m0 h01 h02 => ⟨_, _, rfl, rfl, _, rfl, ?_⟩⟩
    rw [← Sq.neg_min h01 h02]
    cases hn : Sq.negB left with
    | true =>
      have ef : Sq.fills ps left = false := by cases ps <;> simp [Sq.fills, hn]
      rw [ef] at k
      exact iteT (k _ (Same.refl _))
    | false =>
      refine iteF ?_
      refine sq_if0 ⟨_, rfl, p, left, rfl, hp, by omega, fun m2 h21 h22 => ⟨rfl, _, rfl, ?_⟩⟩
      have ez : decide (V.int m2 = V.int 0) = Sq.zerB left := by
        rw [Sq.zer_max hn h21 h22]
        exact decide_eq_decide.mpr ⟨fun e => V.int.inj e, fun e => by rw [e]⟩
      rw [ez]
      cases hzr : Sq.zerB left with
      | true =>
        have ef : Sq.fills ps left = true := by cases ps <;> simp [Sq.fills, hn, hzr]
        rw [ef] at k
        refine iteT ⟨_, rfl, p, left, rfl, hp, by omega, fun m3 h31 h32 => ⟨rfl, ?_⟩⟩
        have e3 : decide (V.int m3 = V.int 0) = true := by
          rw [← hzr, Sq.zer_max hn h31 h32]
          exact decide_eq_decide.mpr ⟨fun e => V.int.inj e, fun e => by rw [e]⟩
        show Q (.bl (decide (V.int m3 = V.int 0))) H
        rw [e3]
        exact k _ (Same.refl _)
      | false =>
        refine iteF ⟨_, rfl, Nat.zero_le _, fun p2 hp2 => ⟨_, .tuple [], hb.to (Same.new hp2), .tup (.of upd_same) .nil, (SN.rowsT ps).shaped (by decide), (SN.tuple (n := 0) (ds := []) (by simp)).shaped (by decide), _, rfl, ?_⟩⟩
        have s1 : Same H (upd H p2 (HO.tup [])) := Same.new hp2
        generalize upd H p2 (HO.tup []) = H1 at s1 ⊢
        rw [eqv_nil_t]
        have hp1 := s1.seqT hp
        cases ps with
        | nil =>
          have ef : Sq.fills [] left = false := by simp [Sq.fills, hzr]
          rw [ef] at k
          refine iteT ⟨_, rfl, p, left, rfl, hp1, by omega, fun m3 h31 h32 => ⟨rfl, ?_⟩⟩
          have e3 : decide (V.int m3 = V.int 0) = false := by
            rw [← hzr, Sq.zer_max hn h31 h32]
            exact decide_eq_decide.mpr ⟨fun e => V.int.inj e, fun e => by rw [e]⟩
          show Q (.bl (decide (V.int m3 = V.int 0))) H1
          rw [e3]
          exact k _ s1
        | cons p0 ps =>
          have lp0 := hpl p0 (by simp)
          have pp0 := hpp p0 (by simp)
          obtain ⟨z0, hz0⟩ : ∃ z0, zs[0]? = some z0 := ⟨_, List.getElem?_eq_getElem (by rw [hzl]; simp)⟩
          obtain ⟨r0, hr0, hd0⟩ := hzat 0 z0 hz0
          obtain rfl : p0 = r0 := by simpa using hr0
          obtain ⟨b0, rfl, hb0⟩ := hd0.ints_tup
          have hz1 := s1.seqT hz
          have ef : Sq.fills (p0 :: ps) left = (List.range (Sq.mx left + 1)).any fun j => !Sq.negB (Sq.less left p0 j) && Sq.fills ps (Sq.less left p0 j) := by simp [Sq.fills, hn, hzr]
          refine iteF (sq_go ⟨_, rfl, ?_⟩)
          refine sq_fr ⟨_, rfl, p, left, rfl, hp1, by omega, fun m4 h41 h42 => ⟨_, _, rfl, rfl, m4 + 1, rfl, ?_, ?_, ?_⟩⟩
          · have nn := Sq.mx_max hn h41 h42
            have := hlb m4 h41
            have : 0 ≤ m4 := by
              unfold Sq.negB at hn
              have := List.any_eq_false.mp hn m4 h41
              simpa using this
            omega
          · have := hlb m4 h41
            omega
          have m4n : 0 ≤ m4 := by
            unfold Sq.negB at hn
            have := List.any_eq_false.mp hn m4 h41
            simpa using this
          have emx : (m4 + 1).toNat = Sq.mx left + 1 := by rw [Sq.mx_max hn h41 h42]; omega
          rw [emx]
          refine for_it walk_range (fun j σ H' => Same H1 H' ∧ (∃ hv v3, σ = [some (V.ref p), some (V.ref b), some hv, v3, none, none] ∧ Dp K H' hv (intsD (Sq.less left p0 j))) ∧ ∀ i, i < j → (!Sq.negB (Sq.less left p0 i) && Sq.fills ps (Sq.less left p0 i)) = false) ⟨Same.refl _, ⟨_, _, rfl, by rw [Sq.less_zero left p0 (by omega)]; exact ha.to s1⟩, fun i hi => by omega⟩ (fun _ _ _ _ _ => trivial) (fun j x σ H2 H3 hj py y => ?_) (fun σ H2 py => ?_)
          · obtain ⟨s2, ⟨hv, v3, rfl, hhv⟩, fb⟩ := py
            obtain ⟨rfl, rfl⟩ := y
            obtain ⟨ph, rfl, hph⟩ := hhv.ints_tup
            have s12 := s1.trans s2
            have hll := Sq.less_len left p0 j (by omega)
            have hle := Sq.less_le (p := p0) (k := j) hlb pp0
            have hz3 := s12.seqT hz
            have hza3 := DpAll.to hza s12
            generalize hh : Sq.less left p0 j = here at *
            have test : ∀ (R : Bool → Hp → Prop), (∀ H', Same H3 H' → R (!Sq.negB here && Sq.fills ps here) H') → tAnd (tTest (tOp (rI0 fun i j => V.bl (decide (j ≤ i))) (tCB (rMinTI K) (tCons (tVar 2) tNil)) (tC (V.int 0)))) (tB (tCa (spFills K N) E0 (tCons (tVar 2) (tCons (tSl (rSlA K) (tVar 1) (tPart (tC (V.int 1))) tNoPart) tNil))))
                [some (V.ref p), some (V.ref b), some (V.ref ph), some (V.int (0 + (j : Int))), none, none] H3 R := fun R q => by
              refine ⟨_, rfl, ph, here, rfl, hph, by omega, fun m5 h51 h52 => ⟨_, _, rfl, rfl, _, rfl, ?_⟩⟩
              have en := Sq.neg_min h51 h52
              cases hn5 : Sq.negB here with
              | true =>
                rw [hn5] at q en
                have c : m5 < 0 := of_decide_eq_true en.symm
                rw [decide_eq_false (by omega)]
                exact iteF (q _ (Same.refl _))
              | false =>
                rw [hn5] at q en
                have c : ¬ m5 < 0 := of_decide_eq_false en.symm
                rw [decide_eq_true (by omega)]
                refine iteT ⟨_, rfl, _, rfl, _, rfl, ?_⟩
                dsimp only [tNoPart, tNil]
                refine sl_ok hz3 fun r H4 e4 h4 => ?_
                have hps : Dp K H4 (.ref r) (.tuple (ps.map intsD)) := by
                  rw [show cutV zs (some 1) none = zs.drop 1 from cutV_from zs 1] at h4
                  exact .tup h4 (DpAll.to (show DpAll K H3 (zs.drop 1) (ps.map intsD) from hza3.drop 1) e4)
                refine ⟨_, _, here, ps, m, rfl, hhv.to e4, hps, by omega, m1, m10, fun x hx => hpl x (List.mem_cons_of_mem _ hx), by rw [List.length_cons] at hpn; omega, fun x hx => hle x hx, fun x hx => hpp x (List.mem_cons_of_mem _ hx), fun H5 e5 => ⟨_, rfl, q H5 (e4.trans e5)⟩⟩
            refine sq_if0 (test _ fun H4 e4 => ?_)
            cases hfit : (!Sq.negB here && Sq.fills ps here) with
            | true =>
              have e5 : Sq.fills (p0 :: ps) left = true := by
                rw [ef, List.any_eq_true]
                exact ⟨j, List.mem_range.mpr (by omega), by rw [hh]; exact hfit⟩
              rw [e5] at k
              exact iteT (k _ (s12.trans e4))
            | false =>
              refine iteF ?_
              have hp4 := e4.seqT hph
              have hb4 := (s12.trans e4).seqT hb0
              refine ⟨_, rfl, _, rfl, b, _, 0, _, rfl, rfl, e4.seqT hz3, atI_nat hz0, ph, b0, _, _, rfl, .inr ⟨hp4, hb4, fun D hD => lcS walk_zipT hD (by simp only [List.length_map]; exact slt (by omega)) (fun i y => y = .int (here.getD i 0 - p0.getD i 0)) (fun H1 e => ⟨e.seqT hp4, e.seqT hb4⟩) (fun i x H5 H6 Q1 hi e y q1 => ?_) (fun H5 ys e hD1 hn hr => ?_)⟩⟩
              · obtain ⟨T, x1, x2, rfl, hT, rfl, h1, h2⟩ := y
                obtain ⟨rfl, rfl, m1, m2⟩ := pair_at hi h1 h2
                walk_at "nf"
                refine ⟨T, _, rfl, .of upd_same, rfl, ?_⟩
                walk_at "sx"
                exact q1 _ _ rfl (Same.new hT)
              · have ev := vals_int (f := fun i => here.getD i 0 - p0.getD i 0) hn hr
                simp only [List.length_map] at ev
                rw [zip_range (fun a b => a - b)] at ev
                refine ⟨D, _, rfl, .inl ⟨.of (by rw [hD1, ev]), fun l hl => ⟨(s2.trans e4).trans (e.then_new hl), ⟨.ref l, _, rfl, ?_⟩, fun i hi => ?_⟩⟩⟩
                · rw [← Sq.less_succ, hh]
                  exact Dp.tup_ints (.of upd_same)
                · by_cases c : i = j
                  · rw [c, hh]; exact hfit
                  · exact fb i (by omega)
          · obtain ⟨s2, ⟨hv, v3, rfl, hhv⟩, fb⟩ := py
            have e5 : Sq.fills (p0 :: ps) left = false := by
              rw [ef, List.any_eq_false]
              intro i hi
              rw [fb i (List.mem_range.mp hi)]
              decide
            rw [e5] at k
            exact k _ (s1.trans s2)
end
end Ws
/-! ## J27 -/
namespace Sq
def cutf (p : Nat) (top r : Row) : Row := List.zipWith (fun m o => top.getD p 0 * m - r.getD p 0 * o) r top
def bnd : Nat → Nat
  | 0 => 3
  | j + 1 => 2 * bnd j * bnd j
theorem bnd_le {j : Nat} (h : j ≤ 3) : bnd j ≤ 1000000 := by
  have : j = 0 ∨ j = 1 ∨ j = 2 ∨ j = 3 := by omega
  rcases this with rfl | rfl | rfl | rfl <;> decide
theorem stp_some {act : List Row} {p h : Nat} (e : act.findIdx? (fun r => r.getD p 0 != 0) = some h) : stp act p = ((act.set h (act.getD 0 [])).drop 1).map (cutf p (act.getD h [])) := by
  unfold stp
  rw [e]
  rfl
theorem stp_none {act : List Row} {p : Nat} (e : act.findIdx? (fun r => r.getD p 0 != 0) = none) : stp act p = act := by
  unfold stp
  rw [e]
theorem cutf_len {p m : Nat} {top r : Row} (h1 : top.length = m) (h2 : r.length = m) : (cutf p top r).length = m := by simp [cutf, h1, h2]
theorem cutf_bd {p b : Nat} {top r : Row} (h1 : ∀ x ∈ top, x.natAbs ≤ b) (h2 : ∀ x ∈ r, x.natAbs ≤ b) : ∀ x ∈ cutf p top r, x.natAbs ≤ 2 * b * b := by
  have g1 := getD_bd h1 p
  have g2 := getD_bd h2 p
  unfold cutf
  generalize top.getD p 0 = t at *
  generalize r.getD p 0 = q at *
  induction r generalizing top with
  | nil => simp
  | cons a r ih =>
    cases top with
    | nil => simp
    | cons c top =>
      intro x hx
      rw [List.zipWith_cons_cons] at hx
      rcases List.mem_cons.mp hx with rfl | hx
      · have := mul_bd g1 (h2 a (by simp))
        have := mul_bd g2 (h1 c (by simp))
        have : 2 * b * b = b * b + b * b := by rw [Nat.mul_assoc]; omega
        omega
      · exact ih (fun x hx => h1 x (List.mem_cons_of_mem _ hx)) (fun x hx => h2 x (List.mem_cons_of_mem _ hx)) x hx
theorem mem_drop_set {act : List Row} {h : Nat} {r : Row} (hr : r ∈ (act.set h (act.getD 0 [])).drop 1) (hn : act ≠ []) : r ∈ act := by
  rcases List.mem_or_eq_of_mem_set (List.mem_of_mem_drop hr) with m | rfl
  · exact m
  · cases act with
    | nil => exact absurd rfl hn
    | cons a act => simp
theorem find_lt {act : List Row} {p h : Nat} (e : act.findIdx? (fun r => r.getD p 0 != 0) = some h) : h < act.length := by
  obtain ⟨h1, _⟩ := List.findIdx?_eq_some_iff_getElem.mp e
  exact h1
theorem stp_ok {act : List Row} {m b p : Nat} (hl : ∀ r ∈ act, r.length = m) (hb : Bd b act) (h1 : 1 ≤ b) : (∀ r ∈ stp act p, r.length = m) ∧ Bd (2 * b * b) (stp act p) := by
  cases e : act.findIdx? (fun r => r.getD p 0 != 0) with
  | none =>
    rw [stp_none e]
    refine ⟨hl, fun r hr x hx => ?_⟩
    have := hb r hr x hx
    have : 1 * b ≤ 2 * b * b := Nat.mul_le_mul (by omega) (Nat.le_refl _)
    omega
  | some h =>
    have hlt := find_lt e
    have hn : act ≠ [] := fun z => by rw [z] at hlt; cases hlt
    have ht : act.getD h [] ∈ act := by simp [hlt]
    rw [stp_some e]
    refine ⟨fun r hr => ?_, fun r hr x hx => ?_⟩
    · obtain ⟨q, hq, rfl⟩ := List.mem_map.mp hr
      exact cutf_len (hl _ ht) (hl q (mem_drop_set hq hn))
    · obtain ⟨q, hq, rfl⟩ := List.mem_map.mp hr
      exact cutf_bd (hb _ ht) (hb q (mem_drop_set hq hn)) x hx
def elN (rows : List Row) (j : Nat) : List Row := (List.range j).foldl stp rows
theorem elN_succ (rows : List Row) (j : Nat) : elN rows (j + 1) = stp (elN rows j) j := by
  unfold elN
  rw [List.range_succ, List.foldl_append]
  rfl
theorem bnd_pos (j : Nat) : 1 ≤ bnd j := by
  induction j with
  | zero => decide
  | succ j ih =>
    show 1 ≤ 2 * bnd j * bnd j
    exact Nat.mul_le_mul (show 1 ≤ 2 * bnd j by omega) ih
theorem elN_ok {rows : List Row} {m : Nat} (hl : ∀ r ∈ rows, r.length = m) (hb : Bd 3 rows) (j : Nat) : (∀ r ∈ elN rows j, r.length = m) ∧ Bd (bnd j) (elN rows j) := by
  induction j with
  | zero => exact ⟨hl, hb⟩
  | succ j ih =>
    rw [elN_succ]
    exact stp_ok ih.1 ih.2 (bnd_pos j)
/-- the loop over the rows below -/
def upto (lo t : Nat) (g : Row → Row) (rows : List Row) : List Row := rows.mapIdx fun i r => if lo ≤ i ∧ i < lo + t then g r else r
theorem upto_zero (lo : Nat) (g : Row → Row) (rows : List Row) : upto lo 0 g rows = rows := by
  unfold upto
  refine List.ext_getElem (by simp) fun i h1 h2 => ?_
  rw [List.getElem_mapIdx, if_neg (by omega)]
theorem upto_len (lo t : Nat) (g : Row → Row) (rows : List Row) : (upto lo t g rows).length = rows.length := by simp [upto]
theorem upto_at {lo t : Nat} {g : Row → Row} {rows : List Row} {i : Nat} {r : Row} (h : rows[i]? = some r) (hn : ¬ (lo ≤ i ∧ i < lo + t)) : (upto lo t g rows)[i]? = some r := by
  unfold upto
  rw [List.getElem?_mapIdx, h]
  simp [hn]
theorem upto_succ {lo t : Nat} {g : Row → Row} {rows : List Row} {r : Row} (h : rows[lo + t]? = some r) : (upto lo t g rows).set (lo + t) (g r) = upto lo (t + 1) g rows := by
  unfold upto
  refine List.ext_getElem (by simp) fun i h1 h2 => ?_
  have hi : i < rows.length := by simpa using h2
  rw [List.getElem_set, List.getElem_mapIdx, List.getElem_mapIdx]
  by_cases c : lo + t = i
  · rw [if_pos c, if_pos (by omega)]
    subst c
    rw [List.getElem?_eq_getElem hi] at h
    rw [Option.some.inj h]
  · rw [if_neg c]
    by_cases d : lo ≤ i ∧ i < lo + t
    · rw [if_pos d, if_pos (by omega)]
    · rw [if_neg d, if_neg (by omega)]
theorem upto_drop (lo : Nat) (g : Row → Row) (rows : List Row) : (upto lo (rows.length - lo) g rows).drop lo = (rows.drop lo).map g := by
  unfold upto
  refine List.ext_getElem (by simp) fun i h1 h2 => ?_
  have : lo + i < rows.length := by simp at h1; omega
  rw [List.getElem_drop, List.getElem_mapIdx, List.getElem_map, List.getElem_drop, if_pos (by omega)]
theorem swap_drop {rows : List Row} {f h : Nat} {x y : Row} : ((rows.set (f + h) x).set f y).drop (f + 1) = ((rows.drop f).set h x).drop 1 := by
  refine List.ext_getElem? fun i => ?_
  rw [List.getElem?_drop, List.getElem?_drop, List.getElem?_set, if_neg (by omega), List.getElem?_set, List.getElem?_set, List.getElem?_drop]
  have e : (f + h = f + 1 + i) ↔ (h = 1 + i) := by omega
  by_cases c : h = 1 + i
  · rw [if_pos (e.mpr c), if_pos c]
    simp
    split <;> split <;> first | rfl | omega
  · rw [if_neg (fun z => c (e.mp z)), if_neg c]
    congr 1
    omega
end Sq
/-! ## Q27b -/
namespace Ws
open PySem PySem.Spec PyProof.Rows L2 RZ
local macro_rules | `(tactic| walk_at "nf") => `(tactic| dsimp only [tNext, tSeq, tDrop, tRet, tRetN, tIfS, tAsg, gName, gTup, gCons, gNil, tVar, tC, tOp, tUn, rI, rI0, rU, rEq, rNe, tTest, tChain, tAnd, tOr, tNot, tAndV, tOrV, tNotV, tIf, tCB, tCKw, tCons, tNil, tTup, tLst, tCa, tCallS, tB, rIxT, rIxL, rIxS, cxOf, Cx.nox, Cx.wish, Cx.blk, L2.start, tPar, tPar3, tNever, tYes, tBits, tRz, tBM, rAppend, tyV, tXf, suiteEnds, gSub, rSetL, tBreak, rMax, tDGet, sDPut, tSl, tNoPart, tPart, tDisp, tPairs, tDGet2, tDNewK, tAugS, ipI, rGetL, tDIn, tDNotIn, tBM0, rPop])
local macro_rules | `(tactic| walk_at "sx") => `(tactic| simp only [wipe, List.cons.injEq, and_assoc, exists_and_left, and_true, List.map_cons, List.map_nil, List.length_cons, List.length_nil, List.cons_append, List.nil_append, List.append_nil, Nat.reduceAdd, Nat.reduceSub, List.replicate, List.getElem?_cons_zero, List.getElem?_cons_succ, List.set_cons_zero, List.set_cons_succ, Option.some.injEq, V.int.injEq, V.bl.injEq, V.ref.injEq, V.str.injEq, exists_eq_left', exists_eq_left, true_and, Bool.true_eq_false, Bool.false_eq_true, if_true, if_false])

def rListO (K : PySem.W.Frag) : List V → Hp → VK → Prop := fun xs H Q => ∃ p ys, xs = [.ref p] ∧ (SqL K H p ys ∨ SqT K H p ys) ∧ ∀ l, H l = none → Q (.ref l) (upd H l (.lst ys))
def spFree1 (K : PySem.W.Frag) : Sp := fun vs H Q _ => ∃ (v : V) (rows : List Sq.Row) (m : Nat), vs = [v] ∧ Dp K H v (.tuple (rows.map intsD)) ∧ (∀ r ∈ rows, r.length = m) ∧ m ≤ 3 ∧ Sq.Bd 3 rows ∧ rows.length ≤ 3 ∧ ∀ H', Same H H' → Q (.bl (Sq.freeB rows)) H'
abbrev s__law_free : Stmt := top 57
abbrev nm__law_free : List Str := ["rows_so", "rows", "found", "place", "k", "here", "top", "less", "row", "more", "other"]
abbrev pr__law_free : List Str := ["rows_so"]
theorem sc__law_free : FnScope nm__law_free pr__law_free (defScope s__law_free) := ⟨rfl, rfl, rfl, by decide +kernel, rfl, by decide +kernel, by decide +kernel⟩
def liD (r : Sq.Row) : PyData := .list (r.map PyData.int)
theorem Same.none' {H H' : Hp} (e : Same H H') {b : Addr} (h : H' b = none) : H b = none := by
  cases q : H b with
  | none => rfl
  | some o => rw [e b o q] at h; cases h
structure LL (K : PySem.W.Frag) (B0 H : Hp) (R : Addr) (rows : List Sq.Row) : Prop where
  sub : ∀ b, H b = none → B0 b = none
  br : B0 R ≠ none
  ex : ∃ zs : List V, H R = some (.lst zs) ∧ zs.length = rows.length ∧ ∀ (i : Nat) z r, zs[i]? = some z → rows[i]? = some r → DpN B0 K H z (liD r)
section
variable {K : PySem.W.Frag} {B0 H H' : Hp} {R : Addr} {rows : List Sq.Row}
theorem LL.same (h : LL K B0 H R rows) (e : Same H H') : LL K B0 H' R rows := by
  obtain ⟨zs, h1, h2, h3⟩ := h.ex
  exact ⟨fun b hb => h.sub b (Same.none' e hb), h.br, zs, e _ _ h1, h2, fun i z r a b => (h3 i z r a b).step (Kp.same e)⟩
theorem liD_v {z : V} {r : Sq.Row} (h : Dp K H z (liD r)) : ∃ p, z = .ref p ∧ SqL K H p (r.map V.int) := by
  cases h with
  | lst hs ha =>
    rw [ha.ints_inv] at hs
    exact ⟨_, rfl, hs⟩
theorem LL.at_ (h : LL K B0 H R rows) {i : Nat} {r : Sq.Row} (hi : rows[i]? = some r) : ∃ (zs : List V) (p : Addr), H R = some (.lst zs) ∧ zs.length = rows.length ∧ zs[i]? = some (.ref p) ∧ SqL K H p (r.map V.int) ∧ DpN B0 K H (.ref p) (liD r) := by
  obtain ⟨zs, h1, h2, h3⟩ := h.ex
  have hl : i < zs.length := by rw [h2]; exact (List.getElem?_eq_some_iff.mp hi).1
  have hz := List.getElem?_eq_getElem hl
  have hd := h3 i _ r hz hi
  obtain ⟨p, e, hp⟩ := liD_v hd.dp
  rw [e] at hd hz
  exact ⟨zs, p, h1, h2, hz, hp, hd⟩
theorem LL.put (h : LL K B0 H R rows) {zs : List V} (hR : H R = some (.lst zs)) {i : Nat} {z : V} {r : Sq.Row} (hz : DpN B0 K H z (liD r)) : LL K B0 (upd H R (.lst (zs.set i z))) R (rows.set i r) := by
  obtain ⟨zs', h1, h2, h3⟩ := h.ex
  rw [hR] at h1
  obtain rfl : zs = zs' := HO.lst.inj (Option.some.inj h1)
  have kp : Kp B0 H (upd H R (.lst (zs.set i z))) := Kp.put hR h.br
  refine ⟨fun b hb => ?_, h.br, zs.set i z, upd_same, by rw [List.length_set, List.length_set]; exact h2, fun j w q a b => ?_⟩
  · by_cases c : b = R
    · rw [c, upd_same] at hb; cases hb
    · rw [upd_ne c] at hb
      exact h.sub b hb
  · rw [List.getElem?_set] at a b
    by_cases c : i = j
    · rw [if_pos c] at a b
      split at a
      · split at b
        · cases a
          cases b
          exact hz.step kp
        · cases b
      · cases a
    · rw [if_neg c] at a b
      exact (h3 j w q a b).step kp
theorem LL.new {p : Addr} {r : Sq.Row} (h : LL K B0 H R rows) (e : Same H H') (hp : H p = none) (h2 : H' p = some (.lst (r.map V.int))) : DpN B0 K H' (.ref p) (liD r) := fun H'' kp => .lst (.of (kp _ _ h2 (.inl (h.sub _ hp)))) (DpAll.ints r)
end
theorem sq_as {te : TE} {g : TG} {u : TS} {D : Ends} {σ : L2.St} {H : Hp} (h : te σ H fun v H1 => g v σ H1 fun σ2 H2 => u D σ2 H2) : tSeq (tAsg te g) u D σ H := h
theorem head_find (act : List Sq.Row) (q : Sq.Row → Bool) : ((List.range act.length).filter fun i => q (act.getD i [])).head? = act.findIdx? q := by
  induction act with
  | nil => rfl
  | cons r act ih =>
    rw [List.length_cons, List.range_succ_eq_map, List.findIdx?_cons]
    cases c : q r with
    | true => rw [List.filter_cons_of_pos (by exact c)]; rfl
    | false =>
      rw [List.filter_cons_of_neg (by rw [show (r :: act).getD 0 [] = r from rfl, c]; decide), List.filter_map, List.head?_map]
      show (((List.range act.length).filter fun i => q (act.getD i [])).head?).map Nat.succ = _
      rw [ih]
      rfl
section
variable {P : Program} {w : World} {K : PySem.W.Frag} {mg : Str → Option Value} {base : Heap}
theorem ok_free (B : Bl mg) (D : Dt K mg "_law_free" s__law_free pr__law_free) : Df P w K mg base CX0 1 "_law_free" pr__law_free (spFree1 K) := by
  refine D.ok sc__law_free (fun vs H Q E h => ?_) (fun f cdv A outer s H vs Q E hr h => ?_)
  · obtain ⟨v, rows, m, rfl, _⟩ := h
    rfl
  · obtain ⟨v, rows0, m, rfl, hv, hl0, m3, hb0, hP, k⟩ := h
    obtain ⟨b, zs, rfl, hz, hzl, hzat, hza⟩ := tup_view hv
    refine ⟨_, (pss_cons (ps_asg (pe_tup (pa_cons (pe_lc (own := [("row", 8)]) (g := gName 8) (tt := tYes) (te := tCB (rListO K) (tCons (tVar 8) tNil)) (by rfl) sc__law_free.nd (pi_tup (pv 0)) (blkOk_by (own := [("row", 8)]) (N := nm__law_free) (sc := defScope s__law_free) (by decide +kernel)) (fun _ _ _ _ _ => pg_name (i := 8) sc__law_free.nd rfl (Or.inl rfl)) (fun _ _ _ _ _ => pts_nil) (fun _ _ _ _ _ => (pe_callTy call_list_of (by rfl) B.list PyProof.Rows.boot_list (pa_cons (pv 8) pa_nil)))) (pa_cons pe_int pa_nil))) (pg_tup rfl (pgs_cons (pg_name (i := 1) sc__law_free.nd rfl (Or.inr rfl)) (pgs_cons (pg_name (i := 2) sc__law_free.nd rfl (Or.inl rfl)) pgs_nil)))) (pss_cons (ps_for PassesOwn.never rfl (pi_range1 (by rfl) B.range (pa_cons (pe_ifExp (pt_cmpR (op_neD (hu64 hr)) (pv 0) (pe_tup pa_nil) (nomark _)) (pe_callB call_len_seq (by rfl) B.len PySem.boot_len (pa_cons (pe_ix ix_tup (pv 0) pe_int (fun _ _ => rfl)) pa_nil)) pe_int) pa_nil)) (pg_name (i := 3) sc__law_free.nd rfl (Or.inr rfl)) (pss_cons (ps_setLc (i := 5) (own := [("k", 4)]) (g := gName 4) (tt := (tTest (tOp rNe (tOp (rIxL K) (tOp (rIxL K) (tVar 1) (tVar 4)) (tVar 3)) (tC (V.int 0))))) rfl sc__law_free.nd rfl rfl (sw_true rfl rfl rfl (by decide +kernel)) (pi_range2 (by rfl) B.range (pa_cons (pv 2) (pa_cons (pe_callB call_len_seq (by rfl) B.len PySem.boot_len (pa_cons (pv 1) pa_nil)) pa_nil))) (blkOk_by (own := [("k", 4)]) (N := nm__law_free) (sc := defScope s__law_free) (by decide +kernel)) (fun _ _ _ _ _ => pg_name (i := 4) sc__law_free.nd rfl (Or.inl rfl)) (fun _ _ _ _ _ => (pts_one (pt_cmpR op_ne (pe_ix ix_list (pe_ix ix_list (pv 1) (pv 4) (fun _ _ => rfl)) (pv 3) (fun _ _ => rfl)) pe_int (nomark _)))) (fun _ _ _ _ _ => (pv 4))) (pss_one (ps_if (pt_cmpR (op_neD (hu64 hr)) (pv 5) (pe_lst pa_nil) (nomark _)) (pss_cons (ps_set (i := 6) sc__law_free.nd rfl (Or.inr rfl) (pe_ix ix_list (pv 1) (pe_ix ix_list (pv 5) pe_int (fun _ _ => rfl)) (fun _ _ => rfl))) (pss_cons (ps_asg (pe_ix ix_list (pv 1) (pv 2) (fun _ _ => rfl)) (pg_sub (pv 1) (pe_ix ix_list (pv 5) pe_int (fun _ _ => rfl)) set_list)) (pss_cons (ps_asg (pv 6) (pg_sub (pv 1) (pv 2) set_list)) (pss_cons (ps_for PassesOwn.never rfl (pi_range2 (by rfl) B.range (pa_cons (pe_op op_add (pv 2) pe_int) (pa_cons (pe_callB call_len_seq (by rfl) B.len PySem.boot_len (pa_cons (pv 1) pa_nil)) pa_nil))) (pg_name (i := 4) sc__law_free.nd rfl (Or.inl rfl)) (pss_cons (ps_set (i := 7) sc__law_free.nd rfl (Or.inr rfl) (pe_ix ix_list (pe_ix ix_list (pv 1) (pv 4) (fun _ _ => rfl)) (pv 3) (fun _ _ => rfl))) (pss_one (ps_asg (pe_lc (own := [("more", 9), ("other", 10)]) (g := gTup K 2 (gCons (gName 9) (gCons (gName 10) gNil))) (tt := tYes) (te := tOp (rI0 fun i j => V.int (i - j)) (tOp (rI CMul fun i j => V.int (i * j)) (tOp (rIxL K) (tVar 6) (tVar 3)) (tVar 9)) (tOp (rI CMul fun i j => V.int (i * j)) (tVar 7) (tVar 10))) (by rfl) sc__law_free.nd (pi_zipA (by rfl) B.zip (pa_cons (pe_ix ix_list (pv 1) (pv 4) (fun _ _ => rfl)) (pa_cons (pv 6) pa_nil))) (blkOk_by (own := [("more", 9), ("other", 10)]) (N := nm__law_free) (sc := defScope s__law_free) (by decide +kernel)) (fun _ _ _ _ _ => pg_tup rfl (pgs_cons (pg_name (i := 9) sc__law_free.nd rfl (Or.inl rfl)) (pgs_cons (pg_name (i := 10) sc__law_free.nd rfl (Or.inl rfl)) pgs_nil))) (fun _ _ _ _ _ => pts_nil) (fun _ _ _ _ _ => (pe_op op_sub (pe_op op_mul (pe_ix ix_list (pv 6) (pv 3) (fun _ _ => rfl)) (pv 9)) (pe_op op_mul (pv 7) (pv 10))))) (pg_sub (pv 1) (pv 4) set_list))))) (pss_one (ps_set (i := 2) sc__law_free.nd rfl (Or.inl rfl) (pe_op op_add (pv 2) pe_int))))))) pss_nil)))) (pss_one (ps_ret (pe_cmpR op_eq (pv 2) (pe_callB call_len_seq (by rfl) B.len PySem.boot_len (pa_cons (pv 0) pa_nil)) (nomark _)))))), ?_⟩
    dsimp only [cxOf, Cx.nox, L2.start]
    refine ⟨_, rfl, b, rfl, ⟨zs, hz⟩, fun D hD => lcLN (K := K) (walk_tup (K := K) (a := b) (xs := zs)) hD (slt (by omega)) (fun i => liD (rows0.getD i [])) (fun H e => e.seqT hz) (fun i x H2 H3 Q1 hi e hDn y q1 => ?_) (fun H2 ys e hy hn2 hr2 => ?_)⟩
    · obtain ⟨rfl, hx⟩ := y
      obtain ⟨r, hr0, hdr⟩ := hzat i x hx
      have er : rows0.getD i [] = r := by rw [List.getD_eq_getElem?_getD, hr0]; rfl
      obtain ⟨p, rfl, hp⟩ := (hdr.to e).ints_tup
      rw [er] at q1
      exact ⟨rfl, _, rfl, p, _, rfl, .inr hp, fun l hl => q1 _ _ (Same.new hl) fun H'' kp => .lst (.of (kp _ _ upd_same (.inl hl))) (DpAll.ints r)⟩
    · have l0 : LL K (upd H D (.lst [])) H2 D rows0 := by
        refine ⟨fun b hb => ?_, (by rw [upd_same]; exact fun z => by cases z), ys, hy, by rw [hn2, hzl], fun i z r a b => ?_⟩
        · have nb : b ≠ D := fun z => by rw [z, hy] at hb; cases hb
          rw [upd_ne nb]
          exact Same.none' e hb
        · have := hr2 i z a
          have er : rows0.getD i [] = r := by rw [List.getD_eq_getElem?_getD, b]; rfl
          rw [er] at this
          exact this
      refine ⟨(by show 2 ≤ sizeLine; decide), fun p hp => ⟨p, _, rfl, .of upd_same, rfl, _, _, rfl, _, _, rfl, rfl, ?_⟩⟩
      have s2 : Same H (upd H2 p (HO.tup [V.ref D, V.int 0])) := e.then_new hp
      have l2 := l0.same (Same.new (o := HO.tup [V.ref D, V.int 0]) hp)
      generalize upd H2 p (HO.tup [V.ref D, V.int 0]) = H3 at s2 l2 ⊢
      generalize upd H D (.lst []) = B0 at l2
      clear l0 hr2 hy hn2 e hp
      dsimp only [gName]
      cases rows0 with
      | nil =>
        refine sq_fr ⟨_, rfl, Nat.zero_le _, fun p2 hp2 => ⟨_, .tuple [], (hv.to s2).to (Same.new hp2), .tup (.of upd_same) .nil, (SN.rowsT []).shaped (by decide), (SN.tuple (n := 0) (ds := []) (by simp)).shaped (by decide), _, rfl, iteF ⟨0, rfl, by decide, by decide, for_it walk_range (fun j σ H' => Same H H' ∧ ∃ v3 v4 v5 v6 v7 v8 v9 v10, σ = [some (V.ref b), some (.ref D), some (.int 0), v3, v4, v5, v6, v7, v8, v9, v10]) ⟨s2.then_new hp2, _, _, _, _, _, _, _, _, rfl⟩ (fun _ _ _ _ _ => trivial) (fun j x σ H4 H5 hj py y => by simp at hj) (fun σ H4 py => ?_)⟩⟩⟩
        obtain ⟨s4, v3, v4, v5, v6, v7, v8, v9, v10, rfl⟩ := py
        refine ⟨_, rfl, _, rfl, b, zs, rfl, .inr (s4.seqT hz), rfl, ?_⟩
        have e0 : zs.length = 0 := hzl
        have := k H4 s4
        have e9 : decide (V.int (0 : Int) = V.int ((zs.length : Nat) : Int)) = Sq.freeB [] := by rw [e0]; rfl
        rw [← e9] at this
        exact this
      | cons r0 rest =>
        obtain ⟨z0, hz0⟩ : ∃ z0, zs[0]? = some z0 := ⟨_, List.getElem?_eq_getElem (by rw [hzl]; simp)⟩
        obtain ⟨r0', hr0, hd0⟩ := hzat 0 z0 hz0
        obtain rfl : r0 = r0' := by simpa using hr0
        obtain ⟨b0, rfl, hb00⟩ := hd0.ints_tup
        have lr0 : r0.length = m := hl0 r0 (by simp)
        generalize hrows : r0 :: rest = rows0 at *
        have efree : Sq.freeB rows0 = (Sq.elN rows0 m).isEmpty := by
          unfold Sq.freeB
          rw [show (rows0.getD 0 []).length = m by rw [← hrows]; exact lr0]
          rfl
        refine sq_fr ⟨_, rfl, Nat.zero_le _, fun p2 hp2 => ⟨_, .tuple [], (hv.to s2).to (Same.new hp2), .tup (.of upd_same) .nil, (SN.rowsT rows0).shaped (by decide), (SN.tuple (n := 0) (ds := []) (by simp)).shaped (by decide), _, rfl, ?_⟩⟩
        rw [eqv_nil_t, show (rows0.map intsD).isEmpty = false by rw [← hrows]; rfl]
        have s3 := s2.then_new (o := HO.tup []) hp2
        have l3 := l2.same (Same.new (o := HO.tup []) hp2)
        generalize upd H3 p2 (HO.tup []) = H4 at s3 l3 ⊢
        refine iteT ⟨_, rfl, b, _, 0, _, rfl, rfl, s3.seqT hz, atI_nat hz0, b0, _, rfl, .inr (s3.seqT hb00), _, rfl, ?_, ?_, for_it walk_range (fun j σ H' => Same H H' ∧ ∃ (f : Nat) (rows : List Sq.Row) (v3 v4 v5 v6 v7 v8 v9 v10 : Option V), σ = [some (V.ref b), some (.ref D), some (.int (f : Nat)), v3, v4, v5, v6, v7, v8, v9, v10] ∧ LL K B0 H' D rows ∧ rows.length = rows0.length ∧ f ≤ rows0.length ∧ rows.drop f = Sq.elN rows0 j) ⟨s3, 0, rows0, _, _, _, _, _, _, _, _, rfl, l3, rfl, Nat.zero_le _, rfl⟩ (fun _ _ _ _ _ => trivial) (fun j x σ H5 H6 hj py y => ?_) (fun σ H5 py => ?_)⟩
        · rw [List.length_map, lr0]; omega
        · rw [List.length_map, lr0]; omega
        · obtain ⟨s5, f, rows, v3, v4, v5, v6, v7, v8, v9, v10, rfl, l5, hrl, hf, hact⟩ := py
          obtain ⟨rfl, rfl⟩ := y
          have hjm : j < m := by rw [List.length_map, lr0] at hj; omega
          have ez : (0 + (j : Int)) = ((j : Nat) : Int) := by omega
          obtain ⟨al, ab⟩ := Sq.elN_ok hl0 hb0 j
          have bb := Sq.bnd_le (show j ≤ 3 by omega)
          have actat : ∀ i, f + i < rows0.length → ∃ r, rows[f + i]? = some r ∧ (Sq.elN rows0 j)[i]? = some r ∧ r.length = m ∧ ∀ x ∈ r, x.natAbs ≤ Sq.bnd j := fun i hi => by
            have h1 : rows[f + i]? = some (rows[f + i]'(by omega)) := List.getElem?_eq_getElem (by omega)
            have h2 : (Sq.elN rows0 j)[i]? = some (rows[f + i]'(by omega)) := by rw [← hact, List.getElem?_drop]; exact h1
            exact ⟨_, h1, h2, al _ (List.mem_of_getElem? h2), ab _ (List.mem_of_getElem? h2)⟩
          obtain ⟨rzs, hR, hrz, _⟩ := l5.ex
          have hact_len : (Sq.elN rows0 j).length = rows0.length - f := by rw [← hact, List.length_drop, hrl]
          let q : Sq.Row → Bool := fun r => r.getD j 0 != 0
          refine sq_go ⟨_, rfl, _, rfl, D, rzs, rfl, .inl (.of hR), (f : Int), (rzs.length : Int), rfl, ⟨by omega, by omega, by omega, by omega⟩, fun D2 hD2 => lcF walk_range hD2 (slt (by omega)) (fun i => q ((Sq.elN rows0 j).getD i [])) (fun i y H => y = .int ((f + i : Nat) : Int)) (fun i y H H' e n q => q) (fun _ _ => trivial) (fun i x H7 H8 Q1 Q0 hi e7 y q1 q0 => ?_) (fun H7 ys e7 hy7 g7 => ?_)⟩
          · obtain ⟨rfl, rfl⟩ := y
            have hi2 : f + i < rows0.length := by omega
            obtain ⟨r, g1, g2, g3, g4⟩ := actat i hi2
            obtain ⟨zs7, p7, a1, a2, a3, a4, a5⟩ := (l5.same e7).at_ g1
            have er : (Sq.elN rows0 j).getD i [] = r := by rw [List.getD_eq_getElem?_getD, g2]; rfl
            rw [er] at q1 q0
            have e9 : (f : Int) + (i : Int) = ((f + i : Nat) : Int) := by omega
            walk_at "nf"
            walk_at "sx"
            rw [e9]
            rw [ez]
            refine ⟨zs7, .of a1, .ref p7, atI_nat a3, p7, rfl, _, a4, .int (r.getD j 0), atI_getD (by omega), rfl, ?_⟩
            by_cases c0 : r.getD j 0 = 0
            · rw [decide_eq_true (show V.int (r.getD j 0) = V.int 0 from by rw [c0])]
              exact iteF (q0 (by show (r.getD j 0 != 0) = false; rw [c0]; rfl) _ (Same.refl _))
            · rw [decide_eq_false (fun z => c0 (V.int.inj z))]
              exact iteT (q1 (by show (r.getD j 0 != 0) = true; simpa using c0) _ _ rfl (Same.refl _))
          · have ev := g7.vals (fun i => V.int ((f + i : Nat) : Int)) (fun i y h => h)
            have en : ((rzs.length : Int) - (f : Int)).toNat = (Sq.elN rows0 j).length := by rw [hact_len]; omega
            rw [en] at ev
            have hf0 := head_find (Sq.elN rows0 j) q
            generalize hhs : (List.range (Sq.elN rows0 j).length).filter (fun i => q ((Sq.elN rows0 j).getD i [])) = hs at ev hf0
            have ev2 : ys = ((hs.map fun i => ((f + i : Nat) : Int))).map V.int := by rw [ev, List.map_map]; rfl
            have l7 := l5.same e7
            dsimp only [gName]
            refine if_go ⟨_, rfl, Nat.zero_le _, fun p9 hp9 => ?_⟩
            have e9 := Same.new (o := HO.lst []) hp9
            have hy9 := e9 _ _ hy7
            have l9 := l7.same e9
            have s9 := (s5.trans e7).trans e9
            have dl : Dp K (upd H7 p9 (HO.lst [])) (.ref D2) (.list ((hs.map fun i => ((f + i : Nat) : Int)).map PyData.int)) := by
              rw [ev2] at hy9
              exact .lst (.of hy9) (DpAll.ints _)
            have dn : Dp K (upd H7 p9 (HO.lst [])) (.ref p9) (.list []) := .lst (.of upd_same) .nil
            refine ⟨_, .list [], dl, dn, (SN.list (n := 0) fun d hd => by obtain ⟨i, _, rfl⟩ := List.mem_map.mp hd; exact .int i).shaped (by decide), (SN.list (n := 0) (ds := []) (by simp)).shaped (by decide), _, rfl, ?_⟩
            rw [eqv_nil_l]
            generalize upd H7 p9 (HO.lst []) = H9 at *
            cases hs with
            | nil =>
              have hnone : (Sq.elN rows0 j).findIdx? q = none := hf0.symm
              refine iteF ⟨s9, f, rows, _, _, _, _, _, _, _, _, rfl, l9, hrl, hf, ?_⟩
              rw [Sq.elN_succ, Sq.stp_none hnone]
              exact hact
            | cons h t =>
              have hsome : (Sq.elN rows0 j).findIdx? q = some h := hf0.symm
              have hlt := Sq.find_lt hsome
              have hfh : f + h < rows0.length := by omega
              obtain ⟨top, t1, t2, t3, t4⟩ := actat h hfh
              obtain ⟨rf, f1, f2, f3, f4⟩ := actat 0 (by omega)
              rw [Nat.add_zero] at f1
              obtain ⟨zs9, pt, a1, a2, a3, a4, a5⟩ := l9.at_ t1
              obtain ⟨zs9', pf, b1, b2, b3, b4, b5⟩ := l9.at_ f1
              rw [a1] at b1
              obtain rfl : zs9 = zs9' := HO.lst.inj (Option.some.inj b1)
              subst ev2
              have hix : atI (((h :: t).map fun i => ((f + i : Nat) : Int)).map V.int) 0 = some (V.int ((f + h : Nat) : Int)) := atI_nat (j := 0) rfl
              have ixa : ∀ {k : Nat} {xs : List V}, k < xs.length → ixN xs.length ((k : Nat) : Int) = some k := fun {k xs} hk => by
                unfold ixN
                rw [if_pos (by omega), if_pos (by omega), Int.toNat_natCast]
              refine iteT (sq_go ⟨_, rfl, _, rfl, D2, _, 0, _, rfl, rfl, .of hy9, hix, D, zs9, _, _, rfl, rfl, .of a1, atI_nat a3, ?_⟩)
              have nD2 : D ≠ D2 := ne_of_none hR hD2
              have hlen9 : zs9.length = rows0.length := by rw [a2, hrl]
              dsimp only
              refine sq_as ⟨_, rfl, _, rfl, D, zs9, _, _, rfl, rfl, .of a1, atI_nat b3, _, rfl, _, rfl, D2, _, 0, _, rfl, rfl, .of hy9, hix, D, zs9, _, f + h, rfl, rfl, a1, ixa (by omega), ?_⟩
              have kp10 : Kp B0 H9 (upd H9 D (.lst (zs9.set (f + h) (.ref pf)))) := Kp.put a1 l9.br
              have l10 := l9.put a1 b5 (i := f + h)
              have top10 := a5.step kp10
              have s10 : Same H (upd H9 D (.lst (zs9.set (f + h) (.ref pf)))) := s9.mut hD
              have c1 : (upd H9 D (.lst (zs9.set (f + h) (.ref pf)))) D = some (.lst (zs9.set (f + h) (.ref pf))) := upd_same
              have cl : (zs9.set (f + h) (V.ref pf)).length = rows0.length := by rw [List.length_set]; exact hlen9
              generalize upd H9 D (.lst (zs9.set (f + h) (.ref pf))) = H10 at *
              generalize zs9.set (f + h) (V.ref pf) = zs10 at *
              refine sq_as ⟨_, rfl, _, rfl, _, rfl, D, zs10, _, f, rfl, rfl, c1, ixa (by omega), ?_⟩
              have kp11 : Kp B0 H10 (upd H10 D (.lst (zs10.set f (.ref pt)))) := Kp.put c1 l10.br
              have l11 := l10.put c1 top10 (i := f)
              have top11 := top10.step kp11
              have s11 : Same H (upd H10 D (.lst (zs10.set f (.ref pt)))) := s10.mut hD
              have d1 : (upd H10 D (.lst (zs10.set f (.ref pt)))) D = some (.lst (zs10.set f (.ref pt))) := upd_same
              have dl1 : (zs10.set f (V.ref pt)).length = rows0.length := by rw [List.length_set]; exact cl
              generalize upd H10 D (.lst (zs10.set f (.ref pt))) = H11 at *
              generalize zs10.set f (V.ref pt) = zs11 at *
              have hne : Sq.elN rows0 j ≠ [] := fun z => by rw [z] at hlt; cases hlt
              have etop : (Sq.elN rows0 j).getD h [] = top := by rw [List.getD_eq_getElem?_getD, t2]; rfl
              have ef0 : (Sq.elN rows0 j).getD 0 [] = rf := by rw [List.getD_eq_getElem?_getD, f2]; rfl
              have edrop : ((rows.set (f + h) rf).set f top).drop (f + 1) = ((Sq.elN rows0 j).set h ((Sq.elN rows0 j).getD 0 [])).drop 1 := by rw [Sq.swap_drop, hact, ef0]
              have l2len : ((rows.set (f + h) rf).set f top).length = rows0.length := by rw [List.length_set, List.length_set]; exact hrl
              generalize hr2 : (rows.set (f + h) rf).set f top = rows2 at *
              have below : ∀ t, f + 1 + t < rows0.length → ∃ r, rows2[f + 1 + t]? = some r ∧ r.length = m ∧ ∀ x ∈ r, x.natAbs ≤ Sq.bnd j := fun t ht => by
                have h1 : rows2[f + 1 + t]? = some (rows2[f + 1 + t]'(by omega)) := List.getElem?_eq_getElem (by omega)
                have h2 : rows2[f + 1 + t]'(by omega) ∈ Sq.elN rows0 j := by
                  refine Sq.mem_drop_set (h := h) ?_ hne
                  rw [← edrop]
                  have : (rows2.drop (f + 1))[t]? = some (rows2[f + 1 + t]'(by omega)) := by rw [List.getElem?_drop]; exact h1
                  exact List.mem_of_getElem? this
                exact ⟨_, h1, al _ h2, ab _ h2⟩
              have en2 : (((zs11.length : Nat) : Int) - ((f : Int) + 1)).toNat = rows0.length - (f + 1) := by omega
              refine sq_fr ⟨_, rfl, _, _, rfl, rfl, _, rfl, D, zs11, rfl, .inl (.of d1), (f : Int) + 1, (zs11.length : Int), rfl, ⟨by omega, by omega, by omega, by omega⟩, ?_⟩
              rw [en2]
              refine for_it walk_range (fun t σ H' => Same H H' ∧ ∃ v4 v7 v8 v9 v10 : Option V, σ = [some (V.ref b), some (.ref D), some (.int (f : Nat)), some (.int (0 + (j : Int))), v4, some (.ref D2), some (.ref pt), v7, v8, v9, v10] ∧ LL K B0 H' D (Sq.upto (f + 1) t (Sq.cutf j top) rows2) ∧ DpN B0 K H' (.ref pt) (liD top)) ⟨s11, _, _, _, _, _, rfl, by rw [Sq.upto_zero]; exact l11, top11⟩ (fun _ _ _ _ _ => trivial) (fun t x σ H12 H13 ht py y => ?_) (fun σ H12 py => ?_)
              · obtain ⟨s12, w4, w7, w8, w9, w10, rfl, l12, top12⟩ := py
                obtain ⟨rfl, rfl⟩ := y
                have ht2 : f + 1 + t < rows0.length := by omega
                obtain ⟨r, r1, r2, r3⟩ := below t ht2
                have r1' := Sq.upto_at (lo := f + 1) (t := t) (g := Sq.cutf j top) r1 (by omega)
                obtain ⟨zs12, pr, q1, q2, q3, q4, q5⟩ := l12.at_ r1'
                have q2' : zs12.length = rows0.length := by rw [q2, Sq.upto_len, l2len]
                have ekk : ((f : Int) + 1) + (t : Int) = ((f + 1 + t : Nat) : Int) := by omega
                have ext := atI_nat q3
                have b64t : B64 (top.getD j 0) := b64_of (Nat.le_trans (Sq.getD_bd t4 j) bb) (by decide)
                have b64r : B64 (r.getD j 0) := b64_of (Nat.le_trans (Sq.getD_bd r3 j) bb) (by decide)
                obtain ⟨_, e_, hpt⟩ := liD_v top12.dp
                cases e_
                dsimp only [gName]
                rw [ekk, ez]
                refine sq_go ⟨_, rfl, _, rfl, D, zs12, _, _, rfl, rfl, .of q1, ext, _, rfl, pr, _, _, _, rfl, rfl, q4, atI_getD (by omega), ?_⟩
                dsimp only
                have hmm : min (r.map V.int).length (top.map V.int).length = m := by rw [List.length_map, List.length_map, r2, t3, Nat.min_self]
                refine ⟨_, rfl, _, rfl, D, zs12, _, _, rfl, rfl, .of q1, ext, _, rfl, pr, pt, _, _, rfl, .inl ⟨q4, hpt, fun D3 hD3 => lcS (walk_zip rfl) hD3 (by rw [hmm]; exact slt (by omega)) (fun i y => y = .int (top.getD j 0 * r.getD i 0 - r.getD j 0 * top.getD i 0)) (fun H e => ⟨e.seq q4, e.seq hpt⟩) (fun i x H14 H15 Q1 hi e y q1 => ?_) (fun H14 ys3 e14 hy14 hn14 hr14 => ?_)⟩⟩
                · obtain ⟨T, x1, x2, rfl, hT, rfl, g1, g2⟩ := y
                  obtain ⟨rfl, rfl, _, _⟩ := pair_at hi g1 g2
                  have e2 := Same.new (o := HO.tup [V.int (r.getD i 0), V.int (top.getD i 0)]) hT
                  exact ⟨T, _, rfl, .of upd_same, rfl, _, _, rfl, _, _, rfl, rfl, rfl, _, rfl, _, rfl, pt, _, _, _, rfl, rfl, (e.trans e2).seq hpt, atI_getD (by omega), _, rfl, _, _, rfl, rfl, .inl b64t, _, rfl, _, rfl, _, _, rfl, rfl, .inl b64r, _, _, rfl, rfl, q1 _ _ rfl e2⟩
                · have ev := vals_int (f := fun i => top.getD j 0 * r.getD i 0 - r.getD j 0 * top.getD i 0) hn14 hr14
                  simp only [List.length_map] at ev
                  rw [zip_range (fun a b => top.getD j 0 * a - r.getD j 0 * b)] at ev
                  have l14 := l12.same e14
                  have hnew : DpN B0 K H14 (.ref D3) (liD (Sq.cutf j top r)) := l12.new e14 hD3 (by rw [hy14, ev]; rfl)
                  have h14 := e14 _ _ q1
                  have kp14 : Kp B0 H14 (upd H14 D (.lst (zs12.set (f + 1 + t) (.ref D3)))) := Kp.put h14 l14.br
                  refine ⟨_, rfl, _, rfl, D, zs12, _, f + 1 + t, rfl, rfl, h14, ixa (by omega), (s12.trans e14).mut hD, _, _, _, _, _, rfl, ?_, (top12.step (Kp.same e14)).step kp14⟩
                  rw [← Sq.upto_succ (lo := f + 1) (t := t) r1]
                  exact l14.put h14 hnew
              · obtain ⟨s12, w4, w7, w8, w9, w10, rfl, l12, top12⟩ := py
                refine ⟨_, rfl, _, _, rfl, rfl, s12, f + 1, _, _, _, _, _, _, _, _, _, rfl, l12, by rw [Sq.upto_len]; exact l2len, by omega, ?_⟩
                rw [← l2len, Sq.upto_drop, edrop, Sq.elN_succ, Sq.stp_some hsome, etop]
        · obtain ⟨s5, f, rows, v3, v4, v5, v6, v7, v8, v9, v10, rfl, l5, hrl, hf, hact⟩ := py
          rw [List.length_map, lr0] at hact
          have em : ((m : Int)).toNat = m := by omega
          refine ⟨_, rfl, _, rfl, b, zs, rfl, .inr (s5.seqT hz), rfl, ?_⟩
          have e9 : decide (V.int (f : Nat) = V.int ((zs.length : Nat) : Int)) = Sq.freeB rows0 := by
            rw [efree]
            try rw [em] at hact
            rw [← hact, hzl]
            by_cases c : f = rows0.length
            · rw [c, ← hrl, List.drop_length]
              exact decide_eq_true rfl
            · have : (rows.drop f).isEmpty = false := by
                cases z : rows.drop f with
                | nil =>
                  have := congrArg List.length z
                  rw [List.length_drop] at this
                  simp at this
                  omega
                | cons => rfl
              rw [this]
              exact decide_eq_false fun z => c (by have := V.int.inj z; omega)
          have := k H5 s5
          rw [← e9] at this
          exact this
end
end Ws
/-! ## Q27c -/
namespace Ws
open PySem PySem.Spec PyProof.Rows L2 RZ
local macro_rules | `(tactic| walk_at "nf") => `(tactic| dsimp only [tNext, tSeq, tDrop, tRet, tRetN, tIfS, tAsg, gName, gTup, gCons, gNil, tVar, tC, tOp, tUn, rI, rI0, rU, rEq, rNe, tTest, tChain, tAnd, tOr, tNot, tAndV, tOrV, tNotV, tIf, tCB, tCKw, tCons, tNil, tTup, tLst, tCa, tCallS, tB, rIxT, rIxL, rIxS, cxOf, Cx.nox, Cx.wish, Cx.blk, L2.start, tPar, tPar3, tNever, tYes, tBits, tRz, tBM, rAppend, tyV, tXf, suiteEnds, gSub, rSetL, tBreak, rMax, tDGet, sDPut, tSl, tNoPart, tPart, tDisp, tPairs, tDGet2, tDNewK, tAugS, ipI, rGetL, tDIn, tDNotIn, tBM0, rPop])
local macro_rules | `(tactic| walk_at "sx") => `(tactic| simp only [wipe, List.cons.injEq, and_assoc, exists_and_left, and_true, List.map_cons, List.map_nil, List.length_cons, List.length_nil, List.cons_append, List.nil_append, List.append_nil, Nat.reduceAdd, Nat.reduceSub, List.replicate, List.getElem?_cons_zero, List.getElem?_cons_succ, List.set_cons_zero, List.set_cons_succ, Option.some.injEq, V.int.injEq, V.bl.injEq, V.ref.injEq, V.str.injEq, exists_eq_left', exists_eq_left, true_and, Bool.true_eq_false, Bool.false_eq_true, if_true, if_false])

theorem subr_addk (r o : Sq.Row) : Sq.subr r o = Sq.addk r o (-1) := by
  unfold Sq.subr Sq.addk
  congr 1
  funext n m
  omega
def bw : Sq.Bar → Sq.Row
  | .apart w => w
  | .less w => w
  | .rest _ w => w
def lawBar (gap : Sq.Row) (ps : List Sq.Row) : Sq.Bar → Bool
  | .apart w => ps.all (fun p => decide (Sq.dotp w p = 0)) && decide (Sq.dotp w gap ≠ 0)
  | .less w => ps.all (fun p => !decide (Sq.dotp w p < 0)) && decide (Sq.dotp w gap < 0)
  | .rest m w => decide (2 ≤ m) && (ps.all (fun p => decide (Sq.dotp w p % m = 0)) && decide (Sq.dotp w gap % m ≠ 0))
def spBarRight (K : PySem.W.Frag) : Sp := fun vs H Q _ => ∃ (lv rv bv : V) (base : Sq.Row) (pers : List Sq.Row) (row : Sq.Row) (b : Sq.Bar) (m : Nat), vs = [lv, rv, bv] ∧ Dp K H lv (lnD base pers) ∧ Dp K H rv (intsD row) ∧ Dp K H bv (barD (some b)) ∧
  row.length = m ∧ m ≤ 10 ∧ pers.length ≤ 10 ∧ (bw b).length = m ∧ (∀ x ∈ bw b, B64 x) ∧ ∀ H', Same H H' → Q (.bl (lawBar (Sq.subr row base) pers b)) H'
abbrev s__law_bar_right : Stmt := top 63
abbrev nm__law_bar_right : List Str := ["line", "row", "bar", "sums", "left", "step", "weight", "number"]
abbrev pr__law_bar_right : List Str := ["line", "row", "bar"]
theorem sc__law_bar_right : FnScope nm__law_bar_right pr__law_bar_right (defScope s__law_bar_right) := ⟨rfl, rfl, rfl, by decide +kernel, rfl, by decide +kernel, by decide +kernel⟩
def bk : Sq.Bar → Str
  | .apart _ => "apart"
  | .less _ => "less"
  | .rest _ _ => "rest"
def br : Sq.Bar → List PyData
  | .apart w => [intsD w]
  | .less w => [intsD w]
  | .rest m w => [.int m, intsD w]
theorem bar_cons (b : Sq.Bar) : barD (some b) = .tuple (.str (bk b) :: br b) := by cases b <;> rfl
theorem bar_last (b : Sq.Bar) : (PyData.str (bk b) :: br b).getLast? = some (intsD (bw b)) := by cases b <;> rfl
theorem bar_len2 (b : Sq.Bar) : 2 ≤ (PyData.str (bk b) :: br b).length := by cases b <;> exact Nat.le_of_ble_eq_true rfl
section
variable {K : PySem.W.Frag} {σ : L2.St} {H : Hp} {a3 : Addr} {ys : List V} {kk : Str} {r : List PyData} {i : Nat}
structure TBn (i : Nat) (K : PySem.W.Frag) (σ : L2.St) (H : Hp) (a3 : Addr) (ys : List V) (kk : Str) (r : List PyData) : Prop where
  v : σ[i]? = some (some (.ref a3))
  sq : SqT K H a3 ys
  dp : DpAll K H ys (.str kk :: r)
theorem TBn.head (t : TBn i K σ H a3 ys kk r) : atI ys 0 = some (.str kk) := by
  obtain ⟨y0, h1, h2, h3⟩ := t.dp.at_ (i := 0) (by simp)
  have : y0 = .str kk := by
    cases h3
    rfl
  rw [← this]
  exact h2
theorem TBn.len (t : TBn i K σ H a3 ys kk r) : ys.length = (PyData.str kk :: r).length := t.dp.length
theorem v_headN (t : TBn i K σ H a3 ys kk r) {s : Str} {Q : VK} (q : Q (.bl (decide (kk = s))) H) : tOp rEq (tOp (rIxT K) (tVar i) (tC (V.int 0))) (tC (V.str s)) σ H Q := by
  refine ⟨_, t.v, a3, ys, 0, _, rfl, rfl, t.sq, t.head, rfl, ?_⟩
  have : decide (V.str kk = V.str s) = decide (kk = s) := decide_eq_decide.mpr ⟨fun e => V.str.inj e, fun e => by rw [e]⟩
  rw [this]
  exact q
theorem v_lenN (t : TBn i K σ H a3 ys kk r) {n : Int} {Q : VK} (q : Q (.bl (decide (((PyData.str kk :: r).length : Int) = n))) H) : tOp rEq (tLen K i) (tC (V.int n)) σ H Q := by
  refine ⟨_, t.v, a3, ys, rfl, .inr t.sq, rfl, ?_⟩
  have : decide (V.int (ys.length : Nat) = V.int n) = decide (((PyData.str kk :: r).length : Int) = n) := decide_eq_decide.mpr ⟨fun e => by have := V.int.inj e; rw [t.len] at this; exact this, fun e => by rw [t.len, e]⟩
  rw [this]
  exact q
theorem t_headN (t : TBn i K σ H a3 ys kk r) {s : Str} {R : Bool → Hp → Prop} (q : R (decide (kk = s)) H) : tTest (tOp rEq (tOp (rIxT K) (tVar i) (tC (V.int 0))) (tC (V.str s))) σ H R := v_headN t ⟨_, rfl, q⟩
theorem t_lenN (t : TBn i K σ H a3 ys kk r) {n : Int} {R : Bool → Hp → Prop} (q : R (decide (((PyData.str kk :: r).length : Int) = n)) H) : tTest (tOp rEq (tLen K i) (tC (V.int n))) σ H R := v_lenN t ⟨_, rfl, q⟩
theorem t_kind (t : TBn i K σ H a3 ys kk r) {s : Str} {n : Int} {R : Bool → Hp → Prop} (q : R (decide (kk = s) && decide (((PyData.str kk :: r).length : Int) = n)) H) :
    tAnd (tTest (tOp rEq (tOp (rIxT K) (tVar i) (tC (V.int 0))) (tC (V.str s)))) (tTest (tOp rEq (tLen K i) (tC (V.int n)))) σ H R := by
  refine t_and (b := decide (kk = s)) (fun R' h => t_headN t h) (fun e => ?_) (fun e => by rw [e, Bool.false_and] at q; exact q)
  rw [e, Bool.true_and] at q
  exact t_lenN t q
end
theorem filt_empty (xs : List Int) (q : Int → Bool) : ((List.range xs.length).filter fun i => q (xs.getD i 0)).isEmpty = xs.all fun x => !q x := by
  have e1 : xs = (List.range xs.length).map fun i => xs.getD i 0 := by
    have := by_places xs (0 : Int) (fun x => x)
    simpa using this.symm
  cases c : xs.all fun x => !q x with
  | true =>
    rw [List.isEmpty_iff, List.filter_eq_nil_iff]
    intro i hi
    have hi2 := List.mem_range.mp hi
    have := List.all_eq_true.mp c _ (List.getElem_mem hi2)
    rw [List.getD_eq_getElem?_getD, List.getElem?_eq_getElem hi2]
    simpa using this
  | false =>
    obtain ⟨x, hx, hq⟩ := List.all_eq_false.mp c
    obtain ⟨i, hi, rfl⟩ := List.mem_iff_getElem.mp hx
    cases z : (List.range xs.length).filter fun i => q (xs.getD i 0) with
    | cons => rfl
    | nil =>
      have := List.filter_eq_nil_iff.mp z i (List.mem_range.mpr hi)
      rw [List.getD_eq_getElem?_getD, List.getElem?_eq_getElem hi] at this
      exact absurd hq (by simpa using this)
theorem test_shape {K : PySem.W.Frag} {σ : L2.St} {H : Hp} {a3 : Addr} {ys : List V} {kk : Str} {r : List PyData} {yl : V} {w : Sq.Row} {R : Bool → Hp → Prop} (t : TBn 2 K σ H a3 ys kk r) (l2 : 2 ≤ (PyData.str kk :: r).length) (h1 : atI ys (-1) = some yl) (h2 : Dp K H yl (intsD w)) (k : R false H) :
    tOr (tNot (tB (tCB (rIsi K) (tCons (tVar 2) (tCons (tC (V.ty "tuple")) tNil))))) (tOr (tTest (tOp (rI0 fun i j => V.bl (decide (i < j))) (tLen K 2) (tC (V.int 2)))) (tNot (tB (tCB (rIsi K) (tCons (tOp (rIxT K) (tVar 2) (tUn (rU fun i => V.int (-i)) (tC (V.int 1)))) (tCons (tC (V.ty "tuple")) tNil)))))) σ H R := by
  have hl := t.len
  have l2i : ¬ ((ys.length : Int) < 2) := by omega
  walk_at "nf"
  refine ⟨_, t.v, isi_tuple (Dp.tup t.sq t.dp) ⟨_, rfl, iteF ⟨_, t.v, a3, ys, rfl, .inr t.sq, _, _, rfl, rfl, _, rfl, ?_⟩⟩⟩
  rw [decide_eq_false l2i]
  exact iteF ⟨_, t.v, 1, rfl, a3, ys, -1, _, rfl, rfl, t.sq, h1, isi_tuple h2 ⟨_, rfl, k⟩⟩
theorem ne0 (x : Int) : (!decide (V.int x = V.int 0)) = decide (x ≠ 0) := by
  by_cases c : x = 0
  · rw [c]; rfl
  · rw [decide_eq_false (fun z => c (V.int.inj z)), decide_eq_true c]; rfl
theorem none_list {K : PySem.W.Frag} {σ : L2.St} {H : Hp} {D : Addr} {xs : List Int} {tt : TT} {Q : VK} (q : Int → Bool) (h3 : σ[3]? = some (some (.ref D))) (hd : SqL K H D (xs.map V.int)) (hn : xs.length ≤ 1000) (ht : ∀ x (H' : Hp) (R : Bool → Hp → Prop), Same H H' → (∀ H'', Same H' H'' → R (q x) H'') → tt ((wipe σ [7]).set 7 (some (.int x))) H' R) (hw : ∀ x : Int, wipe ((wipe σ [7]).set 7 (some (.int x))) [7] = wipe σ [7]) {b : Bool} (eb : (xs.all fun x => !q x) = b) (k : ∀ H', Same H H' → Q (.bl b) H') :
    tOp (rEqD K) (tLc (iList K (tVar 3)) (gName 7) tt (tC (V.int 1)) [7]) (tLst tNil) σ H Q := by
  refine ⟨_, h3, D, rfl, ⟨_, hd⟩, fun D2 hD2 => lcF walk_list hD2 (by rw [List.length_map]; exact slt (by omega)) (fun i => q (xs.getD i 0)) (fun i y H => y = .int 1) (fun i y H H' e n q => q) (fun H e => e.seq hd) (fun i x H7 H8 Q1 Q0 hi e7 y q1 q0 => ?_) (fun H7 ys e7 hy7 g7 => ?_)⟩
  · obtain ⟨rfl, hx⟩ := y
    obtain ⟨t, ht0, rfl⟩ := ints_get hx
    have et : xs.getD i 0 = t := by rw [List.getD_eq_getElem?_getD, ht0]; rfl
    rw [et] at q1 q0
    refine ⟨hw t, ht t _ _ e7 fun H9 e9 => ?_⟩
    cases c : q t with
    | true => exact iteT (q1 c _ _ rfl e9)
    | false => exact iteF (q0 c _ e9)
  · have ev := g7.vals (fun i => V.int 1) (fun i y h => h)
    refine ⟨Nat.zero_le _, fun p9 hp9 => ?_⟩
    have e9 := Same.new (o := HO.lst []) hp9
    have hy9 := e9 _ _ hy7
    rw [ev] at hy9
    rw [List.length_map] at hy9
    generalize hhs : (List.range xs.length).filter (fun i => q (xs.getD i 0)) = hs at *
    have e0 : hs.isEmpty = xs.all fun x => !q x := by
      rw [← hhs, filt_empty]
    have dl : Dp K (upd H7 p9 (HO.lst [])) (.ref D2) (.list (hs.map fun _ => PyData.int 1)) := by
      refine .lst (.of hy9) ?_
      have : (hs.map fun _ => PyData.int 1) = (hs.map fun _ => (1 : Int)).map PyData.int := by rw [List.map_map]; rfl
      rw [this]
      have : (hs.map fun _ => V.int 1) = (hs.map fun _ => (1 : Int)).map V.int := by rw [List.map_map]; rfl
      rw [this]
      exact DpAll.ints _
    refine ⟨_, .list [], dl, .lst (.of upd_same) .nil, (SN.list (n := 0) fun d hd => by obtain ⟨i, _, rfl⟩ := List.mem_map.mp hd; exact .int 1).shaped (by decide), (SN.list (n := 0) (ds := []) (by simp)).shaped (by decide), ?_⟩
    rw [eqv_nil_l]
    have e1 : (hs.map fun _ => PyData.int 1).isEmpty = hs.isEmpty := by cases hs <;> rfl
    rw [e1, e0, eb]
    exact k _ (e7.trans e9)
section
variable {P : Program} {w : World} {K : PySem.W.Frag} {mg : Str → Option Value} {base : Heap}
theorem ok_bar_right (B : Bl mg) (F1 : Df P w K mg base CX0 1 "_law_whole" pr__law_whole (spWhole K)) (F2 : Df P w K mg base CX0 1 "_law_sum" pr__law_sum (spSumL K)) (F3 : Df P w K mg base CX0 1 "_law_minus" pr__law_minus (spMinus K)) (D : Dt K mg "_law_bar_right" s__law_bar_right pr__law_bar_right) :
    Df P w K mg base CX0 2 "_law_bar_right" pr__law_bar_right (spBarRight K) := by
  refine D.ok sc__law_bar_right (fun vs H Q E h => ?_) (fun f cdv A outer s H vs Q E hr h => ?_)
  · obtain ⟨lv, rv, bv, bs, pers, row, b, m, rfl, _⟩ := h
    rfl
  · obtain ⟨lv, rv, bv, bs, pers, row, b, m, rfl, hl, hrv, hb, rl, m10, pl, wl, wb, k⟩ := h
    rw [bar_cons] at hb
    obtain ⟨a3, ys, rfl, ha3, hya⟩ := hb.tup_inv
    have hyl := hya.length
    have l2 := bar_len2 b
    obtain ⟨yl, hyl1, hyl2⟩ := at_dp hya (i := -1) (d := intsD (bw b)) (by rw [atI_neg1]; exact bar_last b)
    obtain ⟨wp, rfl, hwp⟩ := hyl2.ints_tup
    obtain ⟨rp, rfl, hrp⟩ := hrv.ints_tup
    obtain ⟨p, b1, u1, rfl, hp, hb1, hu1⟩ := ln_v hl
    obtain ⟨b2, ps, rfl, hps, hpl, hpat, _⟩ := tup_view hu1
    refine ⟨_, (pss_cons (ps_if (PW.pt (pw_or (pt_not (pt_val (pe_callB call_isi (by rfl) B.isinstance boot_isinstance (pa_cons (pv 2) (pa_cons (pe_bltn (v := .ty "tuple") (by rfl) B.tuple PyProof.Rows.boot_tuple rfl) pa_nil))))) (pw_or (pt_cmpR op_lt (pe_callB call_len_seq (by rfl) B.len PySem.boot_len (pa_cons (pv 2) pa_nil)) pe_int (nomark _)) (pw_or1 (pt_not (pt_val (pe_callB call_isi (by rfl) B.isinstance boot_isinstance (pa_cons (pe_ix ix_tup (pv 2) (pe_un un_neg pe_int) (fun _ _ => rfl)) (pa_cons (pe_bltn (v := .ty "tuple") (by rfl) B.tuple PyProof.Rows.boot_tuple rfl) pa_nil))))))))) (pss_one (ps_ret pe_bl)) pss_nil) (pss_cons (ps_if (pt_cmpR op_ne (pe_callB call_len_seq (by rfl) B.len PySem.boot_len (pa_cons (pe_ix ix_tup (pv 2) (pe_un un_neg pe_int) (fun _ _ => rfl)) pa_nil)) (pe_callB call_len_seq (by rfl) B.len PySem.boot_len (pa_cons (pv 1) pa_nil)) (nomark _)) (pss_one (ps_ret pe_bl)) pss_nil) (pss_cons (ps_if (pt_cmpR (op_neD (hu64 hr)) (pe_lc (own := [("weight", 6)]) (g := gName 6) (tt := (tNot (tB (tCa (spWhole K) E0 (tCons (tVar 6) tNil))))) (by rfl) sc__law_bar_right.nd (pi_tup (pe_ix ix_tup (pv 2) (pe_un un_neg pe_int) (fun _ _ => rfl))) (blkOk_by (own := [("weight", 6)]) (N := nm__law_bar_right) (sc := defScope s__law_bar_right) (by decide +kernel)) (fun _ _ _ _ _ => pg_name (i := 6) sc__law_bar_right.nd rfl (Or.inl rfl)) (fun _ _ _ _ _ => (pts_one (pt_not (pt_val (pe_f F1 (hr.mono (by decide)) pass0 (pa_cons (pv 6) pa_nil)))))) (fun _ _ _ _ _ => pe_int)) (pe_lst pa_nil) (nomark _)) (pss_one (ps_ret pe_bl)) pss_nil) (pss_cons (ps_setLc (i := 3) (own := [("step", 5)]) (g := gName 5) (tt := tYes) (te := tCa (spSumL K) E0 (tCons (tOp (rIxT K) (tVar 2) (tUn (rU fun i => V.int (-i)) (tC (V.int 1)))) (tCons (tVar 5) tNil))) rfl sc__law_bar_right.nd rfl rfl (sw_true rfl rfl rfl (by decide +kernel)) (pi_tup (pe_ix ix_tup (pv 0) pe_int (fun _ _ => rfl))) (blkOk_by (own := [("step", 5)]) (N := nm__law_bar_right) (sc := defScope s__law_bar_right) (by decide +kernel)) (fun _ _ _ _ _ => pg_name (i := 5) sc__law_bar_right.nd rfl (Or.inl rfl)) (fun _ _ _ _ _ => pts_nil) (fun _ _ _ _ _ => (pe_f F2 (hr.mono (by decide)) pass0 (pa_cons (pe_ix ix_tup (pv 2) (pe_un un_neg pe_int) (fun _ _ => rfl)) (pa_cons (pv 5) pa_nil))))) (pss_cons (ps_set (i := 4) sc__law_bar_right.nd rfl (Or.inl rfl) (pe_f F2 (hr.mono (by decide)) pass0 (pa_cons (pe_ix ix_tup (pv 2) (pe_un un_neg pe_int) (fun _ _ => rfl)) (pa_cons (pe_f F3 (hr.mono (by decide)) pass0 (pa_cons (pv 1) (pa_cons (pe_ix ix_tup (pv 0) pe_int (fun _ _ => rfl)) pa_nil))) pa_nil)))) (pss_cons (ps_if (PW.pt (pw_and (pt_cmpR op_eq (pe_ix ix_tup (pv 2) pe_int (fun _ _ => rfl)) pe_str (nomark _)) (pw_and1 (pt_cmpR op_eq (pe_callB call_len_seq (by rfl) B.len PySem.boot_len (pa_cons (pv 2) pa_nil)) pe_int (nomark _))))) (pss_one (ps_ret (pe_and (pe_cmpR (op_eqD (hu64 hr)) (pe_lc (own := [("number", 7)]) (g := gName 7) (tt := _) (by rfl) sc__law_bar_right.nd (pi_list (pv 3)) (blkOk_by (own := [("number", 7)]) (N := nm__law_bar_right) (sc := defScope s__law_bar_right) (by decide +kernel)) (fun _ _ _ _ _ => pg_name (i := 7) sc__law_bar_right.nd rfl (Or.inl rfl)) (fun _ _ _ _ _ => (pts_one (pt_cmpR op_ne (pv 7) pe_int (nomark _)))) (fun _ _ _ _ _ => pe_int)) (pe_lst pa_nil) (nomark _)) (pe_one (pe_cmpR op_ne (pv 4) pe_int (nomark _)))))) pss_nil) (pss_cons (ps_if (PW.pt (pw_and (pt_cmpR op_eq (pe_ix ix_tup (pv 2) pe_int (fun _ _ => rfl)) pe_str (nomark _)) (pw_and1 (pt_cmpR op_eq (pe_callB call_len_seq (by rfl) B.len PySem.boot_len (pa_cons (pv 2) pa_nil)) pe_int (nomark _))))) (pss_one (ps_ret (pe_and (pe_cmpR (op_eqD (hu64 hr)) (pe_lc (own := [("number", 7)]) (g := gName 7) (tt := _) (by rfl) sc__law_bar_right.nd (pi_list (pv 3)) (blkOk_by (own := [("number", 7)]) (N := nm__law_bar_right) (sc := defScope s__law_bar_right) (by decide +kernel)) (fun _ _ _ _ _ => pg_name (i := 7) sc__law_bar_right.nd rfl (Or.inl rfl)) (fun _ _ _ _ _ => (pts_one (pt_cmpR op_lt (pv 7) pe_int (nomark _)))) (fun _ _ _ _ _ => pe_int)) (pe_lst pa_nil) (nomark _)) (pe_one (pe_cmpR op_lt (pv 4) pe_int (nomark _)))))) pss_nil) (pss_cons (ps_if (PW.pt (pw_or (pt_cmpR op_ne (pe_ix ix_tup (pv 2) pe_int (fun _ _ => rfl)) pe_str (nomark _)) (pw_or (pt_cmpR op_ne (pe_callB call_len_seq (by rfl) B.len PySem.boot_len (pa_cons (pv 2) pa_nil)) pe_int (nomark _)) (pw_or (pt_not (pt_val (pe_f F1 (hr.mono (by decide)) pass0 (pa_cons (pe_ix ix_tup (pv 2) pe_int (fun _ _ => rfl)) pa_nil)))) (pw_or1 (pt_cmpR op_lt (pe_ix ix_tup (pv 2) pe_int (fun _ _ => rfl)) pe_int (nomark _))))))) (pss_one (ps_ret pe_bl)) pss_nil) (pss_one (ps_ret (pe_and (pe_cmpR (op_eqD (hu64 hr)) (pe_lc (own := [("number", 7)]) (g := gName 7) (tt := (tTest (tOp rNe (tOp (rI (fun _ j => 0 < j) fun i j => V.int (i % j)) (tCB (fun xs H Q => (∃ i, xs = [V.int i] ∧ Q (V.int i) H) ∨ ∃ k, xs = [V.bl k] ∧ Q (V.int (if k = true then 1 else 0)) H) (tCons (tVar 7) tNil)) (tOp (rIxT K) (tVar 2) (tC (V.int 1)))) (tC (V.int 0))))) (by rfl) sc__law_bar_right.nd (pi_list (pv 3)) (blkOk_by (own := [("number", 7)]) (N := nm__law_bar_right) (sc := defScope s__law_bar_right) (by decide +kernel)) (fun _ _ _ _ _ => pg_name (i := 7) sc__law_bar_right.nd rfl (Or.inl rfl)) (fun _ _ _ _ _ => (pts_one (pt_cmpR op_ne (pe_op op_mod (pe_callTy call_int1 (by rfl) B.int PyProof.Rows.boot_int (pa_cons (pv 7) pa_nil)) (pe_ix ix_tup (pv 2) pe_int (fun _ _ => rfl))) pe_int (nomark _)))) (fun _ _ _ _ _ => pe_int)) (pe_lst pa_nil) (nomark _)) (pe_one (pe_cmpR op_ne (pe_op op_mod (pe_callTy call_int1 (by rfl) B.int PyProof.Rows.boot_int (pa_cons (pv 4) pa_nil)) (pe_ix ix_tup (pv 2) pe_int (fun _ _ => rfl))) pe_int (nomark _)))))))))))))), ?_⟩
    dsimp only [cxOf, Cx.nox, L2.start]
    have l2i : ¬ ((ys.length : Int) < 2) := by omega
    have m1 : atI ys (-1) = some (V.ref wp) := hyl1
    refine sq_if0 (test_shape (a3 := a3) (ys := ys) (kk := bk b) (r := br b) ⟨rfl, ha3, hya⟩ l2 m1 hyl2 (iteF ?_))
    refine sq_if0 ⟨_, rfl, 1, rfl, a3, ys, -1, _, rfl, rfl, ha3, m1, wp, _, rfl, .inr hwp, _, rfl, rp, _, rfl, .inr hrp, rfl, _, rfl, ?_⟩
    have e1 : (V.int ((List.map V.int (bw b)).length : Nat) = V.int ((List.map V.int row).length : Nat)) := by
      rw [List.length_map, List.length_map, wl, rl]
    rw [decide_eq_true e1]
    refine iteF ?_
    refine sq_if0 ⟨_, rfl, 1, rfl, a3, ys, -1, _, rfl, rfl, ha3, m1, wp, rfl, ⟨_, hwp⟩, fun D2 hD2 => lcF walk_tup hD2 (by rw [List.length_map]; exact slt (by omega)) (fun i => false) (fun i y H => y = .int 1) (fun i y H H' e n q => q) (fun H e => e.seqT hwp) (fun i x H7 H8 Q1 Q0 hi e7 y q1 q0 => ?_) (fun H7 zs7 e7 hy7 g7 => ?_)⟩
    · obtain ⟨rfl, hx⟩ := y
      obtain ⟨t, ht0, rfl⟩ := ints_get hx
      exact ⟨rfl, _, rfl, _, .int t, rfl, .int t, _, rfl, iteF (q0 rfl _ (Same.refl _))⟩
    have ev := g7.vals (fun i => V.int 1) (fun i y h => h)
    have ev : zs7 = [] := by rw [ev]; simp
    subst ev
    refine ⟨Nat.zero_le _, fun p9 hp9 => ?_⟩
    have e9 := Same.new (o := HO.lst []) hp9
    have hy9 := e9 _ _ hy7
    have e79 := e7.trans e9
    have hc9 : (upd H7 p9 (HO.lst [])) p9 = some (HO.lst []) := upd_same
    generalize upd H7 p9 (HO.lst []) = H9 at *
    refine ⟨.list [], .list [], .lst (.of hy9) .nil, .lst (.of hc9) .nil, (SN.list (n := 0) (ds := []) (by simp)).shaped (by decide), (SN.list (n := 0) (ds := []) (by simp)).shaped (by decide), _, rfl, iteF ?_⟩
    have hps9 := e79.seqT hps
    have hpat9 : ∀ (i : Nat) (z : V), ps[i]? = some z → ∃ r, pers[i]? = some r ∧ Dp K H9 z (intsD r) := fun i z h => by
      obtain ⟨r, h1, h2⟩ := hpat i z h
      exact ⟨r, h1, h2.to e79⟩
    have ha9 := e79.seqT ha3
    refine sq_go ⟨_, rfl, p, _, 1, _, rfl, rfl, e79.seqT hp, rfl, b2, rfl, ⟨_, hps9⟩, fun D hD => lcS walk_tup hD (by rw [hpl]; exact slt (by omega)) (fun j y => y = .int (Sq.dotp (bw b) (pers.getD j []))) (fun H e => e.seqT hps9) (fun j x H4 H5 Q1 hj e y q1 => ?_) (fun H4 ys2 e4 hy4 hn4 hr4 => ?_)⟩
    · obtain ⟨rfl, hx⟩ := y
      obtain ⟨pe, hpe, hdpe⟩ := hpat9 j x hx
      have epe : pers.getD j [] = pe := by rw [List.getD_eq_getElem?_getD, hpe]; rfl
      rw [epe] at q1
      exact ⟨rfl, _, rfl, 1, rfl, a3, _, -1, _, rfl, rfl, e.seqT ha9, m1, x, rfl, .ref wp, x, bw b, pe, rfl, (hyl2.to e79).to e, hdpe.to e, wb, fun H6 e6 => q1 _ _ rfl e6⟩
    have ev := vals_int (f := fun j => Sq.dotp (bw b) (pers.getD j [])) hn4 hr4
    rw [hpl] at ev
    have e5 : (List.range pers.length).map (fun j => Sq.dotp (bw b) (pers.getD j [])) = pers.map (Sq.dotp (bw b)) := by_places pers [] (Sq.dotp (bw b))
    rw [e5] at ev
    subst ev
    have s4 := e79.trans e4
    have hd4 : SqL K H4 D ((pers.map (Sq.dotp (bw b))).map V.int) := .of hy4
    refine sq_go ⟨_, rfl, 1, rfl, a3, _, -1, _, rfl, rfl, s4.seqT ha3, m1, _, rfl, _, rfl, p, _, 0, _, rfl, rfl, s4.seqT hp, rfl, .ref rp, b1, row, bs, rfl, hrv.to s4, hb1.to s4, by omega, fun H5 g e5 hg => ⟨.ref wp, g, bw b, Sq.subr row bs, rfl, (hyl2.to s4).to e5, hg, wb, fun H6 e6 => ?_⟩⟩
    have s6 := (s4.trans e5).trans e6
    have hd6 := (e5.trans e6).seq hd4
    have ha6 := s6.seqT ha3
    have hya6 := DpAll.to hya s6
    have k6 := fun H' (e : Same H6 H') => k H' (s6.trans e)
    generalize Sq.subr row bs = gap at *
    have hpl2 : (pers.map (Sq.dotp (bw b))).length ≤ 1000 := by rw [List.length_map]; omega
    have nq : ∀ (q : Int → Bool) (w : Sq.Row), ((pers.map (Sq.dotp w)).all fun x => !q x) = pers.all fun p => !q (Sq.dotp w p) := fun q w => by
      rw [List.all_map]
      rfl
    cases b with
    | apart wv =>
      refine sq_if0 (t_kind (a3 := a3) (ys := ys) (kk := "apart") (r := [intsD wv]) ⟨rfl, ha6, hya6⟩ (iteT ?_))
      have e8 : (pers.all fun p => !decide (Sq.dotp wv p ≠ 0)) = pers.all fun p => decide (Sq.dotp wv p = 0) := by
        congr 1
        funext p
        simp
      refine none_list (fun x => decide (x ≠ 0)) rfl hd6 hpl2 (fun x H' R hx hr => ⟨_, rfl, rfl, _, rfl, ?_⟩) (fun x => rfl) (nq _ wv) (fun H' e => ⟨_, rfl, ?_⟩)
      · show R (!decide (V.int x = V.int 0)) H'
        rw [ne0]
        exact hr _ (Same.refl _)
      · have k7 := k6 H' e
        simp only [lawBar] at k7
        rw [← e8] at k7
        cases c : pers.all fun p => !decide (Sq.dotp wv p ≠ 0) with
        | false =>
          rw [c] at k7
          exact iteF k7
        | true =>
          rw [c, ← ne0] at k7
          exact iteT ⟨_, rfl, rfl, k7⟩
    | less wv =>
      refine sq_if0 (t_kind (a3 := a3) (ys := ys) (kk := "less") (r := [intsD wv]) ⟨rfl, ha6, hya6⟩ (iteF ?_))
      refine sq_if0 (t_kind (a3 := a3) (ys := ys) (kk := "less") (r := [intsD wv]) ⟨rfl, ha6, hya6⟩ (iteT ?_))
      refine none_list (fun x => decide (x < 0)) rfl hd6 hpl2 (fun x H' R hx hr => ⟨_, rfl, _, _, rfl, rfl, _, rfl, hr _ (Same.refl _)⟩) (fun x => rfl) (nq _ wv) (fun H' e => ⟨_, rfl, ?_⟩)
      have k7 := k6 H' e
      simp only [lawBar] at k7
      cases c : pers.all fun p => !decide (Sq.dotp wv p < 0) with
      | false =>
        rw [c] at k7
        exact iteF k7
      | true =>
        rw [c] at k7
        exact iteT ⟨_, rfl, _, _, rfl, rfl, k7⟩
    | rest md wv =>
      refine sq_if0 (t_kind (a3 := a3) (ys := ys) (kk := "rest") (r := [.int md, intsD wv]) ⟨rfl, ha6, hya6⟩ (iteF ?_))
      refine sq_if0 (t_kind (a3 := a3) (ys := ys) (kk := "rest") (r := [.int md, intsD wv]) ⟨rfl, ha6, hya6⟩ (iteF ?_))
      obtain ⟨y1, f1, f2, f3⟩ := hya6.at_ (i := 1) (by exact Nat.le_of_ble_eq_true rfl)
      have f3' : Dp K H6 y1 (.int md) := f3
      obtain rfl : y1 = .int md := by cases f3'; rfl
      have hyl9 : (ys.length : Int) = 3 := by rw [hyl]; rfl
      refine sq_if0 ⟨_, rfl, a3, ys, 0, _, rfl, rfl, ha6, (show TBn 2 K [none, none, some (V.ref a3)] H6 a3 ys "rest" [.int md, intsD wv] from ⟨rfl, ha6, hya6⟩).head, rfl, _, rfl, iteF ⟨_, rfl, a3, ys, rfl, .inr ha6, rfl, _, rfl, ?_⟩⟩
      have e3 : V.int (ys.length : Nat) = V.int 3 := by rw [hyl9]
      rw [decide_eq_true e3]
      refine iteF ⟨_, rfl, a3, ys, 1, _, rfl, rfl, ha6, f2, _, .int md, rfl, f3', _, rfl, iteF ⟨_, rfl, a3, ys, 1, _, rfl, rfl, ha6, f2, _, _, rfl, rfl, _, rfl, ?_⟩⟩
      by_cases c2 : md < 2
      · rw [decide_eq_true c2]
        refine iteT ?_
        have k7 := k6 H6 (Same.refl _)
        simp only [lawBar] at k7
        rw [decide_eq_false (by omega)] at k7
        exact k7
      rw [decide_eq_false c2]
      refine iteF ?_
      refine none_list (fun x => decide (x % md ≠ 0)) rfl hd6 hpl2 (fun x H' R hx hr => ⟨_, rfl, .inl ⟨_, rfl, _, rfl, a3, ys, 1, _, rfl, rfl, hx.seqT ha6, f2, _, _, rfl, rfl, by omega, rfl, _, rfl, ?_⟩⟩) (fun x => rfl) (nq _ wv) (fun H' e => ⟨_, rfl, ?_⟩)
      · have := hr H' (Same.refl _)
        rw [← ne0] at this
        exact this
      have k7 := k6 H' e
      simp only [lawBar] at k7
      have e8 : (pers.all fun p => !decide (Sq.dotp wv p % md ≠ 0)) = pers.all fun p => decide (Sq.dotp wv p % md = 0) := by
        congr 1
        funext p
        simp
      rw [← e8, decide_eq_true (show 2 ≤ md by omega)] at k7
      cases c : pers.all fun p => !decide (Sq.dotp wv p % md ≠ 0) with
      | false =>
        rw [c] at k7
        exact iteF k7
      | true =>
        rw [c, ← ne0] at k7
        refine iteT ⟨_, rfl, .inl ⟨_, rfl, _, rfl, a3, ys, 1, _, rfl, rfl, e.seqT ha6, f2, _, _, rfl, rfl, by omega, rfl, k7⟩⟩
end
end Ws
/-! ## B27 -/
namespace Ws
open PySem PySem.Spec PyProof.Rows L2 RZ
theorem all_le (w : Sq.Row) (ps : List Sq.Row) : (ps.all fun p => !decide (Sq.dotp w p < 0)) = ps.all fun p => decide (0 ≤ Sq.dotp w p) := by
  congr 1
  funext p
  by_cases c : Sq.dotp w p < 0
  · rw [decide_eq_true c, decide_eq_false (by omega)]; rfl
  · rw [decide_eq_false c, decide_eq_true (by omega)]; rfl
theorem all_any (w : Sq.Row) (ps : List Sq.Row) : (!ps.any fun p => decide ¬Sq.dotp w p = 0) = ps.all fun p => decide (Sq.dotp w p = 0) := by
  rw [List.not_any_eq_all_not]
  congr 1
  funext p
  simp
theorem law_bar {gap : Sq.Row} {ps : List Sq.Row} {b : Sq.Bar} (h : lawBar gap ps b = true) : Sq.barB gap ps b = true := by
  cases b with
  | apart w => exact h
  | less w =>
    simp only [lawBar, all_le] at h
    exact h
  | rest m w =>
    simp only [lawBar, Bool.and_eq_true] at h
    simp only [Sq.barB, Bool.and_eq_true]
    exact h.2
def barDs (b : Sq.Bar) : List PyData := .str (bk b) :: br b
theorem s_ap : decide (("apart" : Str) = "apart") = true := by decide +kernel
theorem s_le : decide (("less" : Str) = "apart") = false := by decide +kernel
theorem s_re : decide (("rest" : Str) = "apart") = false := by decide +kernel
theorem s_rl : decide (("rest" : Str) = "less") = false := by decide +kernel
theorem s_ll : decide (("less" : Str) = "less") = true := by decide +kernel
theorem s_rr : decide (("rest" : Str) = "rest") = true := by decide +kernel
theorem s_lr : decide (("less" : Str) = "rest") = false := by decide +kernel
theorem s_ar : decide (("apart" : Str) = "rest") = false := by decide +kernel
theorem law_val {gap : Sq.Row} {ps : List Sq.Row} {b : Sq.Bar} : lawBar gap ps b = barVal gap ps (barDs b) (bk b) (bw b) := by
  cases b with
  | apart w =>
    unfold barVal
    rw [if_neg (show ¬ (isRest (barDs (.apart w)) (bk (.apart w)) = true) from fun e => by
      have : (decide (("apart" : Str) = "rest") && _) = true := e
      rw [s_ar] at this; cases this)]
    refine Eq.trans ?_ (if_pos ?_).symm
    rotate_left
    · show (decide (("apart" : Str) = "apart") && true) = true
      rw [s_ap]; rfl
    show (ps.all (fun p => decide (Sq.dotp w p = 0)) && decide (Sq.dotp w gap ≠ 0)) = (decide (Sq.dotp w gap ≠ 0) && !ps.any fun p => decide ¬Sq.dotp w p = 0)
    rw [all_any, Bool.and_comm]
  | less w =>
    unfold barVal
    rw [if_neg (show ¬ (isRest (barDs (.less w)) (bk (.less w)) = true) from fun e => by
      have : (decide (("less" : Str) = "rest") && _) = true := e
      rw [s_lr] at this; cases this)]
    refine Eq.trans ?_ (if_neg ?_).symm
    rotate_left
    · show ¬ (decide (("less" : Str) = "apart") && true) = true
      rw [s_le]; exact fun z => by cases z
    show (ps.all (fun p => !decide (Sq.dotp w p < 0)) && decide (Sq.dotp w gap < 0)) = (decide (("less" : Str) = "less") && (true && (decide (Sq.dotp w gap < 0) && ps.all fun p => decide (0 ≤ Sq.dotp w p))))
    rw [all_le, Bool.and_comm, s_ll]
    rfl
  | rest m w =>
    have h1 : isRest (barDs (.rest m w)) (bk (.rest m w)) = decide (2 ≤ m) := by
      show (decide (("rest" : Str) = "rest") && (true && (true && decide (2 ≤ m)))) = _
      rw [s_rr]
      rfl
    unfold barVal
    rw [h1]
    show (decide (2 ≤ m) && ((ps.all (fun p => decide (Sq.dotp w p % m = 0))) && decide (Sq.dotp w gap % m ≠ 0))) = _
    by_cases c : 2 ≤ m
    · rw [if_pos (decide_eq_true c), decide_eq_true c, Bool.true_and, Bool.and_comm]
      rfl
    · rw [if_neg (by rw [decide_eq_false c]; exact Bool.false_ne_true), decide_eq_false c]
      refine Eq.trans ?_ (if_neg ?_).symm
      rotate_left
      · show ¬ (decide (("rest" : Str) = "apart") && false) = true
        rw [Bool.and_false]; exact Bool.false_ne_true
      show _ = (decide (("rest" : Str) = "less") && _)
      rw [s_rl]
      rfl
end Ws
/-! ## W27 -/
namespace Ws
open PySem PySem.Spec PyProof.Rows L2 RZ
def ItzL (K : PySem.W.Frag) (l r : Addr) : L2.It :=
  ⟨fun k H => ∃ (us vs : List V) (y z : V), SqL K H l us ∧ SqT K H r vs ∧ us[k]? = some y ∧ vs[k]? = some z,
    fun k H out H' => ∃ T y z, out = .ref T ∧ H T = none ∧ H' = upd H T (.tup [y, z]) ∧ (∀ us, SqL K H l us → us[k]? = some y) ∧ ∀ vs, SqT K H r vs → vs[k]? = some z,
    fun k H => ∃ us vs : List V, SqL K H l us ∧ SqT K H r vs ∧ k ≤ us.length ∧ k ≤ vs.length ∧ (k = us.length ∨ k = vs.length)⟩
theorem turn_zipL {P : Program} {w : World} {K : PySem.W.Frag} {elts : List Expr} {kk : Nat} {tpos : Pos} {l r z t o i j : Addr} (D : SepM z t o i j l r) :
    Turn P w K (.Tuple elts kk tpos) (ItzL K l r) [z, t, o, i, j] z (fun k h => IsZip h z t o .none ∧ IsTupOf2 h t (.ref i) (.ref j) ∧ (∃ y1 y2, IsTupOf2 h o y1 y2) ∧ h.IsListIter i l k ∧ h.IsTupleIter j r k) where
  mem := List.mem_cons_self ..
  obj := fun k h st c hc => by
    obtain ⟨st1, st2, ⟨y1, y2, st3⟩, ⟨oi, gi, _, di⟩, ⟨oj, gj, _, dj⟩⟩ := st
    have hc' : c = z ∨ c = t ∨ c = o ∨ c = i ∨ c = j := by simpa using hc
    rcases hc' with rfl | rfl | rfl | rfl | rfl
    · exact ⟨_, st1, fun _ e => nomatch e⟩
    · exact ⟨_, st2, fun _ e => nomatch e⟩
    · exact ⟨_, st3, fun _ e => nomatch e⟩
    · exact ⟨oi, gi, fun _ e => by rw [di] at e; cases e⟩
    · exact ⟨oj, gj, fun _ e => by rw [dj] at e; cases e⟩
  keep := fun k h h' st q => by
    obtain ⟨st1, st2, ⟨y1, y2, st3⟩, st4, st5⟩ := st
    exact ⟨q z (by simp) _ st1, q t (by simp) _ st2, ⟨y1, y2, q o (by simp) _ st3⟩, st4.at fun ob e => q i (by simp) ob e, st5.at fun ob e => q j (by simp) ob e⟩
  item := by
    intro X hP hw hK hc k pins s σ H E I fresh st go
    subst hP hw hK
    obtain ⟨st1, st2, ⟨y1, y2, st3⟩, st4, st5⟩ := st
    obtain ⟨us, vs, y, w0, su, sv, gy, gw⟩ := go
    obtain ⟨its, rel, ti, _⟩ := I.list su
    obtain ⟨jts, rel2, tj, _⟩ := I.tuple sv
    obtain ⟨p, hp, rp⟩ := rel.get gy
    obtain ⟨p2, hp2, rp2⟩ := rel2.get gw
    have below : z < s.heap.objs.size := Heap.lt_size st1
    have bi : i < s.heap.objs.size := let ⟨_, e, _⟩ := st4; Heap.lt_size e
    have bj : j < s.heap.objs.size := let ⟨_, e, _⟩ := st5; Heap.lt_size e
    have hd := I.ok.hd hc
    have d1 := Draws.list (prog := X.prog) (w := X.w) (A := X.A.in1) hd i l D.il its.toArray
    have d2 := Draws.tuple (prog := X.prog) (w := X.w) (A := X.A.in1) hd j r D.jr jts.toArray
    refine wpAny_pyNext_zipD2_item D.s d1 d2 st1 st2 st3 ⟨st4, ti.isList⟩ ⟨st5, tj⟩
      (by have := (List.getElem?_eq_some_iff.mp hp).1; simpa using this) (by have := (List.getElem?_eq_some_iff.mp hp2).1; simpa using this) fun x1 x2 h1 tk1 e1 e2 n1 n2 n3 n4 n5 n6 up => ?_
    obtain rfl : p = x1 := by have e1 : its.toArray[k]? = some x1 := e1; rw [List.getElem?_toArray, hp] at e1; exact Option.some.inj e1
    obtain rfl : p2 = x2 := by have e2 : jts.toArray[k]? = some x2 := e2; rw [List.getElem?_toArray, hp2] at e2; exact Option.some.inj e2
    refine ⟨_, rfl, wpAny_letOwnedTupleGo_zip (s := { s with heap := h1, toks := tk1 }) n1 fun h2 m1 sb => ?_⟩
    have pair : h2.get? s.heap.objs.size = some { cls := .type "tuple", data := .seq #[p, p2] } := (sb.2 _ (Nat.ne_of_gt below)).trans n5
    have both : ∀ c ob, c ∉ [z, t, o, i, j] → s.heap.get? c = some ob → h2.get? c = some ob := fun c ob out e => by
      have a1 : c ≠ z := fun q => out (by simp [q])
      have a2 : c ≠ o := fun q => out (by simp [q])
      have a3 : c ≠ i := fun q => out (by simp [q])
      have a4 : c ≠ j := fun q => out (by simp [q])
      exact (sb.2 c a1).trans (up c ob a1 a2 a3 a4 e)
    have J := I.turnedNew (t' := tk1) (ch := [z, t, o, i, j]) (ob := .tup [y, w0]) both fresh (Nat.le_refl _)
      ⟨by show 2 ≤ sizeLine; decide, [p, p2], .cons rp (.cons rp2 .nil), ⟨_, pair, rfl, _, rfl⟩⟩
    refine ⟨.ref s.heap.objs.size, _, J, rfl, ⟨_, y, w0, rfl, I.hok.fresh (Nat.le_refl _), rfl, fun q hq => by rw [I.list_inj hq su]; exact gy, fun q hq => by rw [I.tuple_inj hq sv]; exact gw⟩, ⟨m1, ?_, ⟨p, p2, ?_⟩, ?_, ?_⟩, fun c hc' => ?_⟩
    · exact (sb.2 _ D.s.TIz).trans (up _ _ D.s.TIz D.s.TITO D.s.TIi1 D.s.TIi2 st2)
    · exact (sb.2 _ D.s.TOz).trans n2
    · exact n3.1.at fun ob e => (sb.2 _ D.iz).trans e
    · exact n4.1.at fun ob e => (sb.2 _ D.jz).trans e
    · have lt : c < s.heap.objs.size := by
        have hc2 : c = z ∨ c = t ∨ c = o ∨ c = i ∨ c = j := by simpa using hc'
        rcases hc2 with rfl | rfl | rfl | rfl | rfl
        · exact below
        · exact Heap.lt_size st2
        · exact Heap.lt_size st3
        · exact bi
        · exact bj
      rw [upd_ne (Nat.ne_of_lt lt)]
      exact (fresh c hc').1
  done := by
    intro X hP hw hK hc k pins s σ H E I fresh st go
    subst hP hw hK
    obtain ⟨st1, st2, ⟨y1, y2, st3⟩, st4, st5⟩ := st
    obtain ⟨us, vs, su, sv, le1, le2, fin⟩ := go
    obtain ⟨its, rel, ti, _⟩ := I.list su
    obtain ⟨jts, rel2, tj, _⟩ := I.tuple sv
    have hd := I.ok.hd hc
    have k1 := rel.length
    have k2 := rel2.length
    have d1 := Draws.list (prog := X.prog) (w := X.w) (A := X.A.in1) hd i l D.il its.toArray
    have d2 := Draws.tuple (prog := X.prog) (w := X.w) (A := X.A.in1) hd j r D.jr jts.toArray
    refine wpAny_pyNext_zipD2_end (i := k) D.s d1 d2 st1 st2 st3 ⟨st4, ti.isList⟩ ⟨st5, tj⟩ (by simp; omega) (by simp; omega) (by simp; omega) fun h1 tk1 up => ⟨rfl, I.turnedL (t' := tk1) (ch := [z, t, o, i, j]) (fun c ob out e => ?_) fresh⟩
    exact up c ob (fun q => out (by simp [q])) (fun q => out (by simp [q])) (fun q => out (by simp [q])) (fun q => out (by simp [q])) e
  self := fun A k s Q E st q => wpAny_pyIter_zip st.1 q
theorem walk_zipL {K : PySem.W.Frag} {l r : Addr} {us vs : List V} : Walk (ItzL K l r) (min us.length vs.length) (fun H => SqL K H l us ∧ SqT K H r vs) (YPair (fun k => us[k]?) (fun k => vs[k]?)) := by
  refine ⟨fun k _ lt g => ⟨us, vs, us[k]'(by omega), vs[k]'(by omega), g.1, g.2, by rw [List.getElem?_eq_getElem], by rw [List.getElem?_eq_getElem]⟩, fun _ g => ⟨us, vs, g.1, g.2, by omega, by omega, by omega⟩, fun k H out H' _ g y => ?_⟩
  obtain ⟨T, y1, y2, q1, q2, q3, q4, q5⟩ := y
  exact ⟨T, y1, y2, q1, q2, q3, q4 us g.1, q5 vs g.2⟩
/-- zip of a list and a tuple -/
def iZipL (K : PySem.W.Frag) (ta : TA) : L2.TI := fun σ H R => ta σ H fun vs H1 => ∃ l r xs ys, vs = [.ref l, .ref r] ∧ SqL K H1 l xs ∧ SqT K H1 r ys ∧ R (ItzL K l r) H1
theorem pi_zipL {X : Cx} {e e2 : Expr} {ta : TA} {p pos tpos : Pos} {elts : List Expr} {kk : Nat} (hg : Gl X "zip") (hm : X.mg "zip" = none) (ha : PA X [e, e2] ta)
    (hs : starEach [e, e2] X.env = (false, eval e X.env) :: starEach [e2] X.env := by rfl) (hpl : (backTo pos (starEach [e2] X.env)).any (·.1) = false := by rfl) :
    PI X (.Tuple elts kk tpos) (.Call (.Name "zip" p) [e, e2] [] pos) (iZipL X.K ta) := by
  refine ⟨fun pins s σ H R I h => ?_⟩
  refine Call_ (ld_blt I hg hm PyProof.Rows.boot_zip (PyProof.Rows.callWith_type1 (thn (ha.run pos pins s σ H _ I h) fun us s1 ⟨vs, H1, J, rel, q⟩ => ?_) hs hpl))
  obtain ⟨l, r, xs, ys, rfl, ql, qr, q⟩ := q
  cases rel with
  | cons rl rel =>
  cases rel with
  | cons rr rel =>
  cases rel
  cases rl
  cases rr
  generalize hc : s1.heap.objs.size = c
  have news : ∀ b, b ∈ [c + 4, c + 2, c + 3, c, c + 1] → FpOk X pins H1 b := fun b hb => by
    have lo : s1.heap.objs.size ≤ b := by
      rw [hc]
      have hb2 : b = c + 4 ∨ b = c + 2 ∨ b = c + 3 ∨ b = c ∨ b = c + 1 := by simpa using hb
      rcases hb2 with e | e | e | e | e
      · exact e ▸ Nat.le_add_right _ _
      · exact e ▸ Nat.le_add_right _ _
      · exact e ▸ Nat.le_add_right _ _
      · exact e ▸ Nat.le_refl _
      · exact e ▸ Nat.le_add_right _ _
    exact J.fpOk lo (J.hok.fresh lo)
  obtain ⟨its, _, p1, _⟩ := J.list ql
  obtain ⟨jts, _, p2, _⟩ := J.tuple qr
  obtain ⟨_, g2, _⟩ := id p2
  refine zip_begins2 (begins_list l its.toArray) (begins_tuple r jts.toArray) p1.isList p2 fun h2 n1 n2 n3 n4 n5 _ up => wpAny_pyIter_zip n1 ?_
  have J2 : Inv X pins σ H1 { s1 with heap := h2 } := J.kept (t' := s1.toks) up
  have b1 : l < s1.heap.objs.size := p1.lt
  have b2 : r < s1.heap.objs.size := Heap.lt_size g2
  have D : SepM (s1.heap.objs.size + 4) (s1.heap.objs.size + 2) (s1.heap.objs.size + 3) s1.heap.objs.size (s1.heap.objs.size + 1) l r :=
    ⟨sepM b1 b2, Nat.ne_of_lt b1, Nat.ne_of_lt (Nat.lt_succ_of_lt b2), Nat.ne_of_lt (Nat.lt_add_of_pos_right (by decide)), Nat.ne_of_lt (Nat.add_lt_add_left (by decide) _)⟩
  rw [← hc] at news
  exact ⟨_, _, _, _, H1, rfl, J2, turn_zipL D, ⟨n1, n2, ⟨_, _, n3⟩, ⟨_, n4, rfl, rfl⟩, ⟨_, n5, rfl, rfl⟩⟩, news, q⟩
end Ws
/-! ## K23a -/
namespace Sq
/-- what the weights tell of the periods -/
def adjB (pers : List Row) (q : Sqr) : Prop := ∀ i j : Nat, i < pers.length → j < pers.length → dotp (q.ws.getD i []) (pers.getD j []) = if i = j then q.size else 0
def adjT (pers : List Row) (q : Sqr) (gap : Row) : Prop := ∀ p ∈ q.ps, ((List.range pers.length).map fun i => dotp (q.ws.getD i []) gap * (pers.getD i []).getD p 0).sum = q.size * gap.getD p 0
def sqM (m : Nat) (pers : List Row) (ps : List Nat) (s : Int) : Sqr := ⟨ps, s.natAbs, (List.range pers.length).map fun i => wFor m ps (pers.map (pick ps)) s i⟩
theorem sqAt_some {m : Nat} {pers : List Row} {ps : List Nat} {q : Sqr} (h : sqAt m pers ps = some q) : ∃ s, s = det pers.length (pers.map (pick ps)) ∧ s ≠ 0 ∧ q = sqM m pers ps s := by
  unfold sqAt at h
  by_cases c : det pers.length (pers.map (pick ps)) = 0
  · simp [c] at h
  · simp only [ne_eq, c, not_false_eq_true, if_true, Option.some.injEq] at h
    exact ⟨_, rfl, c, h.symm⟩
theorem adj_1_n (x s : Int) : adjB [] (sqM 1 [] [] s) ∧ adjT [] (sqM 1 [] [] s) [x] := ⟨fun i j hi _ => by simp at hi, fun p hp => by simp [sqM] at hp⟩
theorem adj_1_0 (a x s : Int) (hs : s = det 1 (([[a]] : List Row).map (pick [0]))) : adjB [[a]] (sqM 1 [[a]] [0] s) ∧ adjT [[a]] (sqM 1 [[a]] [0] s) [x] := by
  simp [wFor, cof, det, sgn, minor, dotp, pick, List.range_succ] at hs
  have hn : (s.natAbs : Int) = if 0 < s then s else -s := by split <;> omega
  refine ⟨fun i j hi hj => ?_, fun p hp => ?_⟩
  · have hi : i = 0 := by
      have : i < 1 := hi
      omega
    have hj : j = 0 := by
      have : j < 1 := hj
      omega
    by_cases c : 0 < s
    · rw [if_pos c] at hn
      rcases hi with rfl <;> rcases hj with rfl <;> (simp [sqM, wFor, cof, det, sgn, minor, dotp, pick, List.range_succ, c, hn]; try grind)
    · rw [if_neg c] at hn
      rcases hi with rfl <;> rcases hj with rfl <;> (simp [sqM, wFor, cof, det, sgn, minor, dotp, pick, List.range_succ, c, hn]; try grind)
  · have hp : p = 0 := by simpa [sqM] using hp
    by_cases c : 0 < s
    · rw [if_pos c] at hn
      rcases hp with rfl <;> (simp [sqM, wFor, cof, det, sgn, minor, dotp, pick, List.range_succ, c, hn]; try grind)
    · rw [if_neg c] at hn
      rcases hp with rfl <;> (simp [sqM, wFor, cof, det, sgn, minor, dotp, pick, List.range_succ, c, hn]; try grind)
theorem adj_2_n (x y s : Int) : adjB [] (sqM 2 [] [] s) ∧ adjT [] (sqM 2 [] [] s) [x, y] := ⟨fun i j hi _ => by simp at hi, fun p hp => by simp [sqM] at hp⟩
theorem adj_2_0 (a b x y s : Int) (hs : s = det 1 (([[a, b]] : List Row).map (pick [0]))) : adjB [[a, b]] (sqM 2 [[a, b]] [0] s) ∧ adjT [[a, b]] (sqM 2 [[a, b]] [0] s) [x, y] := by
  simp [wFor, cof, det, sgn, minor, dotp, pick, List.range_succ] at hs
  have hn : (s.natAbs : Int) = if 0 < s then s else -s := by split <;> omega
  refine ⟨fun i j hi hj => ?_, fun p hp => ?_⟩
  · have hi : i = 0 := by
      have : i < 1 := hi
      omega
    have hj : j = 0 := by
      have : j < 1 := hj
      omega
    by_cases c : 0 < s
    · rw [if_pos c] at hn
      rcases hi with rfl <;> rcases hj with rfl <;> (simp [sqM, wFor, cof, det, sgn, minor, dotp, pick, List.range_succ, c, hn]; try grind)
    · rw [if_neg c] at hn
      rcases hi with rfl <;> rcases hj with rfl <;> (simp [sqM, wFor, cof, det, sgn, minor, dotp, pick, List.range_succ, c, hn]; try grind)
  · have hp : p = 0 := by simpa [sqM] using hp
    by_cases c : 0 < s
    · rw [if_pos c] at hn
      rcases hp with rfl <;> (simp [sqM, wFor, cof, det, sgn, minor, dotp, pick, List.range_succ, c, hn]; try grind)
    · rw [if_neg c] at hn
      rcases hp with rfl <;> (simp [sqM, wFor, cof, det, sgn, minor, dotp, pick, List.range_succ, c, hn]; try grind)
theorem adj_2_1 (a b x y s : Int) (hs : s = det 1 (([[a, b]] : List Row).map (pick [1]))) : adjB [[a, b]] (sqM 2 [[a, b]] [1] s) ∧ adjT [[a, b]] (sqM 2 [[a, b]] [1] s) [x, y] := by
  simp [wFor, cof, det, sgn, minor, dotp, pick, List.range_succ] at hs
  have hn : (s.natAbs : Int) = if 0 < s then s else -s := by split <;> omega
  refine ⟨fun i j hi hj => ?_, fun p hp => ?_⟩
  · have hi : i = 0 := by
      have : i < 1 := hi
      omega
    have hj : j = 0 := by
      have : j < 1 := hj
      omega
    by_cases c : 0 < s
    · rw [if_pos c] at hn
      rcases hi with rfl <;> rcases hj with rfl <;> (simp [sqM, wFor, cof, det, sgn, minor, dotp, pick, List.range_succ, c, hn]; try grind)
    · rw [if_neg c] at hn
      rcases hi with rfl <;> rcases hj with rfl <;> (simp [sqM, wFor, cof, det, sgn, minor, dotp, pick, List.range_succ, c, hn]; try grind)
  · have hp : p = 1 := by simpa [sqM] using hp
    by_cases c : 0 < s
    · rw [if_pos c] at hn
      rcases hp with rfl <;> (simp [sqM, wFor, cof, det, sgn, minor, dotp, pick, List.range_succ, c, hn]; try grind)
    · rw [if_neg c] at hn
      rcases hp with rfl <;> (simp [sqM, wFor, cof, det, sgn, minor, dotp, pick, List.range_succ, c, hn]; try grind)
theorem adj_2_01 (a b c d x y s : Int) (hs : s = det 2 (([[a, b], [c, d]] : List Row).map (pick [0, 1]))) : adjB [[a, b], [c, d]] (sqM 2 [[a, b], [c, d]] [0, 1] s) ∧ adjT [[a, b], [c, d]] (sqM 2 [[a, b], [c, d]] [0, 1] s) [x, y] := by
  simp [wFor, cof, det, sgn, minor, dotp, pick, List.range_succ] at hs
  have hn : (s.natAbs : Int) = if 0 < s then s else -s := by split <;> omega
  refine ⟨fun i j hi hj => ?_, fun p hp => ?_⟩
  · have hi : i = 0 ∨ i = 1 := by
      have : i < 2 := hi
      omega
    have hj : j = 0 ∨ j = 1 := by
      have : j < 2 := hj
      omega
    by_cases c : 0 < s
    · rw [if_pos c] at hn
      rcases hi with rfl | rfl <;> rcases hj with rfl | rfl <;> (simp [sqM, wFor, cof, det, sgn, minor, dotp, pick, List.range_succ, c, hn]; try grind)
    · rw [if_neg c] at hn
      rcases hi with rfl | rfl <;> rcases hj with rfl | rfl <;> (simp [sqM, wFor, cof, det, sgn, minor, dotp, pick, List.range_succ, c, hn]; try grind)
  · have hp : p = 0 ∨ p = 1 := by simpa [sqM] using hp
    by_cases c : 0 < s
    · rw [if_pos c] at hn
      rcases hp with rfl | rfl <;> (simp [sqM, wFor, cof, det, sgn, minor, dotp, pick, List.range_succ, c, hn]; try grind)
    · rw [if_neg c] at hn
      rcases hp with rfl | rfl <;> (simp [sqM, wFor, cof, det, sgn, minor, dotp, pick, List.range_succ, c, hn]; try grind)
theorem adj_3_n (x y z s : Int) : adjB [] (sqM 3 [] [] s) ∧ adjT [] (sqM 3 [] [] s) [x, y, z] := ⟨fun i j hi _ => by simp at hi, fun p hp => by simp [sqM] at hp⟩
theorem adj_3_0 (a b c x y z s : Int) (hs : s = det 1 (([[a, b, c]] : List Row).map (pick [0]))) : adjB [[a, b, c]] (sqM 3 [[a, b, c]] [0] s) ∧ adjT [[a, b, c]] (sqM 3 [[a, b, c]] [0] s) [x, y, z] := by
  simp [wFor, cof, det, sgn, minor, dotp, pick, List.range_succ] at hs
  have hn : (s.natAbs : Int) = if 0 < s then s else -s := by split <;> omega
  refine ⟨fun i j hi hj => ?_, fun p hp => ?_⟩
  · have hi : i = 0 := by
      have : i < 1 := hi
      omega
    have hj : j = 0 := by
      have : j < 1 := hj
      omega
    by_cases c : 0 < s
    · rw [if_pos c] at hn
      rcases hi with rfl <;> rcases hj with rfl <;> (simp [sqM, wFor, cof, det, sgn, minor, dotp, pick, List.range_succ, c, hn]; try grind)
    · rw [if_neg c] at hn
      rcases hi with rfl <;> rcases hj with rfl <;> (simp [sqM, wFor, cof, det, sgn, minor, dotp, pick, List.range_succ, c, hn]; try grind)
  · have hp : p = 0 := by simpa [sqM] using hp
    by_cases c : 0 < s
    · rw [if_pos c] at hn
      rcases hp with rfl <;> (simp [sqM, wFor, cof, det, sgn, minor, dotp, pick, List.range_succ, c, hn]; try grind)
    · rw [if_neg c] at hn
      rcases hp with rfl <;> (simp [sqM, wFor, cof, det, sgn, minor, dotp, pick, List.range_succ, c, hn]; try grind)
theorem adj_3_1 (a b c x y z s : Int) (hs : s = det 1 (([[a, b, c]] : List Row).map (pick [1]))) : adjB [[a, b, c]] (sqM 3 [[a, b, c]] [1] s) ∧ adjT [[a, b, c]] (sqM 3 [[a, b, c]] [1] s) [x, y, z] := by
  simp [wFor, cof, det, sgn, minor, dotp, pick, List.range_succ] at hs
  have hn : (s.natAbs : Int) = if 0 < s then s else -s := by split <;> omega
  refine ⟨fun i j hi hj => ?_, fun p hp => ?_⟩
  · have hi : i = 0 := by
      have : i < 1 := hi
      omega
    have hj : j = 0 := by
      have : j < 1 := hj
      omega
    by_cases c : 0 < s
    · rw [if_pos c] at hn
      rcases hi with rfl <;> rcases hj with rfl <;> (simp [sqM, wFor, cof, det, sgn, minor, dotp, pick, List.range_succ, c, hn]; try grind)
    · rw [if_neg c] at hn
      rcases hi with rfl <;> rcases hj with rfl <;> (simp [sqM, wFor, cof, det, sgn, minor, dotp, pick, List.range_succ, c, hn]; try grind)
  · have hp : p = 1 := by simpa [sqM] using hp
    by_cases c : 0 < s
    · rw [if_pos c] at hn
      rcases hp with rfl <;> (simp [sqM, wFor, cof, det, sgn, minor, dotp, pick, List.range_succ, c, hn]; try grind)
    · rw [if_neg c] at hn
      rcases hp with rfl <;> (simp [sqM, wFor, cof, det, sgn, minor, dotp, pick, List.range_succ, c, hn]; try grind)
theorem adj_3_2 (a b c x y z s : Int) (hs : s = det 1 (([[a, b, c]] : List Row).map (pick [2]))) : adjB [[a, b, c]] (sqM 3 [[a, b, c]] [2] s) ∧ adjT [[a, b, c]] (sqM 3 [[a, b, c]] [2] s) [x, y, z] := by
  simp [wFor, cof, det, sgn, minor, dotp, pick, List.range_succ] at hs
  have hn : (s.natAbs : Int) = if 0 < s then s else -s := by split <;> omega
  refine ⟨fun i j hi hj => ?_, fun p hp => ?_⟩
  · have hi : i = 0 := by
      have : i < 1 := hi
      omega
    have hj : j = 0 := by
      have : j < 1 := hj
      omega
    by_cases c : 0 < s
    · rw [if_pos c] at hn
      rcases hi with rfl <;> rcases hj with rfl <;> (simp [sqM, wFor, cof, det, sgn, minor, dotp, pick, List.range_succ, c, hn]; try grind)
    · rw [if_neg c] at hn
      rcases hi with rfl <;> rcases hj with rfl <;> (simp [sqM, wFor, cof, det, sgn, minor, dotp, pick, List.range_succ, c, hn]; try grind)
  · have hp : p = 2 := by simpa [sqM] using hp
    by_cases c : 0 < s
    · rw [if_pos c] at hn
      rcases hp with rfl <;> (simp [sqM, wFor, cof, det, sgn, minor, dotp, pick, List.range_succ, c, hn]; try grind)
    · rw [if_neg c] at hn
      rcases hp with rfl <;> (simp [sqM, wFor, cof, det, sgn, minor, dotp, pick, List.range_succ, c, hn]; try grind)
theorem adj_3_01 (a b c d e f x y z s : Int) (hs : s = det 2 (([[a, b, c], [d, e, f]] : List Row).map (pick [0, 1]))) : adjB [[a, b, c], [d, e, f]] (sqM 3 [[a, b, c], [d, e, f]] [0, 1] s) ∧ adjT [[a, b, c], [d, e, f]] (sqM 3 [[a, b, c], [d, e, f]] [0, 1] s) [x, y, z] := by
  simp [wFor, cof, det, sgn, minor, dotp, pick, List.range_succ] at hs
  have hn : (s.natAbs : Int) = if 0 < s then s else -s := by split <;> omega
  refine ⟨fun i j hi hj => ?_, fun p hp => ?_⟩
  · have hi : i = 0 ∨ i = 1 := by
      have : i < 2 := hi
      omega
    have hj : j = 0 ∨ j = 1 := by
      have : j < 2 := hj
      omega
    by_cases c : 0 < s
    · rw [if_pos c] at hn
      rcases hi with rfl | rfl <;> rcases hj with rfl | rfl <;> (simp [sqM, wFor, cof, det, sgn, minor, dotp, pick, List.range_succ, c, hn]; try grind)
    · rw [if_neg c] at hn
      rcases hi with rfl | rfl <;> rcases hj with rfl | rfl <;> (simp [sqM, wFor, cof, det, sgn, minor, dotp, pick, List.range_succ, c, hn]; try grind)
  · have hp : p = 0 ∨ p = 1 := by simpa [sqM] using hp
    by_cases c : 0 < s
    · rw [if_pos c] at hn
      rcases hp with rfl | rfl <;> (simp [sqM, wFor, cof, det, sgn, minor, dotp, pick, List.range_succ, c, hn]; try grind)
    · rw [if_neg c] at hn
      rcases hp with rfl | rfl <;> (simp [sqM, wFor, cof, det, sgn, minor, dotp, pick, List.range_succ, c, hn]; try grind)
theorem adj_3_02 (a b c d e f x y z s : Int) (hs : s = det 2 (([[a, b, c], [d, e, f]] : List Row).map (pick [0, 2]))) : adjB [[a, b, c], [d, e, f]] (sqM 3 [[a, b, c], [d, e, f]] [0, 2] s) ∧ adjT [[a, b, c], [d, e, f]] (sqM 3 [[a, b, c], [d, e, f]] [0, 2] s) [x, y, z] := by
  simp [wFor, cof, det, sgn, minor, dotp, pick, List.range_succ] at hs
  have hn : (s.natAbs : Int) = if 0 < s then s else -s := by split <;> omega
  refine ⟨fun i j hi hj => ?_, fun p hp => ?_⟩
  · have hi : i = 0 ∨ i = 1 := by
      have : i < 2 := hi
      omega
    have hj : j = 0 ∨ j = 1 := by
      have : j < 2 := hj
      omega
    by_cases c : 0 < s
    · rw [if_pos c] at hn
      rcases hi with rfl | rfl <;> rcases hj with rfl | rfl <;> (simp [sqM, wFor, cof, det, sgn, minor, dotp, pick, List.range_succ, c, hn]; try grind)
    · rw [if_neg c] at hn
      rcases hi with rfl | rfl <;> rcases hj with rfl | rfl <;> (simp [sqM, wFor, cof, det, sgn, minor, dotp, pick, List.range_succ, c, hn]; try grind)
  · have hp : p = 0 ∨ p = 2 := by simpa [sqM] using hp
    by_cases c : 0 < s
    · rw [if_pos c] at hn
      rcases hp with rfl | rfl <;> (simp [sqM, wFor, cof, det, sgn, minor, dotp, pick, List.range_succ, c, hn]; try grind)
    · rw [if_neg c] at hn
      rcases hp with rfl | rfl <;> (simp [sqM, wFor, cof, det, sgn, minor, dotp, pick, List.range_succ, c, hn]; try grind)
theorem adj_3_12 (a b c d e f x y z s : Int) (hs : s = det 2 (([[a, b, c], [d, e, f]] : List Row).map (pick [1, 2]))) : adjB [[a, b, c], [d, e, f]] (sqM 3 [[a, b, c], [d, e, f]] [1, 2] s) ∧ adjT [[a, b, c], [d, e, f]] (sqM 3 [[a, b, c], [d, e, f]] [1, 2] s) [x, y, z] := by
  simp [wFor, cof, det, sgn, minor, dotp, pick, List.range_succ] at hs
  have hn : (s.natAbs : Int) = if 0 < s then s else -s := by split <;> omega
  refine ⟨fun i j hi hj => ?_, fun p hp => ?_⟩
  · have hi : i = 0 ∨ i = 1 := by
      have : i < 2 := hi
      omega
    have hj : j = 0 ∨ j = 1 := by
      have : j < 2 := hj
      omega
    by_cases c : 0 < s
    · rw [if_pos c] at hn
      rcases hi with rfl | rfl <;> rcases hj with rfl | rfl <;> (simp [sqM, wFor, cof, det, sgn, minor, dotp, pick, List.range_succ, c, hn]; try grind)
    · rw [if_neg c] at hn
      rcases hi with rfl | rfl <;> rcases hj with rfl | rfl <;> (simp [sqM, wFor, cof, det, sgn, minor, dotp, pick, List.range_succ, c, hn]; try grind)
  · have hp : p = 1 ∨ p = 2 := by simpa [sqM] using hp
    by_cases c : 0 < s
    · rw [if_pos c] at hn
      rcases hp with rfl | rfl <;> (simp [sqM, wFor, cof, det, sgn, minor, dotp, pick, List.range_succ, c, hn]; try grind)
    · rw [if_neg c] at hn
      rcases hp with rfl | rfl <;> (simp [sqM, wFor, cof, det, sgn, minor, dotp, pick, List.range_succ, c, hn]; try grind)
theorem adj_3_012 (a b c d e f g h i x y z s : Int) (hs : s = det 3 (([[a, b, c], [d, e, f], [g, h, i]] : List Row).map (pick [0, 1, 2]))) : adjB [[a, b, c], [d, e, f], [g, h, i]] (sqM 3 [[a, b, c], [d, e, f], [g, h, i]] [0, 1, 2] s) ∧ adjT [[a, b, c], [d, e, f], [g, h, i]] (sqM 3 [[a, b, c], [d, e, f], [g, h, i]] [0, 1, 2] s) [x, y, z] := by
  simp [wFor, cof, det, sgn, minor, dotp, pick, List.range_succ] at hs
  have hn : (s.natAbs : Int) = if 0 < s then s else -s := by split <;> omega
  refine ⟨fun i j hi hj => ?_, fun p hp => ?_⟩
  · have hi : i = 0 ∨ i = 1 ∨ i = 2 := by
      have : i < 3 := hi
      omega
    have hj : j = 0 ∨ j = 1 ∨ j = 2 := by
      have : j < 3 := hj
      omega
    by_cases c : 0 < s
    · rw [if_pos c] at hn
      rcases hi with rfl | rfl | rfl <;> rcases hj with rfl | rfl | rfl <;> (simp [sqM, wFor, cof, det, sgn, minor, dotp, pick, List.range_succ, c, hn]; try grind)
    · rw [if_neg c] at hn
      rcases hi with rfl | rfl | rfl <;> rcases hj with rfl | rfl | rfl <;> (simp [sqM, wFor, cof, det, sgn, minor, dotp, pick, List.range_succ, c, hn]; try grind)
  · have hp : p = 0 ∨ p = 1 ∨ p = 2 := by simpa [sqM] using hp
    by_cases c : 0 < s
    · rw [if_pos c] at hn
      rcases hp with rfl | rfl | rfl <;> (simp [sqM, wFor, cof, det, sgn, minor, dotp, pick, List.range_succ, c, hn]; try grind)
    · rw [if_neg c] at hn
      rcases hp with rfl | rfl | rfl <;> (simp [sqM, wFor, cof, det, sgn, minor, dotp, pick, List.range_succ, c, hn]; try grind)
end Sq
/-! ## K23b -/
namespace Sq
theorem len1 {r : Row} (h : r.length = 1) : ∃ a, r = [a] := by
  match r, h with
  | [a], _ => exact ⟨a, rfl⟩
theorem len2 {r : Row} (h : r.length = 2) : ∃ a b, r = [a, b] := by
  match r, h with
  | [a, b], _ => exact ⟨a, b, rfl⟩
theorem len3 {r : Row} (h : r.length = 3) : ∃ a b c, r = [a, b, c] := by
  match r, h with
  | [a, b, c], _ => exact ⟨a, b, c, rfl⟩
def Adj (m : Nat) (pers : List Row) (q : Sqr) : Prop := adjB pers q ∧ ∀ gap : Row, gap.length = m → adjT pers q gap
theorem chs_1_0 : chs 1 0 = [[]] := by decide
theorem all_1_0 {pers : List Row} {q : Sqr} (hn : pers.length = 0) (hl : ∀ r ∈ pers, r.length = 1) (h : sqOf 1 pers = some q) : Adj 1 pers q := by
  obtain ⟨ps, hps, hq⟩ := List.exists_of_findSome?_eq_some h
  obtain ⟨s, hs, h0, rfl⟩ := sqAt_some hq
  rw [hn, chs_1_0] at hps
  obtain rfl : pers = [] := List.length_eq_zero_iff.mp hn
  obtain rfl : ps = [] := by simpa using hps
  refine ⟨(adj_1_n 0 s).1, fun gap hg => ?_⟩
  obtain ⟨x, rfl⟩ := len1 hg
  exact (adj_1_n x s).2
theorem chs_1_1 : chs 1 1 = [[0]] := by decide
theorem all_1_1 {pers : List Row} {q : Sqr} (hn : pers.length = 1) (hl : ∀ r ∈ pers, r.length = 1) (h : sqOf 1 pers = some q) : Adj 1 pers q := by
  obtain ⟨ps, hps, hq⟩ := List.exists_of_findSome?_eq_some h
  obtain ⟨s, hs, h0, rfl⟩ := sqAt_some hq
  rw [hn, chs_1_1] at hps
  obtain ⟨p0, rfl⟩ : ∃ p0, pers = [p0] := by
    match pers, hn with
    | [p0], _ => exact ⟨p0, rfl⟩
  obtain ⟨a, rfl⟩ := len1 (hl p0 (by simp))
  have hps : ps = [0] := by simpa using hps
  rcases hps with rfl
  · refine ⟨(adj_1_0 a 0 s hs).1, fun gap hg => ?_⟩
    obtain ⟨x, rfl⟩ := len1 hg
    exact (adj_1_0 a x s hs).2
theorem chs_1_2 : chs 1 2 = [] := by decide
theorem all_1_2 {pers : List Row} {q : Sqr} (hn : pers.length = 2) (hl : ∀ r ∈ pers, r.length = 1) (h : sqOf 1 pers = some q) : Adj 1 pers q := by
  obtain ⟨ps, hps, hq⟩ := List.exists_of_findSome?_eq_some h
  obtain ⟨s, hs, h0, rfl⟩ := sqAt_some hq
  rw [hn, chs_1_2] at hps
  cases hps
theorem chs_1_3 : chs 1 3 = [] := by decide
theorem all_1_3 {pers : List Row} {q : Sqr} (hn : pers.length = 3) (hl : ∀ r ∈ pers, r.length = 1) (h : sqOf 1 pers = some q) : Adj 1 pers q := by
  obtain ⟨ps, hps, hq⟩ := List.exists_of_findSome?_eq_some h
  obtain ⟨s, hs, h0, rfl⟩ := sqAt_some hq
  rw [hn, chs_1_3] at hps
  cases hps
theorem chs_2_0 : chs 2 0 = [[]] := by decide
theorem all_2_0 {pers : List Row} {q : Sqr} (hn : pers.length = 0) (hl : ∀ r ∈ pers, r.length = 2) (h : sqOf 2 pers = some q) : Adj 2 pers q := by
  obtain ⟨ps, hps, hq⟩ := List.exists_of_findSome?_eq_some h
  obtain ⟨s, hs, h0, rfl⟩ := sqAt_some hq
  rw [hn, chs_2_0] at hps
  obtain rfl : pers = [] := List.length_eq_zero_iff.mp hn
  obtain rfl : ps = [] := by simpa using hps
  refine ⟨(adj_2_n 0 0 s).1, fun gap hg => ?_⟩
  obtain ⟨x, y, rfl⟩ := len2 hg
  exact (adj_2_n x y s).2
theorem chs_2_1 : chs 2 1 = [[0], [1]] := by decide
theorem all_2_1 {pers : List Row} {q : Sqr} (hn : pers.length = 1) (hl : ∀ r ∈ pers, r.length = 2) (h : sqOf 2 pers = some q) : Adj 2 pers q := by
  obtain ⟨ps, hps, hq⟩ := List.exists_of_findSome?_eq_some h
  obtain ⟨s, hs, h0, rfl⟩ := sqAt_some hq
  rw [hn, chs_2_1] at hps
  obtain ⟨p0, rfl⟩ : ∃ p0, pers = [p0] := by
    match pers, hn with
    | [p0], _ => exact ⟨p0, rfl⟩
  obtain ⟨a, b, rfl⟩ := len2 (hl p0 (by simp))
  have hps : ps = [0] ∨ ps = [1] := by simpa using hps
  rcases hps with rfl | rfl
  · refine ⟨(adj_2_0 a b 0 0 s hs).1, fun gap hg => ?_⟩
    obtain ⟨x, y, rfl⟩ := len2 hg
    exact (adj_2_0 a b x y s hs).2
  · refine ⟨(adj_2_1 a b 0 0 s hs).1, fun gap hg => ?_⟩
    obtain ⟨x, y, rfl⟩ := len2 hg
    exact (adj_2_1 a b x y s hs).2
theorem chs_2_2 : chs 2 2 = [[0, 1]] := by decide
theorem all_2_2 {pers : List Row} {q : Sqr} (hn : pers.length = 2) (hl : ∀ r ∈ pers, r.length = 2) (h : sqOf 2 pers = some q) : Adj 2 pers q := by
  obtain ⟨ps, hps, hq⟩ := List.exists_of_findSome?_eq_some h
  obtain ⟨s, hs, h0, rfl⟩ := sqAt_some hq
  rw [hn, chs_2_2] at hps
  obtain ⟨p0, p1, rfl⟩ : ∃ p0 p1, pers = [p0, p1] := by
    match pers, hn with
    | [p0, p1], _ => exact ⟨p0, p1, rfl⟩
  obtain ⟨a, b, rfl⟩ := len2 (hl p0 (by simp))
  obtain ⟨c, d, rfl⟩ := len2 (hl p1 (by simp))
  have hps : ps = [0, 1] := by simpa using hps
  rcases hps with rfl
  · refine ⟨(adj_2_01 a b c d 0 0 s hs).1, fun gap hg => ?_⟩
    obtain ⟨x, y, rfl⟩ := len2 hg
    exact (adj_2_01 a b c d x y s hs).2
theorem chs_2_3 : chs 2 3 = [] := by decide
theorem all_2_3 {pers : List Row} {q : Sqr} (hn : pers.length = 3) (hl : ∀ r ∈ pers, r.length = 2) (h : sqOf 2 pers = some q) : Adj 2 pers q := by
  obtain ⟨ps, hps, hq⟩ := List.exists_of_findSome?_eq_some h
  obtain ⟨s, hs, h0, rfl⟩ := sqAt_some hq
  rw [hn, chs_2_3] at hps
  cases hps
theorem chs_3_0 : chs 3 0 = [[]] := by decide
theorem all_3_0 {pers : List Row} {q : Sqr} (hn : pers.length = 0) (hl : ∀ r ∈ pers, r.length = 3) (h : sqOf 3 pers = some q) : Adj 3 pers q := by
  obtain ⟨ps, hps, hq⟩ := List.exists_of_findSome?_eq_some h
  obtain ⟨s, hs, h0, rfl⟩ := sqAt_some hq
  rw [hn, chs_3_0] at hps
  obtain rfl : pers = [] := List.length_eq_zero_iff.mp hn
  obtain rfl : ps = [] := by simpa using hps
  refine ⟨(adj_3_n 0 0 0 s).1, fun gap hg => ?_⟩
  obtain ⟨x, y, z, rfl⟩ := len3 hg
  exact (adj_3_n x y z s).2
theorem chs_3_1 : chs 3 1 = [[0], [1], [2]] := by decide
theorem all_3_1 {pers : List Row} {q : Sqr} (hn : pers.length = 1) (hl : ∀ r ∈ pers, r.length = 3) (h : sqOf 3 pers = some q) : Adj 3 pers q := by
  obtain ⟨ps, hps, hq⟩ := List.exists_of_findSome?_eq_some h
  obtain ⟨s, hs, h0, rfl⟩ := sqAt_some hq
  rw [hn, chs_3_1] at hps
  obtain ⟨p0, rfl⟩ : ∃ p0, pers = [p0] := by
    match pers, hn with
    | [p0], _ => exact ⟨p0, rfl⟩
  obtain ⟨a, b, c, rfl⟩ := len3 (hl p0 (by simp))
  have hps : ps = [0] ∨ ps = [1] ∨ ps = [2] := by simpa using hps
  rcases hps with rfl | rfl | rfl
  · refine ⟨(adj_3_0 a b c 0 0 0 s hs).1, fun gap hg => ?_⟩
    obtain ⟨x, y, z, rfl⟩ := len3 hg
    exact (adj_3_0 a b c x y z s hs).2
  · refine ⟨(adj_3_1 a b c 0 0 0 s hs).1, fun gap hg => ?_⟩
    obtain ⟨x, y, z, rfl⟩ := len3 hg
    exact (adj_3_1 a b c x y z s hs).2
  · refine ⟨(adj_3_2 a b c 0 0 0 s hs).1, fun gap hg => ?_⟩
    obtain ⟨x, y, z, rfl⟩ := len3 hg
    exact (adj_3_2 a b c x y z s hs).2
theorem chs_3_2 : chs 3 2 = [[0, 1], [0, 2], [1, 2]] := by decide
theorem all_3_2 {pers : List Row} {q : Sqr} (hn : pers.length = 2) (hl : ∀ r ∈ pers, r.length = 3) (h : sqOf 3 pers = some q) : Adj 3 pers q := by
  obtain ⟨ps, hps, hq⟩ := List.exists_of_findSome?_eq_some h
  obtain ⟨s, hs, h0, rfl⟩ := sqAt_some hq
  rw [hn, chs_3_2] at hps
  obtain ⟨p0, p1, rfl⟩ : ∃ p0 p1, pers = [p0, p1] := by
    match pers, hn with
    | [p0, p1], _ => exact ⟨p0, p1, rfl⟩
  obtain ⟨a, b, c, rfl⟩ := len3 (hl p0 (by simp))
  obtain ⟨d, e, f, rfl⟩ := len3 (hl p1 (by simp))
  have hps : ps = [0, 1] ∨ ps = [0, 2] ∨ ps = [1, 2] := by simpa using hps
  rcases hps with rfl | rfl | rfl
  · refine ⟨(adj_3_01 a b c d e f 0 0 0 s hs).1, fun gap hg => ?_⟩
    obtain ⟨x, y, z, rfl⟩ := len3 hg
    exact (adj_3_01 a b c d e f x y z s hs).2
  · refine ⟨(adj_3_02 a b c d e f 0 0 0 s hs).1, fun gap hg => ?_⟩
    obtain ⟨x, y, z, rfl⟩ := len3 hg
    exact (adj_3_02 a b c d e f x y z s hs).2
  · refine ⟨(adj_3_12 a b c d e f 0 0 0 s hs).1, fun gap hg => ?_⟩
    obtain ⟨x, y, z, rfl⟩ := len3 hg
    exact (adj_3_12 a b c d e f x y z s hs).2
theorem chs_3_3 : chs 3 3 = [[0, 1, 2]] := by decide
theorem all_3_3 {pers : List Row} {q : Sqr} (hn : pers.length = 3) (hl : ∀ r ∈ pers, r.length = 3) (h : sqOf 3 pers = some q) : Adj 3 pers q := by
  obtain ⟨ps, hps, hq⟩ := List.exists_of_findSome?_eq_some h
  obtain ⟨s, hs, h0, rfl⟩ := sqAt_some hq
  rw [hn, chs_3_3] at hps
  obtain ⟨p0, p1, p2, rfl⟩ : ∃ p0 p1 p2, pers = [p0, p1, p2] := by
    match pers, hn with
    | [p0, p1, p2], _ => exact ⟨p0, p1, p2, rfl⟩
  obtain ⟨a, b, c, rfl⟩ := len3 (hl p0 (by simp))
  obtain ⟨d, e, f, rfl⟩ := len3 (hl p1 (by simp))
  obtain ⟨g, k, i, rfl⟩ := len3 (hl p2 (by simp))
  have hps : ps = [0, 1, 2] := by simpa using hps
  rcases hps with rfl
  · refine ⟨(adj_3_012 a b c d e f g k i 0 0 0 s hs).1, fun gap hg => ?_⟩
    obtain ⟨x, y, z, rfl⟩ := len3 hg
    exact (adj_3_012 a b c d e f g k i x y z s hs).2
theorem adj_all {m : Nat} {pers : List Row} {q : Sqr} (m1 : 1 ≤ m) (m3 : m ≤ 3) (hn : pers.length ≤ 3) (hl : ∀ r ∈ pers, r.length = m) (h : sqOf m pers = some q) : Adj m pers q := by
  have hm : m = 1 ∨ m = 2 ∨ m = 3 := by omega
  have hn' : pers.length = 0 ∨ pers.length = 1 ∨ pers.length = 2 ∨ pers.length = 3 := by omega
  rcases hm with rfl | rfl | rfl
  · rcases hn' with e | e | e | e
    · exact all_1_0 e hl h
    · exact all_1_1 e hl h
    · exact all_1_2 e hl h
    · exact all_1_3 e hl h
  · rcases hn' with e | e | e | e
    · exact all_2_0 e hl h
    · exact all_2_1 e hl h
    · exact all_2_2 e hl h
    · exact all_2_3 e hl h
  · rcases hn' with e | e | e | e
    · exact all_3_0 e hl h
    · exact all_3_1 e hl h
    · exact all_3_2 e hl h
    · exact all_3_3 e hl h
end Sq
/-! ## K23c -/
namespace Sq
def S (n : Nat) (f : Nat → Int) : Int := ((List.range n).map f).sum
theorem S_zero (f : Nat → Int) : S 0 f = 0 := rfl
theorem sum_snoc (l : List Int) (x : Int) : (l ++ [x]).sum = l.sum + x := by
  induction l with
  | nil => simp
  | cons y l ih => rw [List.cons_append, List.sum_cons, ih, List.sum_cons, Int.add_assoc]
theorem S_succ (n : Nat) (f : Nat → Int) : S (n + 1) f = S n f + f n := by
  unfold S
  rw [List.range_succ, List.map_append]
  exact sum_snoc _ _
theorem S_congr {n : Nat} {f g : Nat → Int} (h : ∀ i, i < n → f i = g i) : S n f = S n g := by
  induction n with
  | zero => rfl
  | succ n ih => rw [S_succ, S_succ, ih fun i hi => h i (by omega), h n (by omega)]
theorem S_mul (n : Nat) (c : Int) (f : Nat → Int) : S n (fun i => c * f i) = c * S n f := by
  induction n with
  | zero => simp [S_zero]
  | succ n ih => rw [S_succ, S_succ, ih, Int.mul_add]
theorem S_neg (n : Nat) (f : Nat → Int) : S n (fun i => -f i) = -S n f := by
  induction n with
  | zero => simp [S_zero]
  | succ n ih => rw [S_succ, S_succ, ih]; omega
theorem S_nil {n : Nat} {f : Nat → Int} (h : ∀ i, i < n → f i = 0) : S n f = 0 := by
  induction n with
  | zero => rfl
  | succ n ih => rw [S_succ, ih fun i hi => h i (by omega), h n (by omega)]; rfl
theorem S_one {n j : Nat} (hj : j < n) (f : Nat → Int) (c : Int) : S n (fun i => f i * (if j = i then c else 0)) = f j * c := by
  induction n with
  | zero => omega
  | succ n ih =>
    rw [S_succ]
    by_cases e : j = n
    · subst e
      rw [if_pos rfl, S_nil fun i hi => by rw [if_neg (by omega)]; simp]
      simp
    · rw [if_neg e, ih (by omega)]
      simp
theorem S_shift (n : Nat) (f : Nat → Int) : S (n + 1) f = f 0 + S n (fun i => f (i + 1)) := by
  induction n with
  | zero => simp [S]
  | succ n ih => rw [S_succ, ih, S_succ]; omega
theorem S_nonneg {n : Nat} {f : Nat → Int} (h : ∀ i, i < n → 0 ≤ f i) : 0 ≤ S n f := by
  induction n with
  | zero => exact Int.le_refl _
  | succ n ih =>
    rw [S_succ]
    have := ih fun i hi => h i (by omega)
    have := h n (by omega)
    omega
theorem dotp_S : ∀ (ts : List Int) (pers : List Row) (f : Row → Int), ts.length = pers.length → dotp ts (pers.map f) = S pers.length fun i => ts.getD i 0 * f (pers.getD i [])
  | [], [], f, _ => rfl
  | [], _ :: _, f, h => by simp at h
  | _ :: _, [], f, h => by simp at h
  | t :: ts, p :: pers, f, h => by
    rw [List.length_cons, S_shift]
    show t * f p + dotp ts (pers.map f) = _
    rw [dotp_S ts pers f (by simpa using h)]
    rfl
theorem dotp_comm : ∀ w r : Row, dotp w r = dotp r w
  | [], [] => rfl
  | [], _ :: _ => rfl
  | _ :: _, [] => rfl
  | a :: w, b :: r => by
    show a * b + dotp w r = b * a + dotp r w
    rw [dotp_comm w r, Int.mul_comm]
theorem addk_len' {r o : Row} {k : Int} {m : Nat} (h1 : r.length = m) (h2 : o.length = m) : (addk r o k).length = m := by rw [addk_len (by omega), h1]
theorem addk_get {r o : Row} {k : Int} {p : Nat} (h : r.length = o.length) : (addk r o k).getD p 0 = r.getD p 0 + k * o.getD p 0 := by
  induction r generalizing o p with
  | nil =>
    cases o with
    | nil => simp [addk]
    | cons => simp at h
  | cons a r ih =>
    cases o with
    | nil => simp at h
    | cons b o =>
      cases p with
      | zero => simp [addk]
      | succ p =>
        have := ih (o := o) (p := p) (by simpa using h)
        simpa [addk] using this
theorem rowAt_get {m p : Nat} : ∀ (pers : List Row) (ts : List Int) (base : Row), base.length = m → (∀ r ∈ pers, r.length = m) → ts.length = pers.length → (rowAt base pers ts).length = m ∧ (rowAt base pers ts).getD p 0 = base.getD p 0 + S pers.length fun i => ts.getD i 0 * (pers.getD i []).getD p 0
  | [], [], base, h, _, _ => ⟨h, by simp [rowAt, S_zero]⟩
  | [], _ :: _, _, _, _, h => by simp at h
  | _ :: _, [], _, _, _, h => by simp at h
  | q :: pers, t :: ts, base, h, hl, ht => by
    have hq := hl q (List.mem_cons_self ..)
    obtain ⟨i1, i2⟩ := rowAt_get (p := p) pers ts (addk base q t) (addk_len' h hq) (fun r hr => hl r (List.mem_cons_of_mem _ hr)) (by simpa using ht)
    have e : rowAt base (q :: pers) (t :: ts) = rowAt (addk base q t) pers ts := rfl
    rw [e]
    refine ⟨i1, ?_⟩
    rw [i2, addk_get (by omega), List.length_cons, S_shift]
    show _ = base.getD p 0 + (t * q.getD p 0 + S pers.length fun i => ts.getD i 0 * (pers.getD i []).getD p 0)
    omega
theorem row_ext {m : Nat} {r o : Row} (h1 : r.length = m) (h2 : o.length = m) (h : ∀ p, p < m → r.getD p 0 = o.getD p 0) : r = o := by
  refine List.ext_getElem (by omega) fun p hp hp' => ?_
  have := h p (by omega)
  rw [List.getD_eq_getElem?_getD, List.getD_eq_getElem?_getD, List.getElem?_eq_getElem hp, List.getElem?_eq_getElem hp'] at this
  exact this
/-- the row is the base and the periods, so many times -/
def Is (pers : List Row) (ts : List Int) (m : Nat) (gap : Row) : Prop := ts.length = pers.length ∧ ∀ p, p < m → gap.getD p 0 = S pers.length fun i => ts.getD i 0 * (pers.getD i []).getD p 0
theorem rowAt_dotp {m : Nat} (w : Row) : ∀ (pers : List Row) (ts : List Int) (base : Row), base.length = m → (∀ r ∈ pers, r.length = m) → ts.length = pers.length → dotp w (rowAt base pers ts) = dotp w base + S pers.length fun i => ts.getD i 0 * dotp w (pers.getD i [])
  | [], [], base, h, _, _ => by simp [rowAt, S_zero]
  | [], _ :: _, _, _, _, h => by simp at h
  | _ :: _, [], _, _, _, h => by simp at h
  | q :: pers, t :: ts, base, h, hl, ht => by
    have hq := hl q (List.mem_cons_self ..)
    have i2 := rowAt_dotp w pers ts (addk base q t) (addk_len' h hq) (fun r hr => hl r (List.mem_cons_of_mem _ hr)) (by simpa using ht)
    have e : rowAt base (q :: pers) (t :: ts) = rowAt (addk base q t) pers ts := rfl
    rw [e, i2, dotp_addk _ _ _ _ (by omega), List.length_cons, S_shift]
    show _ = dotp w base + (t * dotp w q + S pers.length fun i => ts.getD i 0 * dotp w (pers.getD i []))
    omega
theorem zeros_get (m p : Nat) : (List.replicate m (0 : Int)).getD p 0 = 0 := by
  by_cases h : p < m
  · simp [h]
  · simp [List.getD_eq_getElem?_getD, List.getElem?_eq_none (show (List.replicate m (0 : Int)).length ≤ p by simp; omega)]
theorem zeros_dotp (w : Row) (m : Nat) : dotp w (List.replicate m 0) = 0 := by
  refine dotp_zero _ _ ?_
  unfold zerB
  rw [List.all_eq_true]
  intro x hx
  rw [(List.mem_replicate.mp hx).2]
  rfl
theorem is_row {m : Nat} {pers : List Row} {ts : List Int} {gap : Row} (h : Is pers ts m gap) (hg : gap.length = m) (hl : ∀ r ∈ pers, r.length = m) : gap = rowAt (List.replicate m 0) pers ts := by
  have z : (List.replicate m (0 : Int)).length = m := List.length_replicate
  refine row_ext hg (rowAt_get (p := 0) pers ts _ z hl h.1).1 fun p hp => ?_
  rw [(rowAt_get (p := p) pers ts _ z hl h.1).2, zeros_get, h.2 p hp]
  omega
theorem is_dotp {m : Nat} {pers : List Row} {ts : List Int} {gap : Row} (h : Is pers ts m gap) (hg : gap.length = m) (hl : ∀ r ∈ pers, r.length = m) (w : Row) : dotp w gap = S pers.length fun i => ts.getD i 0 * dotp w (pers.getD i []) := by
  rw [is_row h hg hl, rowAt_dotp (m := m) w pers ts _ List.length_replicate hl h.1, zeros_dotp]
  omega
theorem getD_mem {α : Type} {l : List α} {i : Nat} {d : α} (h : i < l.length) : l.getD i d ∈ l := by
  rw [List.getD_eq_getElem?_getD, List.getElem?_eq_getElem h]
  exact List.getElem_mem h
/-- unit weights -/
def unit (m p : Nat) : Row := (List.range m).map fun c => if c = p then 1 else 0
theorem dotp_unit : ∀ (m p : Nat) (r : Row), r.length = m → p < m → dotp (unit m p) r = r.getD p 0 := by
  intro m p r hr hp
  have gen : ∀ (r : Row) (k : Nat), dotp ((List.range' k r.length).map fun c => if c = p then (1 : Int) else 0) r = if k ≤ p then r.getD (p - k) 0 else 0 := by
    intro r
    induction r with
    | nil => intro k; simp [dotp]
    | cons a r ih =>
      intro k
      rw [List.length_cons, List.range'_succ, List.map_cons]
      show (if k = p then (1 : Int) else 0) * a + dotp _ r = _
      rw [ih (k + 1)]
      by_cases c1 : k = p
      · subst c1
        rw [if_pos rfl, if_neg (by omega), if_pos (Nat.le_refl _)]
        simp
      · rw [if_neg c1]
        by_cases c2 : k ≤ p
        · rw [if_pos (by omega), if_pos c2]
          have : p - k = (p - (k + 1)) + 1 := by omega
          rw [this]
          simp
        · rw [if_neg (by omega), if_neg c2]
          simp
  have := gen r 0
  rw [if_pos (Nat.zero_le _), hr] at this
  unfold unit
  rw [List.range_eq_range']
  simpa using this
theorem fills_is {m : Nat} {pers : List Row} {gap : Row} (hg : gap.length = m) (hl : ∀ r ∈ pers, r.length = m) (h : fills pers gap = true) : ∃ ts : List Nat, Is pers (natI ts) m gap := by
  obtain ⟨ts, h1, h2⟩ := fills_sound pers gap (fun r hr => by rw [hl r hr, hg]) h
  have hn : (natI ts).length = pers.length := by unfold natI; rw [List.length_map]; exact h1
  refine ⟨ts, hn, fun p hp => ?_⟩
  rw [← dotp_unit m p gap hg hp, h2, dotp_S _ _ _ hn]
  refine S_congr fun i hi => ?_
  rw [dotp_unit m p _ (hl _ (getD_mem hi)) hp]
theorem Adj.sums {m : Nat} {pers : List Row} {q : Sqr} {ts : List Int} {gap : Row} (a : Adj m pers q) (h : Is pers ts m gap) (hg : gap.length = m) (hl : ∀ r ∈ pers, r.length = m) {i : Nat} (hi : i < pers.length) : dotp (q.ws.getD i []) gap = ts.getD i 0 * q.size := by
  rw [is_dotp h hg hl, ← S_one hi (fun j => ts.getD j 0) q.size]
  refine S_congr fun j hj => ?_
  rw [a.1 i j hi hj]
end Sq
/-! ## K23d -/
namespace Sq
theorem map_range {α β : Type} (l : List α) (d : α) (f : α → β) : l.map f = (List.range l.length).map fun i => f (l.getD i d) := by
  refine List.ext_getElem (by simp) fun i h1 h2 => ?_
  simp only [List.length_map] at h1
  simp [h1]
theorem gap_get {row base : Row} {m p : Nat} (h1 : row.length = m) (h2 : base.length = m) : (addk row base (-1)).getD p 0 = row.getD p 0 - base.getD p 0 := by
  rw [addk_get (by omega)]
  omega
theorem turns_is {m : Nat} {pers : List Row} {q : Sqr} {base row : Row} {ts : List Nat} (a : Adj m pers q) (wl : q.ws.length = pers.length) (s0 : 0 < q.size) (hl : ∀ r ∈ pers, r.length = m) (hb : base.length = m) (hr : row.length = m) (h : Is pers (natI ts) m (addk row base (-1))) : turnsOf base pers q row = some (natI ts) := by
  have hg : (addk row base (-1)).length = m := addk_len' hr hb
  have tl : ts.length = pers.length := by have := h.1; unfold natI at this; rwa [List.length_map] at this
  have tg : ∀ i, (natI ts).getD i 0 = ((ts.getD i 0 : Nat) : Int) := fun i => by
    unfold natI
    by_cases c : i < ts.length
    · simp [c]
    · simp [List.getD_eq_getElem?_getD, List.getElem?_eq_none (show ts.length ≤ i by omega)]
  have hs : sumsOf q (addk row base (-1)) = (List.range pers.length).map fun i => ((ts.getD i 0 : Nat) : Int) * q.size := by
    unfold sumsOf
    rw [map_range q.ws [] , wl]
    refine List.map_congr_left fun i hi => ?_
    rw [a.sums h hg hl (List.mem_range.mp hi), tg]
  have hany : (sumsOf q (addk row base (-1))).any (fun x => decide (x < 0) || decide (x % q.size ≠ 0)) = false := by
    rw [hs, List.any_eq_false]
    intro x hx
    obtain ⟨i, _, rfl⟩ := List.mem_map.mp hx
    have : 0 ≤ ((ts.getD i 0 : Nat) : Int) * q.size := Int.mul_nonneg (by omega) (by omega)
    rw [Int.mul_emod_left]
    simp
    exact this
  have hdiv : (sumsOf q (addk row base (-1))).map (· / q.size) = natI ts := by
    rw [hs, List.map_map]
    unfold natI
    rw [map_range ts 0, tl]
    refine List.map_congr_left fun i _ => ?_
    exact Int.mul_ediv_cancel _ (by omega)
  have hrow : rowAt base pers (natI ts) = row := by
    refine row_ext (rowAt_get (p := 0) pers _ base hb hl h.1).1 hr fun p hp => ?_
    rw [(rowAt_get (p := p) pers _ base hb hl h.1).2, ← h.2 p hp, gap_get hr hb]
    omega
  unfold turnsOf
  rw [hany, hdiv, if_neg Bool.false_ne_true, if_pos hrow]
theorem turns_some {m : Nat} {pers : List Row} {q : Sqr} {base row : Row} {ts : List Int} (wl : q.ws.length = pers.length) (s0 : 0 < q.size) (hl : ∀ r ∈ pers, r.length = m) (hb : base.length = m) (hr : row.length = m) (h : turnsOf base pers q row = some ts) : ts.length = pers.length ∧ (∀ t ∈ ts, 0 ≤ t) ∧ rowAt base pers ts = row ∧ Is pers ts m (addk row base (-1)) := by
  unfold turnsOf at h
  split at h
  · cases h
  rename_i hany
  split at h
  · rename_i hrow
    obtain rfl := Option.some.inj h
    have hl2 : ((sumsOf q (addk row base (-1))).map (· / q.size)).length = pers.length := by
      unfold sumsOf
      rw [List.length_map, List.length_map, wl]
    refine ⟨hl2, fun t ht => ?_, hrow, hl2, fun p hp => ?_⟩
    · obtain ⟨x, hx, rfl⟩ := List.mem_map.mp ht
      have := List.any_eq_false.mp (Bool.eq_false_iff.mpr hany) x hx
      simp at this
      exact Int.ediv_nonneg (by omega) (by omega)
    · have := (rowAt_get (p := p) pers _ base hb hl hl2).2
      rw [hrow] at this
      rw [gap_get hr hb]
      omega
  · cases h
theorem neg_get {r : Row} (h : ∀ p, p < r.length → 0 ≤ r.getD p 0) : negB r = false := by
  unfold negB
  rw [List.any_eq_false]
  intro x hx
  obtain ⟨p, hp, rfl⟩ := List.mem_iff_getElem.mp hx
  have := h p hp
  rw [List.getD_eq_getElem?_getD, List.getElem?_eq_getElem hp] at this
  simpa using this
theorem le_mx {r : Row} {p : Nat} (hp : p < r.length) : r.getD p 0 ≤ (mx r : Int) := by
  obtain ⟨h1, h2, _⟩ := foldl_max r 0
  have := h1 _ (getD_mem (d := 0) hp)
  unfold mx
  omega
theorem less_get {left r : Row} {k p : Nat} (h : left.length = r.length) : (less left r k).getD p 0 = left.getD p 0 - k * r.getD p 0 := by
  have e : less left r k = addk left r (-(k : Int)) := by
    unfold less addk
    congr 1
    funext n m
    rw [Int.neg_mul]
    omega
  rw [e, addk_get h, Int.neg_mul]
  omega
theorem less_len2 {left r : Row} {k m : Nat} (h1 : left.length = m) (h2 : r.length = m) : (less left r k).length = m := by
  unfold less
  rw [List.length_zipWith]
  omega
theorem S_get_nonneg {pers : List Row} {ts : List Nat} {p : Nat} (hp : ∀ r ∈ pers, ∀ x ∈ r, 0 ≤ x) : 0 ≤ S pers.length fun i => (natI ts).getD i 0 * (pers.getD i []).getD p 0 := by
  refine S_nonneg fun i hi => Int.mul_nonneg ?_ ?_
  · unfold natI
    by_cases c : i < ts.length
    · simp [c]
    · simp [List.getD_eq_getElem?_getD, List.getElem?_eq_none (show ts.length ≤ i by omega)]
  · by_cases c : p < (pers.getD i []).length
    · exact hp _ (getD_mem hi) _ (getD_mem c)
    · rw [List.getD_eq_getElem?_getD, List.getElem?_eq_none (by omega)]
      exact Int.le_refl _
theorem is_fills {m : Nat} : ∀ (pers : List Row) (ts : List Nat) (gap : Row), gap.length = m → (∀ r ∈ pers, r.length = m) → (∀ r ∈ pers, ∀ x ∈ r, 0 ≤ x) → (∀ r ∈ pers, r.any (fun x => x != 0) = true) → Is pers (natI ts) m gap → fills pers gap = true
  | [], ts, gap, hg, hl, hp, hz, h => by
    have h0 : ∀ p, p < gap.length → gap.getD p 0 = 0 := fun p hp => h.2 p (by omega)
    unfold fills
    rw [Bool.and_eq_true, neg_get fun p hp => by rw [h0 p hp]; exact Int.le_refl _]
    refine ⟨rfl, ?_⟩
    unfold zerB
    rw [List.all_eq_true]
    intro x hx
    obtain ⟨p, hp, rfl⟩ := List.mem_iff_getElem.mp hx
    have := h0 p hp
    rw [List.getD_eq_getElem?_getD, List.getElem?_eq_getElem hp] at this
    simpa using this
  | r :: pers, [], gap, hg, hl, hp, hz, h => by
    have := h.1
    simp [natI] at this
  | r :: pers, t :: ts, gap, hg, hl, hp, hz, h => by
    have hr := hl r (List.mem_cons_self ..)
    have tl : ts.length = pers.length := by have := h.1; simpa [natI] using this
    have split : ∀ p, p < m → gap.getD p 0 = (t : Int) * r.getD p 0 + S pers.length fun i => (natI ts).getD i 0 * (pers.getD i []).getD p 0 := fun p hpm => by
      have := h.2 p hpm
      rw [List.length_cons, S_shift] at this
      exact this
    have rest0 : ∀ p, 0 ≤ S pers.length fun i => (natI ts).getD i 0 * (pers.getD i []).getD p 0 := fun p => S_get_nonneg fun r hr => hp r (List.mem_cons_of_mem _ hr)
    have rn : ∀ p, 0 ≤ r.getD p 0 := fun p => by
      by_cases c : p < r.length
      · exact hp r (List.mem_cons_self ..) _ (getD_mem c)
      · rw [List.getD_eq_getElem?_getD, List.getElem?_eq_none (by omega)]
        exact Int.le_refl _
    have gn : negB gap = false := neg_get fun p hpl => by
      rw [split p (by omega)]
      have := Int.mul_nonneg (show 0 ≤ (t : Int) by omega) (rn p)
      have := rest0 p
      omega
    have tm : t ≤ mx gap := by
      obtain ⟨x, hx, hx0⟩ := List.any_eq_true.mp (hz r (List.mem_cons_self ..))
      obtain ⟨p, hpl, rfl⟩ := List.mem_iff_getElem.mp hx
      have e : r.getD p 0 = r[p] := by rw [List.getD_eq_getElem?_getD, List.getElem?_eq_getElem hpl]; rfl
      have x0 : r[p] ≠ 0 := by simpa using hx0
      have := rn p
      have p1 : 1 ≤ r.getD p 0 := by rw [e] at this ⊢; omega
      have h1 := le_mx (r := gap) (p := p) (by omega)
      rw [split p (by omega)] at h1
      have := rest0 p
      have h2 : (t : Int) * 1 ≤ (t : Int) * r.getD p 0 := Int.mul_le_mul_of_nonneg_left p1 (by omega)
      omega
    have ih := is_fills pers ts (less gap r t) (less_len2 hg hr) (fun r hr => hl r (List.mem_cons_of_mem _ hr)) (fun r hr => hp r (List.mem_cons_of_mem _ hr)) (fun r hr => hz r (List.mem_cons_of_mem _ hr))
      ⟨by unfold natI; rw [List.length_map]; exact tl, fun p hpm => by rw [less_get (by omega), split p hpm]; omega⟩
    have ln : negB (less gap r t) = false := neg_get fun p hpl => by
      rw [less_len2 hg hr] at hpl
      rw [less_get (by omega), split p hpl]
      have := rest0 p
      omega
    unfold fills
    rw [Bool.and_eq_true, gn]
    refine ⟨rfl, ?_⟩
    rw [Bool.or_eq_true]
    refine .inr ?_
    rw [List.any_eq_true]
    exact ⟨t, List.mem_range.mpr (by omega), by rw [ln, ih]; rfl⟩
end Sq
/-! ## K23e -/
namespace Sq
theorem dotp_at (m p : Nat) (v : Int) (r : Row) (hr : r.length = m) (hp : p < m) : dotp ((List.range m).map fun c => if c = p then v else 0) r = v * r.getD p 0 := by
  have gen : ∀ (r : Row) (k : Nat), dotp ((List.range' k r.length).map fun c => if c = p then v else 0) r = if k ≤ p then v * r.getD (p - k) 0 else 0 := by
    intro r
    induction r with
    | nil => intro k; simp [dotp]
    | cons a r ih =>
      intro k
      rw [List.length_cons, List.range'_succ, List.map_cons]
      show (if k = p then v else 0) * a + dotp _ r = _
      rw [ih (k + 1)]
      by_cases c1 : k = p
      · subst c1
        rw [if_pos rfl, if_neg (by omega), if_pos (Nat.le_refl _)]
        simp
      · rw [if_neg c1]
        by_cases c2 : k ≤ p
        · rw [if_pos (by omega), if_pos c2]
          have : p - k = (p - (k + 1)) + 1 := by omega
          rw [this]
          simp
        · rw [if_neg (by omega), if_neg c2]
          simp
  have := gen r 0
  rw [if_pos (Nat.zero_le _), hr] at this
  rw [List.range_eq_range']
  simpa using this
theorem apart_fold {m : Nat} (p : Nat) (g : Row) : ∀ (pers ws : List Row) (f : Row), pers.length = ws.length → (∀ w ∈ ws, w.length = m) → f.length = m → dotp g ((pers.zip ws).foldl (fun f pw => addk f pw.2 (-(pw.1.getD p 0))) f) = dotp g f - S pers.length fun i => (pers.getD i []).getD p 0 * dotp (ws.getD i []) g
  | [], [], f, _, _, _ => by simp [S_zero]
  | [], _ :: _, _, h, _, _ => by simp at h
  | _ :: _, [], _, h, _, _ => by simp at h
  | r :: pers, w :: ws, f, h, hw, hf => by
    have w0 := hw w (List.mem_cons_self ..)
    rw [List.zip_cons_cons, List.foldl_cons, apart_fold p g pers ws _ (by simpa using h) (fun x hx => hw x (List.mem_cons_of_mem _ hx)) (addk_len' hf w0), dotp_addk _ _ _ _ (by omega), List.length_cons, S_shift]
    show _ = dotp g f - (r.getD p 0 * dotp w g + S pers.length fun i => (pers.getD i []).getD p 0 * dotp (ws.getD i []) g)
    show dotp g f + -(r.getD p 0) * dotp g w - _ = _
    rw [Int.neg_mul, dotp_comm g w]
    omega
theorem apart_dotp {m : Nat} {pers : List Row} {q : Sqr} {p : Nat} {g : Row} (wl : q.ws.length = pers.length) (wm : ∀ w ∈ q.ws, w.length = m) (hp : p < m) (hg : g.length = m) : dotp (apartOf m pers q p) g = q.size * g.getD p 0 - S pers.length fun i => (pers.getD i []).getD p 0 * dotp (q.ws.getD i []) g := by
  unfold apartOf
  rw [dotp_comm, apart_fold (m := m) p g pers q.ws _ wl.symm wm (by simp), dotp_comm g, dotp_at m p q.size g hg hp]
theorem apart_per {m : Nat} {pers : List Row} {q : Sqr} {p : Nat} (a : Adj m pers q) (wl : q.ws.length = pers.length) (wm : ∀ w ∈ q.ws, w.length = m) (hl : ∀ r ∈ pers, r.length = m) (hp : p < m) {r : Row} (hr : r ∈ pers) : dotp (apartOf m pers q p) r = 0 := by
  obtain ⟨j, hj, rfl⟩ := List.mem_iff_getElem.mp hr
  have e : pers[j] = pers.getD j [] := by rw [List.getD_eq_getElem?_getD, List.getElem?_eq_getElem hj]; rfl
  rw [apart_dotp wl wm hp (hl _ hr), e]
  have : (S pers.length fun i => (pers.getD i []).getD p 0 * dotp (q.ws.getD i []) (pers.getD j [])) = (pers.getD j []).getD p 0 * q.size := by
    rw [← S_one hj (fun i => (pers.getD i []).getD p 0) q.size]
    refine S_congr fun i hi => ?_
    rw [a.1 i j hi hj]
    by_cases c : i = j
    · rw [if_pos c, if_pos c.symm]
    · rw [if_neg c, if_neg (fun z => c z.symm)]
  rw [this, Int.mul_comm]
  omega
theorem mem_get {α : Type} {l : List α} {x d : α} (h : x ∈ l) : ∃ i, i < l.length ∧ x = l.getD i d := by
  obtain ⟨i, hi, rfl⟩ := List.mem_iff_getElem.mp h
  exact ⟨i, hi, by rw [List.getD_eq_getElem?_getD, List.getElem?_eq_getElem hi]; rfl⟩
theorem w_per {m : Nat} {pers : List Row} {q : Sqr} (a : Adj m pers q) (wl : q.ws.length = pers.length) {w r : Row} (hw : w ∈ q.ws) (hr : r ∈ pers) : dotp w r = 0 ∨ dotp w r = q.size := by
  obtain ⟨i, hi, rfl⟩ := mem_get (d := []) hw
  obtain ⟨j, hj, rfl⟩ := mem_get (d := []) hr
  rw [a.1 i j (by omega) hj]
  split
  · exact .inr rfl
  · exact .inl rfl
theorem bar_some {m : Nat} {pers : List Row} {q : Sqr} {base row : Row} {b : Bar} (a : Adj m pers q) (wl : q.ws.length = pers.length) (wm : ∀ w ∈ q.ws, w.length = m) (s0 : 0 < q.size) (hl : ∀ r ∈ pers, r.length = m) (h : barOf m base pers q row = some b) :
    barB (addk row base (-1)) pers b = true ∧ ∀ s w, b = .rest s w → 2 ≤ s := by
  unfold barOf at h
  cases h1 : (List.range m).findSome? (apartB m pers q (addk row base (-1))) with
  | some b1 =>
    rw [h1] at h
    obtain rfl := Option.some.inj h
    obtain ⟨p, hp, hb⟩ := List.exists_of_findSome?_eq_some h1
    have hp := List.mem_range.mp hp
    unfold apartB at hb
    split at hb
    · cases hb
    split at hb
    · rename_i hne
      obtain rfl := Option.some.inj hb
      refine ⟨?_, fun s w e => by cases e⟩
      show (pers.all (fun r => decide (dotp (apartOf m pers q p) r = 0)) && decide (dotp (apartOf m pers q p) (addk row base (-1)) ≠ 0)) = true
      rw [Bool.and_eq_true, List.all_eq_true]
      exact ⟨fun r hr => decide_eq_true (apart_per a wl wm hl hp hr), decide_eq_true hne⟩
    · cases hb
  | none =>
    rw [h1] at h
    cases h2 : q.ws.findSome? (restB q (addk row base (-1))) with
    | some b2 =>
      rw [h2] at h
      obtain rfl := Option.some.inj h
      obtain ⟨w, hw, hb⟩ := List.exists_of_findSome?_eq_some h2
      unfold restB at hb
      split at hb
      · rename_i hne
        obtain rfl := Option.some.inj hb
        refine ⟨?_, fun s w e => ?_⟩
        · show (pers.all (fun r => decide (dotp w r % q.size = 0)) && decide (dotp w (addk row base (-1)) % q.size ≠ 0)) = true
          rw [Bool.and_eq_true, List.all_eq_true]
          refine ⟨fun r hr => decide_eq_true ?_, decide_eq_true hne⟩
          rcases w_per a wl hw hr with e | e
          · rw [e]; simp
          · rw [e]; exact Int.emod_self
        · cases e
          by_cases c : q.size = 1
          · rw [c, Int.emod_one] at hne
            exact absurd rfl hne
          · omega
      · cases hb
    | none =>
      rw [h2] at h
      obtain ⟨w, hw, hb⟩ := List.exists_of_findSome?_eq_some (show q.ws.findSome? (lessB (addk row base (-1))) = some b from h)
      unfold lessB at hb
      split at hb
      · rename_i hlt
        obtain rfl := Option.some.inj hb
        refine ⟨?_, fun s w e => by cases e⟩
        show (pers.all (fun r => decide (0 ≤ dotp w r)) && decide (dotp w (addk row base (-1)) < 0)) = true
        rw [Bool.and_eq_true, List.all_eq_true]
        refine ⟨fun r hr => decide_eq_true ?_, decide_eq_true hlt⟩
        rcases w_per a wl hw hr with e | e <;> omega
      · cases hb
theorem bar_none {m : Nat} {pers : List Row} {q : Sqr} {base row : Row} (a : Adj m pers q) (wl : q.ws.length = pers.length) (wm : ∀ w ∈ q.ws, w.length = m) (s0 : 0 < q.size) (hl : ∀ r ∈ pers, r.length = m) (hb : base.length = m) (hr : row.length = m) (h : barOf m base pers q row = none) :
    ∃ ts : List Nat, Is pers (natI ts) m (addk row base (-1)) := by
  have hg : (addk row base (-1)).length = m := addk_len' hr hb
  unfold barOf at h
  rw [Option.or_eq_none_iff, Option.or_eq_none_iff] at h
  obtain ⟨h1, h2, h3⟩ := h
  rw [List.findSome?_eq_none_iff] at h1 h2 h3
  generalize hgap : addk row base (-1) = gap at *
  have e2 : ∀ i, i < pers.length → dotp (q.ws.getD i []) gap % q.size = 0 := fun i hi => by
    have := h2 _ (getD_mem (d := []) (i := i) (by omega))
    unfold restB at this
    split at this
    · cases this
    · rename_i c
      exact Classical.byContradiction fun z => c z
  have e3 : ∀ i, i < pers.length → 0 ≤ dotp (q.ws.getD i []) gap := fun i hi => by
    have := h3 _ (getD_mem (d := []) (i := i) (by omega))
    unfold lessB at this
    split at this
    · cases this
    · omega
  let ts : List Nat := (List.range pers.length).map fun i => (dotp (q.ws.getD i []) gap / q.size).toNat
  have tg : ∀ i, i < pers.length → (natI ts).getD i 0 * q.size = dotp (q.ws.getD i []) gap := fun i hi => by
    have : (natI ts).getD i 0 = dotp (q.ws.getD i []) gap / q.size := by
      unfold natI
      simp only [ts, List.map_map]
      rw [List.getD_eq_getElem?_getD, List.getElem?_map, List.getElem?_range hi]
      show ((dotp (q.ws.getD i []) gap / q.size).toNat : Int) = _
      have := Int.ediv_nonneg (e3 i hi) (show 0 ≤ q.size by omega)
      omega
    rw [this]
    exact Int.ediv_mul_cancel (Int.dvd_of_emod_eq_zero (e2 i hi))
  refine ⟨ts, by simp [natI, ts], fun p hp => ?_⟩
  have key : q.size * gap.getD p 0 = q.size * S pers.length fun i => (natI ts).getD i 0 * (pers.getD i []).getD p 0 := by
    rw [← S_mul]
    have e : (S pers.length fun i => q.size * ((natI ts).getD i 0 * (pers.getD i []).getD p 0)) = S pers.length fun i => dotp (q.ws.getD i []) gap * (pers.getD i []).getD p 0 := S_congr fun i hi => by
      rw [← tg i hi, ← Int.mul_assoc, Int.mul_comm q.size]
    rw [e]
    by_cases c : p ∈ q.ps
    · exact (a.2 gap hg p c).symm
    · have := h1 p (List.mem_range.mpr hp)
      unfold apartB at this
      rw [if_neg c] at this
      split at this
      · cases this
      · rename_i z
        have z : dotp (apartOf m pers q p) gap = 0 := Classical.byContradiction fun y => z y
        rw [apart_dotp wl wm hp hg] at z
        have e4 : (S pers.length fun i => (pers.getD i []).getD p 0 * dotp (q.ws.getD i []) gap) = S pers.length fun i => dotp (q.ws.getD i []) gap * (pers.getD i []).getD p 0 := S_congr fun i _ => Int.mul_comm _ _
        rw [e4] at z
        omega
  exact Int.eq_of_mul_eq_mul_left (by omega) key
end Sq
/-! ## K23f -/
namespace Sq
/-- what the periods reach -/
def In (o : List Row) (m : Nat) (g : Row) : Prop := ∃ ts : List Nat, Is o (natI ts) m g
theorem natI_get (ts : List Nat) (i : Nat) : (natI ts).getD i 0 = ((ts.getD i 0 : Nat) : Int) := by
  unfold natI
  by_cases c : i < ts.length
  · simp [c]
  · simp [List.getD_eq_getElem?_getD, List.getElem?_eq_none (show ts.length ≤ i by omega)]
theorem natI_len (ts : List Nat) : (natI ts).length = ts.length := by simp [natI]
theorem in_iff {o : List Row} {m : Nat} {g : Row} : In o m g ↔ ∃ t : Nat → Nat, ∀ p, p < m → g.getD p 0 = S o.length fun i => (t i : Int) * (o.getD i []).getD p 0 := by
  constructor
  · rintro ⟨ts, h1, h2⟩
    refine ⟨fun i => ts.getD i 0, fun p hp => ?_⟩
    rw [h2 p hp]
    exact S_congr fun i _ => by rw [natI_get]
  · rintro ⟨t, h⟩
    refine ⟨(List.range o.length).map t, by rw [natI_len]; simp, fun p hp => ?_⟩
    rw [h p hp]
    refine S_congr fun i hi => ?_
    rw [natI_get]
    congr 2
    simp [hi]
theorem S_add (n : Nat) (f g : Nat → Int) : S n (fun i => f i + g i) = S n f + S n g := by
  induction n with
  | zero => rfl
  | succ n ih => rw [S_succ, S_succ, S_succ, ih]; omega
theorem S_swap (n k : Nat) (f : Nat → Nat → Int) : S n (fun i => S k fun j => f i j) = S k fun j => S n fun i => f i j := by
  induction n with
  | zero => rw [S_zero]; exact (S_nil fun _ _ => rfl).symm
  | succ n ih =>
    rw [S_succ, ih, ← S_add]
    exact S_congr fun j _ => by rw [S_succ]
theorem in_add {o : List Row} {m : Nat} {g g1 g2 : Row} (h1 : In o m g1) (h2 : In o m g2) (h : ∀ p, p < m → g.getD p 0 = g1.getD p 0 + g2.getD p 0) : In o m g := by
  obtain ⟨t1, e1⟩ := in_iff.mp h1
  obtain ⟨t2, e2⟩ := in_iff.mp h2
  refine in_iff.mpr ⟨fun i => t1 i + t2 i, fun p hp => ?_⟩
  rw [h p hp, e1 p hp, e2 p hp, ← S_add]
  exact S_congr fun i _ => by rw [Int.natCast_add, Int.add_mul]
def sumN (k : Nat) (f : Nat → Nat) : Nat := ((List.range k).map f).sum
theorem sumN_succ (k : Nat) (f : Nat → Nat) : sumN (k + 1) f = sumN k f + f k := by
  unfold sumN
  rw [List.range_succ, List.map_append, List.sum_append]
  simp
theorem sumN_S (k : Nat) (f : Nat → Nat) : ((sumN k f : Nat) : Int) = S k fun i => (f i : Int) := by
  induction k with
  | zero => rfl
  | succ k ih => rw [sumN_succ, S_succ, Int.natCast_add, ih]
theorem in_in {o l : List Row} {m : Nat} {g : Row} (h : ∀ p ∈ l, In o m p) (hg : In l m g) : In o m g := by
  obtain ⟨t, e⟩ := in_iff.mp hg
  have hv : ∀ i : Nat, ∃ v : Nat → Nat, i < l.length → ∀ p, p < m → (l.getD i []).getD p 0 = S o.length fun j => (v j : Int) * (o.getD j []).getD p 0 := fun i => by
    by_cases c : i < l.length
    · obtain ⟨v, hv⟩ := in_iff.mp (h _ (getD_mem (d := []) c))
      exact ⟨v, fun _ => hv⟩
    · exact ⟨fun _ => 0, fun z => absurd z c⟩
  let v := fun i => Classical.choose (hv i)
  have hv' : ∀ i, i < l.length → ∀ p, p < m → (l.getD i []).getD p 0 = S o.length fun j => (v i j : Int) * (o.getD j []).getD p 0 := fun i => Classical.choose_spec (hv i)
  refine in_iff.mpr ⟨fun j => sumN l.length fun i => t i * v i j, fun p hp => ?_⟩
  rw [e p hp]
  have e1 : (S l.length fun i => (t i : Int) * (l.getD i []).getD p 0) = S l.length fun i => S o.length fun j => (t i : Int) * ((v i j : Int) * (o.getD j []).getD p 0) := S_congr fun i hi => by
    rw [hv' i hi p hp, S_mul]
  rw [e1, S_swap]
  refine S_congr fun j _ => ?_
  rw [sumN_S, Int.mul_comm, ← S_mul]
  refine S_congr fun i _ => ?_
  rw [Int.natCast_mul, Int.mul_comm ((o.getD j []).getD p 0), Int.mul_assoc]
abbrev Line := Row × List Row
/-- the line reaches the row -/
def Has (m : Nat) (l : Line) (row : Row) : Prop := In l.2 m (addk row l.1 (-1))
structure Ins (m : Nat) (l o : Line) : Prop where
  base : Has m o l.1
  pers : ∀ p ∈ l.2, In o.2 m p
theorem Ins.has {m : Nat} {l o : Line} {row : Row} (h : Ins m l o) (hr : row.length = m) (hl : l.1.length = m) (ho : o.1.length = m) (hh : Has m l row) : Has m o row :=
  in_add (in_in h.pers hh) h.base fun p hp => by rw [gap_get hr ho, gap_get hr hl, gap_get hl ho]; omega
theorem Ins.trans {m : Nat} {l o r : Line} (hl : l.1.length = m) (ho : o.1.length = m) (hr : r.1.length = m) (h : Ins m l o) (k : Ins m o r) : Ins m l r :=
  ⟨k.has hl ho hr h.base, fun p hp => in_in k.pers (h.pers p hp)⟩
theorem S_zero_all {n : Nat} {f : Nat → Int} (h0 : ∀ i, i < n → 0 ≤ f i) (h : S n f = 0) : ∀ i, i < n → f i = 0 := by
  induction n with
  | zero => intro i hi; omega
  | succ n ih =>
    rw [S_succ] at h
    have h1 := S_nonneg (n := n) (f := f) fun i hi => h0 i (by omega)
    have h2 := h0 n (by omega)
    intro i hi
    by_cases c : i = n
    · rw [c]; omega
    · exact ih (fun i hi => h0 i (by omega)) (by omega) i (by omega)
theorem S_one_some {n : Nat} {f : Nat → Int} (h0 : ∀ i, i < n → 0 ≤ f i) (h : S n f = 1) : ∃ i, i < n ∧ f i = 1 := by
  induction n with
  | zero => rw [S_zero] at h; omega
  | succ n ih =>
    rw [S_succ] at h
    have h1 := S_nonneg (n := n) (f := f) fun i hi => h0 i (by omega)
    have h2 := h0 n (by omega)
    by_cases c : f n = 1
    · exact ⟨n, by omega, c⟩
    · obtain ⟨i, hi, e⟩ := ih (fun i hi => h0 i (by omega)) (by omega)
      exact ⟨i, by omega, e⟩
theorem in_dotp {m : Nat} {o : List Row} {g : Row} {t : Nat → Nat} (hg : g.length = m) (hl : ∀ r ∈ o, r.length = m) (h : ∀ p, p < m → g.getD p 0 = S o.length fun i => (t i : Int) * (o.getD i []).getD p 0) (w : Row) : dotp w g = S o.length fun i => (t i : Int) * dotp w (o.getD i []) := by
  have tg : ∀ i, i < o.length → (natI ((List.range o.length).map t)).getD i 0 = (t i : Int) := fun i hi => by
    rw [natI_get]
    congr 1
    simp [hi]
  have : Is o (natI ((List.range o.length).map t)) m g := ⟨by rw [natI_len]; simp, fun p hp => by rw [h p hp]; exact S_congr fun i hi => by rw [tg i hi]⟩
  rw [is_dotp this hg hl]
  exact S_congr fun i hi => by rw [tg i hi]
/-- a period of one line is a period of a line that reaches as far -/
theorem same_per {m : Nat} {l o : List Row} {q : Sqr} (a : Adj m l q) (s0 : 0 < q.size) (hl : ∀ r ∈ l, r.length = m) (ho : ∀ r ∈ o, r.length = m) (h1 : ∀ p ∈ l, In o m p) (h2 : ∀ p ∈ o, In l m p) {p : Row} (hp : p ∈ l) : p ∈ o := by
  obtain ⟨i, hi, rfl⟩ := mem_get (d := []) hp
  obtain ⟨c, hc⟩ := in_iff.mp (h1 _ hp)
  have hd0 : ∀ j : Nat, ∃ d : Nat → Nat, j < o.length → ∀ p, p < m → (o.getD j []).getD p 0 = S l.length fun k => (d k : Int) * (l.getD k []).getD p 0 := fun j => by
    by_cases z : j < o.length
    · obtain ⟨d, hd⟩ := in_iff.mp (h2 _ (getD_mem (d := []) z))
      exact ⟨d, fun _ => hd⟩
    · exact ⟨fun _ => 0, fun y => absurd y z⟩
  let d := fun j => Classical.choose (hd0 j)
  have hd : ∀ j, j < o.length → ∀ p, p < m → (o.getD j []).getD p 0 = S l.length fun k => (d j k : Int) * (l.getD k []).getD p 0 := fun j => Classical.choose_spec (hd0 j)
  have wo : ∀ k j, k < l.length → j < o.length → dotp (q.ws.getD k []) (o.getD j []) = (d j k : Int) * q.size := fun k j hk hj => by
    rw [in_dotp (ho _ (getD_mem hj)) hl (hd j hj), ← S_one hk (fun i => (d j i : Int)) q.size]
    refine S_congr fun i hi => ?_
    rw [a.1 k i hk hi]
  have key : ∀ k, k < l.length → (S o.length fun j => (c j : Int) * (d j k : Int)) = if k = i then 1 else 0 := fun k hk => by
    have e := in_dotp (hl _ hp) ho hc (q.ws.getD k [])
    rw [a.1 k i hk hi] at e
    have e2 : (S o.length fun j => (c j : Int) * dotp (q.ws.getD k []) (o.getD j [])) = q.size * S o.length fun j => (c j : Int) * (d j k : Int) := by
      rw [← S_mul]
      refine S_congr fun j hj => ?_
      rw [wo k j hk hj, ← Int.mul_assoc, Int.mul_comm]
    rw [e2] at e
    split at e
    · rename_i z
      rw [if_pos z]
      have : q.size * 1 = q.size * S o.length fun j => (c j : Int) * (d j k : Int) := by omega
      exact (Int.eq_of_mul_eq_mul_left (by omega) this).symm
    · rename_i z
      rw [if_neg z]
      have : q.size * 0 = q.size * S o.length fun j => (c j : Int) * (d j k : Int) := by omega
      exact (Int.eq_of_mul_eq_mul_left (by omega) this).symm
  have nn : ∀ k j, 0 ≤ (c j : Int) * (d j k : Int) := fun k j => Int.mul_nonneg (by omega) (by omega)
  obtain ⟨j, hj, hj1⟩ := S_one_some (fun j _ => nn i j) (by rw [key i hi, if_pos rfl])
  have hcd : (c j : Int) = 1 ∧ (d j i : Int) = 1 := by
    have : c j * d j i = 1 := by exact_mod_cast hj1
    have h1 : c j = 1 := Nat.eq_one_of_mul_eq_one_right this
    have h2 : d j i = 1 := Nat.eq_one_of_mul_eq_one_left this
    rw [h1, h2]
    exact ⟨rfl, rfl⟩
  have dz : ∀ k, k < l.length → k ≠ i → (d j k : Int) = 0 := fun k hk hne => by
    have := S_zero_all (fun j _ => nn k j) (by rw [key k hk, if_neg hne]) j hj
    rw [hcd.1] at this
    omega
  have : l.getD i [] = o.getD j [] := by
    refine row_ext (hl _ hp) (ho _ (getD_mem hj)) fun p hp => ?_
    rw [hd j hj p hp]
    have : (S l.length fun k => (d j k : Int) * (l.getD k []).getD p 0) = S l.length fun k => (l.getD k []).getD p 0 * (if i = k then 1 else 0) := S_congr fun k hk => by
      by_cases z : i = k
      · subst z
        rw [hcd.2, if_pos rfl]
        omega
      · rw [dz k hk (fun y => z y.symm), if_neg z]
        simp
    rw [this, S_one hi]
    simp
  rw [this]
  exact getD_mem hj
end Sq
/-! ## K23g -/
namespace Sq
theorem sorted_eq {α : Type} {r : α → α → Prop} (asym : ∀ a b, r a b → ¬ r b a) : ∀ {l o : List α}, l.Pairwise r → o.Pairwise r → (∀ x, x ∈ l ↔ x ∈ o) → l = o
  | [], [], _, _, _ => rfl
  | [], b :: o, _, _, h => absurd ((h b).mpr (List.mem_cons_self ..)) (by simp)
  | a :: l, [], _, _, h => absurd ((h a).mp (List.mem_cons_self ..)) (by simp)
  | a :: l, b :: o, hl, ho, h => by
    obtain ⟨l1, l2⟩ := List.pairwise_cons.mp hl
    obtain ⟨o1, o2⟩ := List.pairwise_cons.mp ho
    have ab : a = b := by
      rcases List.mem_cons.mp ((h a).mp (List.mem_cons_self ..)) with e | e
      · exact e
      · rcases List.mem_cons.mp ((h b).mpr (List.mem_cons_self ..)) with e' | e'
        · exact e'.symm
        · exact absurd (l1 b e') (asym _ _ (o1 a e))
    subst ab
    have al : a ∉ l := fun z => asym _ _ (l1 a z) (l1 a z)
    have ao : a ∉ o := fun z => asym _ _ (o1 a z) (o1 a z)
    rw [sorted_eq asym l2 o2 fun x => ?_]
    constructor
    · intro hx
      rcases List.mem_cons.mp ((h x).mp (List.mem_cons_of_mem _ hx)) with e | e
      · exact absurd (e ▸ hx) al
      · exact e
    · intro hx
      rcases List.mem_cons.mp ((h x).mpr (List.mem_cons_of_mem _ hx)) with e | e
      · exact absurd (e ▸ hx) ao
      · exact e
theorem count_lt {α : Type} {p q : α → Bool} : ∀ {l : List α} {y : α}, (∀ x ∈ l, p x = true → q x = true) → y ∈ l → q y = true → p y = false → l.countP p < l.countP q
  | [], y, _, h, _, _ => by cases h
  | x :: l, y, h, hy, hq, hp => by
    have le : l.countP p ≤ l.countP q := List.countP_mono_left fun z hz => h z (List.mem_cons_of_mem _ hz)
    rw [List.countP_cons, List.countP_cons]
    rcases List.mem_cons.mp hy with e | e
    · subst e
      rw [hq, hp]
      simp
      omega
    · have := count_lt (fun z hz => h z (List.mem_cons_of_mem _ hz)) e hq hp
      have h1 := h x (List.mem_cons_self ..)
      cases cp : p x with
      | true => rw [h1 cp]; simp; omega
      | false => simp; omega
theorem top_of {n : Nat} {R : Nat → Nat → Bool} (irr : ∀ i, i < n → R i i = false) (tr : ∀ i j k, i < n → j < n → k < n → R i j = true → R j k = true → R i k = true) : ∀ (c i : Nat), i < n → (List.range n).countP (R i) ≤ c → ∃ j, j < n ∧ (∀ k, k < n → R j k = false) ∧ (j = i ∨ R i j = true)
  | 0, i, hi, h => by
    refine ⟨i, hi, fun k hk => ?_, .inl rfl⟩
    cases z : R i k with
    | false => rfl
    | true =>
      have := List.countP_pos_iff.mpr ⟨k, List.mem_range.mpr hk, z⟩
      omega
  | c + 1, i, hi, h => by
    by_cases z : ∃ k, k < n ∧ R i k = true
    · obtain ⟨k, hk, hik⟩ := z
      have : (List.range n).countP (R k) < (List.range n).countP (R i) := count_lt (fun x hx hkx => tr i k x hi hk (List.mem_range.mp hx) hik hkx) (List.mem_range.mpr hk) hik (irr k hk)
      obtain ⟨j, hj, h1, h2⟩ := top_of irr tr c k hk (by omega)
      refine ⟨j, hj, h1, .inr ?_⟩
      rcases h2 with e | e
      · rw [e]; exact hik
      · exact tr i k j hi hk hj hik e
    · refine ⟨i, hi, fun k hk => ?_, .inl rfl⟩
      cases y : R i k with
      | false => rfl
      | true => exact absurd ⟨k, hk, y⟩ z
theorem in_nonneg {o : List Row} {m : Nat} {g : Row} (ho : ∀ r ∈ o, ∀ x ∈ r, 0 ≤ x) (h : In o m g) {p : Nat} (hp : p < m) : 0 ≤ g.getD p 0 := by
  obtain ⟨ts, h1, h2⟩ := h
  rw [h2 p hp]
  exact S_get_nonneg ho
theorem same_base {m : Nat} {l o : Line} (hl : l.1.length = m) (ho : o.1.length = m) (pl : ∀ r ∈ l.2, ∀ x ∈ r, 0 ≤ x) (po : ∀ r ∈ o.2, ∀ x ∈ r, 0 ≤ x) (h1 : Has m o l.1) (h2 : Has m l o.1) : l.1 = o.1 := by
  refine row_ext hl ho fun p hp => ?_
  have a := in_nonneg po h1 hp
  have b := in_nonneg pl h2 hp
  rw [gap_get hl ho] at a
  rw [gap_get ho hl] at b
  omega
/-- a free line as the program draws it up -/
structure FrL (r : Row → Row → Prop) (m : Nat) (l : Line) (q : Sqr) : Prop where
  bl : l.1.length = m
  pl : ∀ p ∈ l.2, p.length = m
  nn : ∀ p ∈ l.2, ∀ x ∈ p, 0 ≤ x
  nz : ∀ p ∈ l.2, p.any (fun x => x != 0) = true
  so : l.2.Pairwise r
  adj : Adj m l.2 q
  wl : q.ws.length = l.2.length
  wm : ∀ w ∈ q.ws, w.length = m
  s0 : 0 < q.size
theorem Ins.same {r : Row → Row → Prop} (asym : ∀ a b, r a b → ¬ r b a) {m : Nat} {l o : Line} {q q' : Sqr} (fl : FrL r m l q) (fo : FrL r m o q') (h : Ins m l o) (k : Ins m o l) : l = o := by
  have e1 := same_base fl.bl fo.bl fl.nn fo.nn h.base k.base
  have e2 : l.2 = o.2 := sorted_eq asym fl.so fo.so fun x => ⟨same_per fl.adj fl.s0 fl.pl fo.pl h.pers k.pers, same_per fo.adj fo.s0 fo.pl fl.pl k.pers h.pers⟩
  exact Prod.ext e1 e2
/-- what turns_of tells -/
theorem turns_has {r : Row → Row → Prop} {m : Nat} {l : Line} {q : Sqr} {row : Row} (f : FrL r m l q) (hr : row.length = m) : (turnsOf l.1 l.2 q row).isSome = true ↔ Has m l row := by
  constructor
  · intro h
    obtain ⟨ts, hts⟩ := Option.isSome_iff_exists.mp h
    obtain ⟨h1, h2, h3, h4⟩ := turns_some f.wl f.s0 f.pl f.bl hr hts
    refine ⟨ts.map Int.toNat, ?_⟩
    have : natI (ts.map Int.toNat) = ts := by
      unfold natI
      rw [List.map_map]
      conv => rhs; rw [← List.map_id ts]
      refine List.map_congr_left fun t ht => ?_
      have := h2 t ht
      show ((t.toNat : Nat) : Int) = t
      omega
    rw [this]
    exact h4
  · rintro ⟨ts, h⟩
    rw [turns_is f.adj f.wl f.s0 f.pl f.bl hr h]
    rfl
theorem fills_has {r : Row → Row → Prop} {m : Nat} {l : Line} {q : Sqr} {row : Row} (f : FrL r m l q) (hr : row.length = m) : fills l.2 (addk row l.1 (-1)) = true ↔ Has m l row := by
  have hg : (addk row l.1 (-1)).length = m := addk_len' hr f.bl
  exact ⟨fun h => fills_is hg f.pl h, fun ⟨ts, h⟩ => is_fills l.2 ts _ hg f.pl f.nn f.nz h⟩
theorem bars_has {r : Row → Row → Prop} {m : Nat} {l : Line} {q : Sqr} {row : Row} (f : FrL r m l q) (hr : row.length = m) : (barOf m l.1 l.2 q row).isNone = true ↔ Has m l row := by
  have hg : (addk row l.1 (-1)).length = m := addk_len' hr f.bl
  constructor
  · intro h
    exact bar_none f.adj f.wl f.wm f.s0 f.pl f.bl hr (Option.isNone_iff_eq_none.mp h)
  · intro h
    cases e : barOf m l.1 l.2 q row with
    | none => rfl
    | some b =>
      have h1 := (bar_some f.adj f.wl f.wm f.s0 f.pl e).1
      have h2 := no_bar (ps := l.2) (gap := addk row l.1 (-1)) (fun p hp => by rw [f.pl p hp, hg]) ((fills_has f hr).mpr h) b
      rw [h1] at h2
      cases h2
/-- the program's look whether a line lies within another -/
def insB (m : Nat) (l o : Line) (q : Sqr) : Bool := !((l.1.zip o.1).any fun x => decide (x.1 < x.2)) && ((turnsOf o.1 o.2 q l.1).isSome && l.2.all fun p => (turnsOf (List.replicate m 0) o.2 q p).isSome)
theorem ins_iff {r : Row → Row → Prop} {m : Nat} {l o : Line} {q : Sqr} (fo : FrL r m o q) (bl : l.1.length = m) (pl : ∀ p ∈ l.2, p.length = m) : insB m l o q = true ↔ Ins m l o := by
  have lev : FrL r m (List.replicate m 0, o.2) q := ⟨List.length_replicate, fo.pl, fo.nn, fo.nz, fo.so, fo.adj, fo.wl, fo.wm, fo.s0⟩
  have hz : ∀ p : Row, p.length = m → (Has m (List.replicate m 0, o.2) p ↔ In o.2 m p) := fun p hp => by
    have e : addk p (List.replicate m 0) (-1) = p := row_ext (addk_len' hp List.length_replicate) hp fun i hi => by
      rw [gap_get hp List.length_replicate, zeros_get]
      omega
    unfold Has
    rw [e]
  unfold insB
  rw [Bool.and_eq_true, Bool.and_eq_true, turns_has fo bl, List.all_eq_true]
  constructor
  · rintro ⟨_, h1, h2⟩
    exact ⟨h1, fun p hp => (hz p (pl p hp)).mp ((turns_has lev (pl p hp)).mp (h2 p hp))⟩
  · intro h
    refine ⟨?_, h.base, fun p hp => (turns_has lev (pl p hp)).mpr ((hz p (pl p hp)).mpr (h.pers p hp))⟩
    have : (l.1.zip o.1).any (fun x => decide (x.1 < x.2)) = false := by
      rw [List.any_eq_false]
      intro x hx
      obtain ⟨i, hi, rfl⟩ := List.mem_iff_getElem.mp hx
      rw [List.length_zip] at hi
      have := in_nonneg fo.nn h.base (p := i) (by omega)
      rw [gap_get bl fo.bl, List.getD_eq_getElem?_getD, List.getD_eq_getElem?_getD, List.getElem?_eq_getElem (by omega), List.getElem?_eq_getElem (by omega)] at this
      simp only [Option.getD_some] at this
      rw [List.getElem_zip]
      simp
      omega
    rw [this]
    rfl
end Sq
/-! ## P23n -/
namespace Ws
open PySem PySem.Spec PyProof.Rows L2 RZ
local macro_rules | `(tactic| walk_at "nf") => `(tactic| dsimp only [tNext, tSeq, tDrop, tRet, tRetN, tIfS, tAsg, gName, gTup, gCons, gNil, tVar, tC, tOp, tUn, rI, rI0, rU, rEq, rNe, tTest, tChain, tAnd, tOr, tNot, tAndV, tOrV, tNotV, tIf, tCB, tCKw, tCons, tNil, tTup, tLst, tCa, tCallS, tB, rIxT, rIxL, rIxS, cxOf, Cx.nox, Cx.wish, Cx.blk, L2.start, tPar, tPar3, tNever, tYes, tBits, tRz, tBM, rAppend, tyV, tXf, suiteEnds, gSub, rSetL, tBreak, rMax, tDGet, sDPut, tSl, tNoPart, tPart, tDisp, tPairs, tDGet2, tDNewK, tAugS, ipI, rGetL, tDIn, tDNotIn, tBM0, rPop])
local macro_rules | `(tactic| walk_at "sx") => `(tactic| simp only [wipe, List.cons.injEq, and_assoc, exists_and_left, and_true, List.map_cons, List.map_nil, List.length_cons, List.length_nil, List.cons_append, List.nil_append, List.append_nil, Nat.reduceAdd, Nat.reduceSub, List.replicate, List.getElem?_cons_zero, List.getElem?_cons_succ, List.set_cons_zero, List.set_cons_succ, Option.some.injEq, V.int.injEq, V.bl.injEq, V.ref.injEq, V.str.injEq, exists_eq_left', exists_eq_left, true_and, Bool.true_eq_false, Bool.false_eq_true, if_true, if_false])

def tNeverS : TS := fun _ _ _ => False
theorem pss_never {X : Cx} {ss : List Stmt} : PSs X ss tNeverS := ⟨fun _ _ _ _ _ _ h => h.elim⟩
def spTie (K : PySem.W.Frag) : Sp := fun vs H Q _ => ∃ (n m : Nat) (pv : V) (pers : List Sq.Row) (q : Sq.Sqr), vs = [.int (m : Nat), pv] ∧ Dp K H pv (.tuple (pers.map intsD)) ∧ RowsP n m pers ∧ n ≤ 3 ∧ m ≤ 4 ∧ Sq.sqOf m pers = some q ∧ ∀ H', Same H H' → Q .non H'
def spInside (K : PySem.W.Frag) : Sp := fun vs H Q _ => ∃ (lv ov sv : V) (m n k : Nat) (l o : Ln) (q : Sq.Sqr), vs = [lv, ov, sv] ∧ Dp K H lv (lineD l) ∧ Dp K H ov (lineD o) ∧ Dp K H sv (sqD (some q)) ∧ LnOk m n o.1 o.2 ∧ LnOk m k l.1 l.2 ∧ Sq.QB m o.2 q ∧ ∀ H', Same H H' → Q (.bl (Sq.insB m l o q)) H'
abbrev s_tie_of : Stmt := top 40
abbrev nm_tie_of : List Str := ["many", "periods", "count", "_", "size", "weights", "tie", "common", "number", "each"]
abbrev pr_tie_of : List Str := ["many", "periods"]
theorem sc_tie_of : FnScope nm_tie_of pr_tie_of (defScope s_tie_of) := ⟨rfl, rfl, rfl, by decide +kernel, rfl, by decide +kernel, by decide +kernel⟩
abbrev s_is_inside : Stmt := top 45
abbrev nm_is_inside : List Str := ["line", "other", "square", "base", "periods", "level", "period", "number", "less", "_"]
abbrev pr_is_inside : List Str := ["line", "other", "square"]
theorem sc_is_inside : FnScope nm_is_inside pr_is_inside (defScope s_is_inside) := ⟨rfl, rfl, rfl, by decide +kernel, rfl, by decide +kernel, by decide +kernel⟩
section
variable {P : Program} {w : World} {K : PySem.W.Frag} {mg : Str → Option Value} {base : Heap}
theorem zip_anyB : ∀ (xs ys : List Int), ((List.range (min xs.length ys.length)).map fun i => decide (xs.getD i 0 < ys.getD i 0)).any id = (xs.zip ys).any fun x => decide (x.1 < x.2)
  | [], ys => by simp
  | x :: xs, [] => by simp
  | x :: xs, y :: ys => by
    rw [List.length_cons, List.length_cons, Nat.succ_min_succ, List.range_succ_eq_map, List.map_cons, List.map_map, List.any_cons, List.zip_cons_cons, List.any_cons, ← zip_anyB xs ys]
    rfl
theorem opt_non {K : PySem.W.Frag} {H : Hp} {u : V} {x : Option (List Int)} (h : Dp K H u (optD x)) : decide (u = V.non) = x.isNone := by
  cases x with
  | none =>
    cases h
    rfl
  | some t =>
    obtain ⟨c, rfl, _⟩ := Dp.ints_tup (show Dp K H u (intsD t) from h)
    exact decide_eq_false fun z => by cases z
theorem ok_tie (B : Bl mg) (F1 : Df P w K mg base CX0 9 "square_of" pr_square_of (spSq K)) (F2 : Df P w K mg base CX0 1 "weighed" pr_weighed (spWeighed K)) (D : Dt K mg "tie_of" s_tie_of pr_tie_of) :
    Df P w K mg base CX0 10 "tie_of" pr_tie_of (spTie K) := by
  refine D.ok sc_tie_of (fun vs H Q E h => ?_) (fun f cdv A outer s H vs Q E hr h => ?_)
  · obtain ⟨n, m, pvv, pers, q, rfl, _⟩ := h
    rfl
  · obtain ⟨n, m, pvv, pers, q, rfl, hp, ro, n3, m4, hq, k⟩ := h
    refine ⟨_, (pss_cons (ps_if (pt_cmpR op_notN (pe_f F1 (hr.mono (by decide)) pass0 (pa_cons (pv 0) (pa_cons (pv 1) pa_nil))) pe_non (nomark _)) (pss_one (ps_ret pe_non)) pss_nil) pss_never), ?_⟩
    dsimp only [cxOf, Cx.nox, L2.start]
    refine sq_if0 ⟨_, rfl, _, rfl, n, m, pvv, pers, rfl, hp, ro, n3, m4, fun H1 u e1 hu => ⟨rfl, _, rfl, ?_⟩⟩
    have hu := hu.dp
    rw [hq] at hu
    obtain ⟨c, u1, u2, rfl, _⟩ := sq_v hu
    rw [decide_eq_false (fun z => by cases z)]
    exact iteT (k _ e1)
theorem ok_inside (B : Bl mg) (F1 : Df P w K mg base CX0 3 "turns_of" pr_turns_of (spTurnsOf K)) (D : Dt K mg "is_inside" s_is_inside pr_is_inside) :
    Df P w K mg base CX0 4 "is_inside" pr_is_inside (spInside K) := by
  refine D.ok sc_is_inside (fun vs H Q E h => ?_) (fun f cdv A outer s H vs Q E hr h => ?_)
  · obtain ⟨lv, ov, sv, m, n, kk, l, o, q, rfl, _⟩ := h
    rfl
  · obtain ⟨lv, ov, sv, m, n, kk, l, o, q, rfl, hl, ho, hs, lo, ll, qb, k⟩ := h
    refine ⟨_, (pss_cons (ps_asg (pv 1) (pg_tup rfl (pgs_cons (pg_name (i := 3) sc_is_inside.nd rfl (Or.inl rfl)) (pgs_cons (pg_name (i := 4) sc_is_inside.nd rfl (Or.inl rfl)) pgs_nil)))) (pss_cons (ps_if (PW.pt (pw_or (pt_val (pe_callB (cr_any rfl) (by rfl) B.any boot_any (pa_cons (pe_lc (own := [("number", 7), ("less", 8)]) (g := gTup K 2 (gCons (gName 7) (gCons (gName 8) gNil))) (tt := tYes) (by rfl) sc_is_inside.nd (pi_zipA (by rfl) B.zip (pa_cons (pe_ix ix_tup (pv 0) pe_int (fun _ _ => rfl)) (pa_cons (pv 3) pa_nil))) (blkOk_by (own := [("number", 7), ("less", 8)]) (N := nm_is_inside) (sc := defScope s_is_inside) (by decide +kernel)) (fun _ _ _ _ _ => pg_tup rfl (pgs_cons (pg_name (i := 7) sc_is_inside.nd rfl (Or.inl rfl)) (pgs_cons (pg_name (i := 8) sc_is_inside.nd rfl (Or.inl rfl)) pgs_nil))) (fun _ _ _ _ _ => pts_nil) (fun _ _ _ _ _ => (pe_cmpR op_lt (pv 7) (pv 8) (nomark _)))) pa_nil))) (pw_or1 (pt_cmpR op_isN (pe_f F1 (hr.mono (by decide)) pass0 (pa_cons (pv 1) (pa_cons (pv 2) (pa_cons (pe_ix ix_tup (pv 0) pe_int (fun _ _ => rfl)) pa_nil)))) pe_non (nomark _))))) (pss_one (ps_ret pe_bl)) pss_nil) (pss_cons (ps_set (i := 5) sc_is_inside.nd rfl (Or.inr rfl) (pe_tup (pa_cons (pe_callTy call_tuple_of (by rfl) B.tuple PyProof.Rows.boot_tuple (pa_cons (pe_lc (own := [("_", 9)]) (g := gName 9) (tt := tYes) (by rfl) sc_is_inside.nd (pi_tup (pv 3)) (blkOk_by (own := [("_", 9)]) (N := nm_is_inside) (sc := defScope s_is_inside) (by decide +kernel)) (fun _ _ _ _ _ => pg_name (i := 9) sc_is_inside.nd rfl (Or.inl rfl)) (fun _ _ _ _ _ => pts_nil) (fun _ _ _ _ _ => pe_int)) pa_nil)) (pa_cons (pv 4) pa_nil)))) (pss_one (ps_ret (pe_callB (cr_all rfl) (by rfl) B.all boot_all (pa_cons (pe_lc (own := [("period", 6)]) (g := gName 6) (tt := tYes) (te := tOp (fun x y H Q => y = V.non ∧ Q (V.bl (!decide (x = V.non))) H) (tCa (spTurnsOf K) E0 (tCons (tVar 5) (tCons (tVar 2) (tCons (tVar 6) tNil)))) (tC V.non)) (by rfl) sc_is_inside.nd (pi_tup (pe_ix ix_tup (pv 0) pe_int (fun _ _ => rfl))) (blkOk_by (own := [("period", 6)]) (N := nm_is_inside) (sc := defScope s_is_inside) (by decide +kernel)) (fun _ _ _ _ _ => pg_name (i := 6) sc_is_inside.nd rfl (Or.inl rfl)) (fun _ _ _ _ _ => pts_nil) (fun _ _ _ _ _ => (pe_cmpR op_notN (pe_f F1 (hr.mono (by decide)) pass0 (pa_cons (pv 5) (pa_cons (pv 2) (pa_cons (pv 6) pa_nil)))) pe_non (nomark _)))) pa_nil))))))), ?_⟩
    dsimp only [cxOf, Cx.nox, L2.start]
    obtain ⟨p, b1, u1, rfl, hp, hb1, hu1⟩ := ln_v hl
    obtain ⟨p', b1', u1', rfl, hp', hb1', hu1'⟩ := ln_v ho
    obtain ⟨lb, rfl, hlb⟩ := hb1.ints_tup
    obtain ⟨ob, rfl, hob⟩ := hb1'.ints_tup
    obtain ⟨pb, zs, rfl, hz, hzl, hzat, _⟩ := tup_view hu1
    have m4 := lo.m4
    have n3 := lo.n3
    have lbl := ll.bl
    have obl := lo.bl
    have kn : l.2.length ≤ 3 := by have := ll.po.1; have := ll.n3; omega
    refine sq_as ⟨_, rfl, p', _, rfl, hp', rfl, _, _, rfl, _, _, rfl, rfl, ?_⟩
    refine sq_if0 ⟨_, rfl, p, _, 0, _, rfl, rfl, hp, rfl, _, rfl, lb, ob, _, _, rfl, .inr ⟨hlb, hob, fun D hD => lcS walk_zipT hD (by simp only [List.length_map]; exact slt (by omega)) (fun i y => y = .bl (decide (l.1.getD i 0 < o.1.getD i 0))) (fun H1 e => ⟨e.seqT hlb, e.seqT hob⟩) (fun i x H1 H2 Q1 hi e y q1 => ?_) (fun H1 ys e hD1 hn hr1 => ?_)⟩⟩
    · obtain ⟨T, x1, x2, rfl, hT, rfl, h1, h2⟩ := y
      obtain ⟨rfl, rfl, m1, m2⟩ := pair_at hi h1 h2
      have e2 := Same.new (o := HO.tup [V.int (l.1.getD i 0), V.int (o.1.getD i 0)]) hT
      exact ⟨T, _, rfl, .of upd_same, rfl, _, _, rfl, _, _, rfl, rfl, rfl, _, rfl, _, rfl, _, _, rfl, rfl, q1 _ _ rfl e2⟩
    · have ev := vals_bl (f := fun i => decide (l.1.getD i 0 < o.1.getD i 0)) hn hr1
      simp only [List.length_map] at ev
      subst ev
      refine ⟨D, _, rfl, .of hD1, ?_⟩
      have ez := zip_anyB l.1 o.1
      refine ⟨_, rfl, ?_⟩
      rw [ez]
      have k1 := fun H' (h : Same H H') => k H' h
      unfold Sq.insB at k1
      cases c1 : (l.1.zip o.1).any fun x => decide (x.1 < x.2) with
      | true =>
        rw [c1] at k1
        exact iteT (iteT (k1 _ e))
      | false =>
        rw [c1] at k1
        have hl1 := hl.to e
        refine iteF ⟨_, rfl, _, rfl, _, rfl, p, _, 0, _, rfl, rfl, e.seqT hp, rfl, _, sv, .ref lb, m, n, o.1, o.2, q, l.1, rfl, ho.to e, hs.to e, hb1.to e, lo, qb, lbl, fun x hx => (by have := ll.bb x hx; omega), fun H2 u e2 hu => ⟨rfl, _, rfl, ?_⟩⟩
        rw [opt_non hu]
        have e02 := e.trans e2
        cases c2 : Sq.turnsOf o.1 o.2 q l.1 with
        | none =>
          rw [c2] at k1
          exact iteT (k1 _ e02)
        | some ts =>
          rw [c2] at k1
          dsimp only [Option.isNone]
          refine iteF ?_
          have hob2 := e02.seqT hob
          refine sq_go ⟨_, rfl, ob, rfl, ⟨_, hob2⟩, fun D2 hD2 => lcS walk_tup hD2 (by rw [List.length_map]; exact slt (by omega)) (fun i y => y = .int 0) (fun H1 e => e.seqT hob2) (fun i x H3 H4 Q1 hi e y q1 => ?_) (fun H3 ys3 e3 hy3 hn3 hr3 => ?_)⟩
          · obtain ⟨rfl, hx⟩ := y
            exact ⟨rfl, q1 _ _ rfl (Same.refl _)⟩
          · have ev := vals_int (f := fun _ => 0) hn3 hr3
            have ev2 : ys3 = (List.replicate m (0 : Int)).map V.int := by
              rw [ev, List.length_map, obl]
              congr 1
              refine List.ext_getElem (by simp) fun i h1 h2 => by simp
            subst ev2
            refine ⟨D2, _, rfl, .inl ⟨.of hy3, fun t ht => ⟨_, rfl, Nat.le_of_ble_eq_true rfl, fun tt htt => ?_⟩⟩⟩
            have n1 := Same.new (o := HO.tup ((List.replicate m (0 : Int)).map V.int)) ht
            have dt : Dp K (upd H3 t (HO.tup ((List.replicate m (0 : Int)).map V.int))) (.ref t) (intsD (List.replicate m 0)) := Dp.tup_ints (.of upd_same)
            have n2 := Same.new (o := HO.tup [V.ref t, u1']) htt
            have e05 := (e02.trans e3).trans (n1.trans n2)
            have dl : Dp K (upd (upd H3 t (HO.tup ((List.replicate m (0 : Int)).map V.int))) tt (HO.tup [V.ref t, u1'])) (.ref tt) (lnD (List.replicate m 0) o.2) := .tup (.of upd_same) (.cons (dt.to n2) (.cons (hu1'.to e05) .nil))
            generalize (upd (upd H3 t (HO.tup ((List.replicate m (0 : Int)).map V.int))) tt (HO.tup [V.ref t, u1'])) = H5 at *
            have lz : LnOk m n (List.replicate m 0) o.2 := ⟨List.length_replicate, fun x hx => (by rw [(List.mem_replicate.mp hx).2]; decide), lo.po, lo.pb, lo.n3, lo.m4⟩
            have hz5 := e05.seqT hz
            refine ⟨_, rfl, p, _, 1, _, rfl, rfl, e05.seqT hp, rfl, pb, rfl, ⟨_, hz5⟩, fun D6 hD6 => lcS walk_tup hD6 (by rw [hzl]; exact slt (by omega)) (fun j y => y = .bl (Sq.turnsOf (List.replicate m 0) o.2 q (l.2.getD j [])).isSome) (fun H e => e.seqT hz5) (fun j x H6 H7 Q1 hj e y q1 => ?_) (fun H6 ys6 e6 hy6 hn6 hr6 => ?_)⟩
            · obtain ⟨rfl, hx⟩ := y
              obtain ⟨pe, hpe, hdpe⟩ := hzat j x hx
              have epe : l.2.getD j [] = pe := by rw [List.getD_eq_getElem?_getD, hpe]; rfl
              rw [epe] at q1
              have pm := List.mem_of_getElem? hpe
              refine ⟨rfl, _, rfl, _, rfl, _, rfl, .ref tt, sv, x, m, n, List.replicate m 0, o.2, q, pe, rfl, dl.to e, hs.to (e05.trans e), hdpe.to (e05.trans e), lz, qb, (ll.po.2 pe pm).1, fun y hy => (by have := ll.pb pe pm y hy; omega), fun H8 u8 e8 hu8 => ⟨rfl, ?_⟩⟩
              rw [opt_non hu8]
              have : (!(Sq.turnsOf (List.replicate m 0) o.2 q pe).isNone) = (Sq.turnsOf (List.replicate m 0) o.2 q pe).isSome := by cases Sq.turnsOf (List.replicate m 0) o.2 q pe <;> rfl
              rw [this]
              exact q1 _ _ rfl e8
            · have ev := vals_bl (f := fun j => (Sq.turnsOf (List.replicate m 0) o.2 q (l.2.getD j [])).isSome) hn6 hr6
              rw [hzl] at ev
              have e10 : (List.range l.2.length).map (fun j => (Sq.turnsOf (List.replicate m 0) o.2 q (l.2.getD j [])).isSome) = l.2.map fun p => (Sq.turnsOf (List.replicate m 0) o.2 q p).isSome := by_places l.2 [] (fun p => (Sq.turnsOf (List.replicate m 0) o.2 q p).isSome)
              rw [e10] at ev
              subst ev
              refine ⟨D6, _, rfl, .of hy6, ?_⟩
              have := k1 H6 (e05.trans e6)
              rw [List.all_map]
              exact this
end
end Ws
/-! ## P23o -/
namespace Ws
open PySem PySem.Spec PyProof.Rows L2 RZ
local macro_rules | `(tactic| walk_at "nf") => `(tactic| dsimp only [tNext, tSeq, tDrop, tRet, tRetN, tIfS, tAsg, gName, gTup, gCons, gNil, tVar, tC, tOp, tUn, rI, rI0, rU, rEq, rNe, tTest, tChain, tAnd, tOr, tNot, tAndV, tOrV, tNotV, tIf, tCB, tCKw, tCons, tNil, tTup, tLst, tCa, tCallS, tB, rIxT, rIxL, rIxS, cxOf, Cx.nox, Cx.wish, Cx.blk, L2.start, tPar, tPar3, tNever, tYes, tBits, tRz, tBM, rAppend, tyV, tXf, suiteEnds, gSub, rSetL, tBreak, rMax, tDGet, sDPut, tSl, tNoPart, tPart, tDisp, tPairs, tDGet2, tDNewK, tAugS, ipI, rGetL, tDIn, tDNotIn, tBM0, rPop])
local macro_rules | `(tactic| walk_at "sx") => `(tactic| simp only [wipe, List.cons.injEq, and_assoc, exists_and_left, and_true, List.map_cons, List.map_nil, List.length_cons, List.length_nil, List.cons_append, List.nil_append, List.append_nil, Nat.reduceAdd, Nat.reduceSub, List.replicate, List.getElem?_cons_zero, List.getElem?_cons_succ, List.set_cons_zero, List.set_cons_succ, Option.some.injEq, V.int.injEq, V.bl.injEq, V.ref.injEq, V.str.injEq, exists_eq_left', exists_eq_left, true_and, Bool.true_eq_false, Bool.false_eq_true, if_true, if_false])

def insAt (m : Nat) (ls : List Ln) (i j : Nat) : Bool := match sqAtL m ls j with
  | some q => Sq.insB m (lnAt ls i) (lnAt ls j) q
  | none => false
def dropB (m : Nat) (ls : List Ln) (i : Nat) : Bool := (List.range ls.length).any fun j => j != i && insAt m ls i j
def innerIdx (m : Nat) (ls : List Ln) : List Nat := (List.range ls.length).filter (dropB m ls)
structure FrS (m : Nat) (ls : List Ln) : Prop where
  lo : ∀ l ∈ ls, LnOk m l.2.length l.1 l.2
  few : ls.length ≤ 400
  m4 : m ≤ 4
  free : tiedAt m ls = none
def spInner (K : PySem.W.Frag) : Sp := fun vs H Q _ => ∃ (m : Nat) (lv : V) (ls : List Ln), vs = [.int (m : Nat), lv] ∧ Dp K H lv (.tuple (ls.map lineD)) ∧ FrS m ls ∧ ∀ H' u, Same H H' → Dp K H' u (.list ((innerIdx m ls).map fun (i : Nat) => PyData.int (i : Nat))) → Q u H'
def keptL (m : Nat) (ls : List Ln) : List Ln := ((List.range ls.length).filter fun i => !dropB m ls i).map (lnAt ls)
def spPut (K : PySem.W.Frag) : Sp := fun vs H Q _ => ∃ (v : V) (m : Nat) (ls : List Ln), vs = [v] ∧ Dp K H v (setD m ls) ∧ FrS m ls ∧ ∀ H' u, Same H H' → Dp K H' u (setD m (keptL m ls)) → Q u H'
abbrev s_inner_lines : Stmt := top 46
abbrev nm_inner_lines : List Str := ["many", "lines", "squares", "found", "at", "line", "_", "periods", "number", "other"]
abbrev pr_inner_lines : List Str := ["many", "lines"]
theorem sc_inner_lines : FnScope nm_inner_lines pr_inner_lines (defScope s_inner_lines) := ⟨rfl, rfl, rfl, by decide +kernel, rfl, by decide +kernel, by decide +kernel⟩
theorem range_filt_take {n i : Nat} (p : Nat → Bool) (hi : i < n) : ((List.range (i + 1)).filter p) = ((List.range i).filter p) ++ (if p i = true then [i] else []) := by
  rw [List.range_succ, List.filter_append]
  congr 1
  cases h : p i <;> simp [h]
theorem noList_intsL (ps : List Sq.Row) : noListAll (ps.map intsD) = true := noListAll_of fun x hx => by
  obtain ⟨r, _, rfl⟩ := List.mem_map.mp hx
  exact noList_ints r
theorem noList_ln (l : Ln) : noList (lineD l) = true := noListAll_of fun x hx => by
  rcases List.mem_cons.mp hx with rfl | hx
  · exact noList_ints _
  · obtain rfl := List.mem_singleton.mp hx
    exact noList_intsL _
theorem noList_lns (ls : List Ln) : noListAll (ls.map lineD) = true := noListAll_of fun x hx => by
  obtain ⟨l, _, rfl⟩ := List.mem_map.mp hx
  exact noList_ln l
theorem noList_set (m : Nat) (ls : List Ln) : noList (setD m ls) = true := noListAll_of fun x hx => by
  rcases List.mem_cons.mp hx with rfl | hx
  · rfl
  · obtain rfl := List.mem_singleton.mp hx
    exact noList_lns _
theorem sq_wh0 {c : TT} {tb u : TS} {D : Ends} {σ : L2.St} {H : Hp} (h : c σ H fun b H1 => if b = true then ∃ N : L2.St → Hp → Prop, (∀ σ' H', N σ' H' → ∃ m', m' < 0 ∧ (m' = 0 ∧ σ' = σ ∧ H' = H)) ∧ tb { D with nx := N, ct := N, bk := fun σ H => u D σ H } σ H1 else u D σ H1) : tSeq (tWhile c tb) u D σ H :=
  ⟨fun n σ' H' => n = 0 ∧ σ' = σ ∧ H' = H, ⟨0, rfl, rfl, rfl⟩, fun m σ' H' w => by
    obtain ⟨rfl, rfl, rfl⟩ := w
    exact h⟩
theorem not_within {m : Nat} {ls : List Ln} {i : Nat} (hi : i < ls.length) : (!((innerIdx m ls).map fun (j : Nat) => PyData.int (j : Nat)).any fun z => PyData.eqv z (.int (i : Nat))) = !dropB m ls i := by
  congr 1
  rw [Bool.eq_iff_iff, List.any_map, List.any_eq_true]
  constructor
  · rintro ⟨j, hj, he⟩
    have hj2 := List.mem_filter.mp hj
    have : (j : Int) = (i : Int) := by
      have he : PyData.eqv (.int (j : Nat)) (.int (i : Nat)) = true := he
      simpa [PyData.eqv] using he
    have : j = i := by omega
    rw [← this]
    exact hj2.2
  · intro h
    exact ⟨i, List.mem_filter.mpr ⟨List.mem_range.mpr hi, h⟩, by show PyData.eqv (.int (i : Nat)) (.int (i : Nat)) = true; simp [PyData.eqv]⟩
section
variable {P : Program} {w : World} {K : PySem.W.Frag} {mg : Str → Option Value} {base : Heap}
theorem ok_inner (B : Bl mg) (F1 : Df P w K mg base CX0 9 "square_of" pr_square_of (spSq K)) (F2 : Df P w K mg base CX0 4 "is_inside" pr_is_inside (spInside K)) (D : Dt K mg "inner_lines" s_inner_lines pr_inner_lines) :
    Df P w K mg base CX0 10 "inner_lines" pr_inner_lines (spInner K) := by
  refine D.ok sc_inner_lines (fun vs H Q E h => ?_) (fun f cdv A outer s H vs Q E hr h => ?_)
  · obtain ⟨m, lv, ls, rfl, _⟩ := h
    rfl
  · obtain ⟨m, lv, ls, rfl, hl, fr, k⟩ := h
    refine ⟨_, (pss_cons (ps_set (i := 2) sc_inner_lines.nd rfl (Or.inr rfl) (pe_lc (own := [("_", 6), ("periods", 7)]) (g := gTup K 2 (gCons (gName 6) (gCons (gName 7) gNil))) (tt := tYes) (te := tCa (spSq K) E0 (tCons (tVar 0) (tCons (tVar 7) tNil))) (by rfl) sc_inner_lines.nd (pi_tup (pv 1)) (blkOk_by (own := [("_", 6), ("periods", 7)]) (N := nm_inner_lines) (sc := defScope s_inner_lines) (by decide +kernel)) (fun _ _ _ _ _ => pg_tup rfl (pgs_cons (pg_name (i := 6) sc_inner_lines.nd rfl (Or.inl rfl)) (pgs_cons (pg_name (i := 7) sc_inner_lines.nd rfl (Or.inl rfl)) pgs_nil))) (fun _ _ _ _ _ => pts_nil) (fun _ _ _ _ _ => (pe_f F1 (hr.mono (by decide)) pass0 (pa_cons (pv 0) (pa_cons (pv 7) pa_nil)))))) (pss_cons (ps_set (i := 3) sc_inner_lines.nd rfl (Or.inl rfl) (pe_lst pa_nil)) (pss_cons (ps_for PassesOwn.never rfl (pi_enumT (by rfl) B.enumerate (pa_cons (pv 1) pa_nil)) (pg_tup rfl (pgs_cons (pg_name (i := 4) sc_inner_lines.nd rfl (Or.inr rfl)) (pgs_cons (pg_name (i := 5) sc_inner_lines.nd rfl (Or.inr rfl)) pgs_nil))) (pss_one (ps_if (pt_val (pe_callB (cr_any rfl) (by rfl) B.any boot_any (pa_cons (pe_lc (own := [("number", 8), ("other", 9)]) (g := gTup K 2 (gCons (gName 8) (gCons (gName 9) gNil))) (tt := _) (te := tCa (spInside K) E0 (tCons (tVar 5) (tCons (tVar 9) (tCons (tOp (rIxL K) (tVar 2) (tVar 8)) tNil)))) (by rfl) sc_inner_lines.nd (pi_enumT (by rfl) B.enumerate (pa_cons (pv 1) pa_nil)) (blkOk_by (own := [("number", 8), ("other", 9)]) (N := nm_inner_lines) (sc := defScope s_inner_lines) (by decide +kernel)) (fun _ _ _ _ _ => pg_tup rfl (pgs_cons (pg_name (i := 8) sc_inner_lines.nd rfl (Or.inl rfl)) (pgs_cons (pg_name (i := 9) sc_inner_lines.nd rfl (Or.inl rfl)) pgs_nil))) (fun _ _ _ _ _ => (pts_one (pt_cmpR op_ne (pv 8) (pv 4) (nomark _)))) (fun _ _ _ _ _ => (pe_f F2 (hr.mono (by decide)) pass0 (pa_cons (pv 5) (pa_cons (pv 9) (pa_cons (pe_ix (show IxR _ (rIxL K) from ix_list) (pv 2) (pv 8) (fun _ _ => rfl)) pa_nil)))))) pa_nil))) (pss_one (ps_expr (pe_bm PySem.F.plainAttrs_list PySem.F.slot_list_append PySem.F.type_list_append mt_append (pv 3) (pa_cons (pv 4) pa_nil)))) pss_nil))) (pss_one (ps_ret (pv 3)))))), ?_⟩
    dsimp only [cxOf, Cx.nox, L2.start]
    obtain ⟨b, zs, rfl, hz, hzl, hzat, _⟩ := tup_view hl
    have few := fr.few
    have m4 := fr.m4
    refine sq_go ⟨_, rfl, b, rfl, ⟨zs, hz⟩, fun D hD => lcL (K := K) (walk_tup (K := K) (a := b) (xs := zs)) hD (by rw [hzl]; exact slt (by omega)) (fun i => sqD (sqAtL m ls i)) (fun H e => e.seqT hz) (fun i x H2 H3 Q1 hi e hDn y q1 => ?_) (fun H2 ys e hy hn2 ha => ?_)⟩
    · obtain ⟨rfl, hx⟩ := y
      obtain ⟨l, hl', hdl⟩ := hzat i x hx
      obtain ⟨lb, lp⟩ := l
      obtain ⟨p, b1, u1, rfl, hp, hb1, hu1⟩ := ln_v (hdl.to e)
      have lo := fr.lo _ (List.mem_of_getElem? hl')
      have esq : sqAtL m ls i = Sq.sqOf m lp := by unfold sqAtL; rw [List.getD_eq_getElem?_getD, hl']; rfl
      rw [esq] at q1
      exact ⟨_, _, rfl, hp, rfl, _, _, rfl, _, _, rfl, rfl, rfl, _, rfl, _, rfl, lp.length, m, u1, lp, rfl, hu1, lo.po, lo.n3, lo.m4, fun H4 w4 e4 hw4 => q1 _ _ e4 hw4⟩
    rw [hzl] at ha hn2
    have hz2 := e.seqT hz
    refine sq_go ⟨Nat.zero_le _, fun F hF => ?_⟩
    have n3 := Same.new (o := HO.lst []) hF
    have hFz : H F = none := by
      cases z : H F with
      | none => rfl
      | some o => rw [e _ _ z] at hF; cases hF
    have hF3 : (upd H2 F (HO.lst [])) F = some (.lst []) := upd_same
    have hD3 : SqL K (upd H2 F (HO.lst [])) D ys := n3.seq (.of hy)
    have ha3 := DpAll.to ha n3
    have e3 := e.trans n3
    have nDF : D ≠ F := ne_of_none hy hF
    have keep : ∀ {H' : Hp}, Same H2 H' → ∀ o, Same H2 (upd H' F o) := fun s o => s.mut hF
    dsimp only
    have hD2 : SqL K H2 D ys := .of hy
    have hl2 : ∀ (i : Nat) (z : V), zs[i]? = some z → ∃ x, ls[i]? = some x ∧ Dp K H2 z (lineD x) := fun i z h => by
      obtain ⟨x, h1, h2⟩ := hzat i z h
      exact ⟨x, h1, h2.to e⟩
    refine sq_fr ⟨_, rfl, b, zs, rfl, n3.seqT hz2, for_it walk_enumT (fun i σ H' => Same H2 H' ∧ H' F = some (.lst ((((List.range i).filter (dropB m ls)).map fun (j : Nat) => (j : Int)).map V.int)) ∧ ∃ v4 v5 : Option V, σ = [some (V.int (m : Nat)), some (.ref b), some (.ref D), some (.ref F), v4, v5, none, none, none, none]) ⟨n3, hF3, _, _, rfl⟩ (fun i σ H' _ p => p.1.seqT hz2) (fun i x σ Hz H4 hi py y => ?_) (fun σ H4 py => ?_)⟩
    · obtain ⟨s4, hF4, v4, v5, rfl⟩ := py
      obtain ⟨T, x1, x2, rfl, hT, hH4, g1, g2⟩ := y
      obtain rfl : V.int (i : Nat) = x1 := Option.some.inj g1
      subst hH4
      have eT := Same.new (o := HO.tup [V.int (i : Nat), x2]) hT
      have s5 := s4.trans eT
      have hF5 := eT _ _ hF4
      have hT5 : SqT K (upd Hz T (HO.tup [V.int (i : Nat), x2])) T [V.int (i : Nat), x2] := .of upd_same
      generalize upd Hz T (HO.tup [V.int (i : Nat), x2]) = H5 at *
      have hi2 : i < ls.length := by omega
      obtain ⟨li, hli, hdi⟩ := hl2 i x2 g2
      have eli : lnAt ls i = li := by unfold lnAt; rw [List.getD_eq_getElem?_getD, hli]; rfl
      refine ⟨T, _, rfl, hT5, rfl, _, _, rfl, _, _, rfl, rfl, ?_⟩
      have hz5 := s5.seqT hz2
      refine ⟨_, rfl, b, zs, rfl, hz5, fun D6 hD6 => lcF (walk_enumT (K := K) (a := b) (xs := zs)) hD6 (by rw [hzl]; exact slt (by omega)) (fun j => j != i) (fun j y H => y = .bl (insAt m ls i j)) (fun i y H H' e n q => q) (fun H e => e.seqT hz5) (fun j x H6 H7 Q1 Q0 hj e6 y q1 q0 => ?_) (fun H6 ys6 e6 hy6 g6 => ?_)⟩
      · obtain ⟨U, y1, y2, rfl, hU, rfl, g3, g4⟩ := y
        obtain rfl : V.int (j : Nat) = y1 := Option.some.inj g3
        have eU := Same.new (o := HO.tup [V.int (j : Nat), y2]) hU
        have s7 := (s5.trans e6).trans eU
        have hj2 : j < ls.length := by omega
        obtain ⟨lj, hlj, hdj⟩ := hl2 j y2 g4
        have elj : lnAt ls j = lj := by unfold lnAt; rw [List.getD_eq_getElem?_getD, hlj]; rfl
        refine ⟨U, _, rfl, .of upd_same, rfl, _, _, rfl, _, _, rfl, rfl, rfl, _, rfl, _, rfl, rfl, _, rfl, ?_⟩
        by_cases c : j = i
        · rw [decide_eq_true (show V.int (j : Nat) = V.int (i : Nat) by rw [c])]
          exact iteF (q0 (by rw [c]; simp) _ eU)
        · rw [decide_eq_false (show ¬ V.int (j : Nat) = V.int (i : Nat) from fun z => c (by have := V.int.inj z; omega))]
          obtain ⟨q, eq⟩ := free_some fr.free hj2
          obtain ⟨sv, hsv1, hsv2⟩ : ∃ sv, ys[j]? = some sv ∧ Dp K H2 sv (sqD (some q)) := by
            obtain ⟨sv, hsv⟩ : ∃ sv, ys[j]? = some sv := ⟨_, List.getElem?_eq_getElem (by omega)⟩
            obtain ⟨d2, hd1, hd2⟩ := ha.getV hsv
            rw [List.getElem?_map, List.getElem?_range hj2] at hd1
            obtain rfl := Option.some.inj hd1
            have hd2 : Dp K H2 sv (sqD (sqAtL m ls j)) := hd2
            rw [eq] at hd2
            exact ⟨sv, hsv, hd2⟩
          have loi := fr.lo _ (List.mem_of_getElem? hli)
          have loj := fr.lo _ (List.mem_of_getElem? hlj)
          have qb := Sq.qb_of (show Sq.sqOf m (lnAt ls j).2 = some q from eq) (by rw [elj]; exact loj.pb) (by rw [elj]; exact loj.n3)
          have ei : insAt m ls i j = Sq.insB m li lj q := by unfold insAt; rw [eq, eli, elj]
          rw [ei] at q1
          rw [elj] at qb
          exact iteT ⟨_, rfl, _, rfl, _, rfl, _, rfl, D, ys, _, sv, rfl, rfl, s7.seq hD2, atI_nat hsv1, x2, y2, sv, m, _, _, li, lj, q, rfl, hdi.to s7, hdj.to s7, hsv2.to s7, loj, loi, qb, fun H8 e8 => q1 (by simpa using c) _ _ rfl (eU.trans e8)⟩
      · have ev := g6.vals (fun j => V.bl (insAt m ls i j)) (fun i y h => h)
        rw [hzl] at ev
        have ev2 : ys6 = (((List.range ls.length).filter fun j => j != i).map (insAt m ls i)).map V.bl := by rw [ev, List.map_map]; rfl
        subst ev2
        refine ⟨D6, _, rfl, .of hy6, _, rfl, ?_⟩
        have hdr : ((((List.range ls.length).filter fun j => j != i).map (insAt m ls i)).any id) = dropB m ls i := by
          rw [List.any_map, List.any_filter]
          rfl
        rw [hdr]
        have s6 := s5.trans e6
        have hF6 := e6 _ _ hF5
        cases c : dropB m ls i with
        | false =>
          refine iteF ⟨s6, ?_, _, _, rfl⟩
          rw [range_filt_take _ hi2, c, if_neg Bool.false_ne_true, List.append_nil]
          exact hF6
        | true =>
          refine iteT ⟨_, rfl, .inl ⟨rfl, _, .of hF6⟩, _, rfl, F, _, _, rfl, rfl, hF6, slt ?_, keep s6 _, ?_, _, _, rfl⟩
          · rw [List.length_map, List.length_map]
            have := List.length_filter_le (dropB m ls) (List.range i)
            rw [List.length_range] at this
            omega
          · rw [upd_same, range_filt_take _ hi2, c, if_pos rfl, List.map_append, List.map_append]
            rfl
    · obtain ⟨s4, hF4, v4, v5, rfl⟩ := py
      rw [hzl] at hF4
      refine ⟨_, rfl, k _ _ (e.trans s4) (.lst (.of hF4) ?_)⟩
      have : (innerIdx m ls).map (fun (i : Nat) => PyData.int (i : Nat)) = ((innerIdx m ls).map fun (i : Nat) => (i : Int)).map PyData.int := by rw [List.map_map]; rfl
      rw [this]
      exact DpAll.ints _
theorem ok_put (B : Bl mg) (F1 : Df P w K mg base CX0 10 "tie_of" pr_tie_of (spTie K)) (F2 : Df P w K mg base CX0 10 "inner_lines" pr_inner_lines (spInner K)) (D : Dt K mg "put_in_order" s_put_in_order pr_put_in_order) :
    Df P w K mg base CX0 11 "put_in_order" pr_put_in_order (spPut K) := by
  refine D.ok sc_put_in_order (fun vs H Q E h => ?_) (fun f cdv A outer s H vs Q E hr h => ?_)
  · obtain ⟨v, m, ls, rfl, _⟩ := h
    rfl
  · obtain ⟨v, m, ls, rfl, hv, fr, k⟩ := h
    refine ⟨_, (pss_cons (ps_asg (pv 0) (pg_tup rfl (pgs_cons (pg_name (i := 1) sc_put_in_order.nd rfl (Or.inr rfl)) (pgs_cons (pg_name (i := 2) sc_put_in_order.nd rfl (Or.inl rfl)) pgs_nil)))) (pss_cons (ps_setLc (i := 3) (own := [("_", 5), ("periods", 6)]) (g := gTup K 2 (gCons (gName 5) (gCons (gName 6) gNil))) (tt := tYes) (te := tCa (spTie K) E0 (tCons (tVar 1) (tCons (tVar 6) tNil))) rfl sc_put_in_order.nd rfl rfl (sw_true rfl rfl rfl (by decide +kernel)) (pi_tup (pv 2)) (blkOk_by (own := [("_", 5), ("periods", 6)]) (N := nm_put_in_order) (sc := defScope s_put_in_order) (by decide +kernel)) (fun _ _ _ _ _ => pg_tup rfl (pgs_cons (pg_name (i := 5) sc_put_in_order.nd rfl (Or.inl rfl)) (pgs_cons (pg_name (i := 6) sc_put_in_order.nd rfl (Or.inl rfl)) pgs_nil))) (fun _ _ _ _ _ => pts_nil) (fun _ _ _ _ _ => (pe_f F1 (hr.mono (by decide)) pass0 (pa_cons (pv 1) (pa_cons (pv 6) pa_nil))))) (pss_cons (ps_while PassesOwn.never (pt_val (pe_callB (cr_any rfl) (by rfl) B.any boot_any (pa_cons (pe_lc (own := [("tie", 7)]) (g := gName 7) (tt := tYes) (by rfl) sc_put_in_order.nd (pi_list (pv 3)) (blkOk_by (own := [("tie", 7)]) (N := nm_put_in_order) (sc := defScope s_put_in_order) (by decide +kernel)) (fun _ _ _ _ _ => pg_name (i := 7) sc_put_in_order.nd rfl (Or.inl rfl)) (fun _ _ _ _ _ => pts_nil) (fun _ _ _ _ _ => (pe_cmpR op_notN (pv 7) pe_non (nomark _)))) pa_nil))) pss_never) (pss_cons (ps_set (i := 4) sc_put_in_order.nd rfl (Or.inr rfl) (pe_f F2 (hr.mono (by decide)) pass0 (pa_cons (pv 1) (pa_cons (pv 2) pa_nil)))) (pss_one (ps_ret (pe_tup (pa_cons (pv 1) (pa_cons (pe_callTy call_tuple_of (by rfl) B.tuple PyProof.Rows.boot_tuple (pa_cons (pe_lc (own := [("at", 8), ("line", 9)]) (g := gTup K 2 (gCons (gName 8) (gCons (gName 9) gNil))) (tt := (tTest (tOp (rNotInD K) (tVar 8) (tVar 4)))) (by rfl) sc_put_in_order.nd (pi_enumT (by rfl) B.enumerate (pa_cons (pv 2) pa_nil)) (blkOk_by (own := [("at", 8), ("line", 9)]) (N := nm_put_in_order) (sc := defScope s_put_in_order) (by decide +kernel)) (fun _ _ _ _ _ => pg_tup rfl (pgs_cons (pg_name (i := 8) sc_put_in_order.nd rfl (Or.inl rfl)) (pgs_cons (pg_name (i := 9) sc_put_in_order.nd rfl (Or.inl rfl)) pgs_nil))) (fun _ _ _ _ _ => (pts_one (pt_cmpR (op_notInD (hu65 hr)) (pv 8) (pv 4) (by rfl)))) (fun _ _ _ _ _ => (pv 9))) pa_nil)) pa_nil))))))))), ?_⟩
    dsimp only [cxOf, Cx.nox, L2.start]
    obtain ⟨p, u, rfl, hp, hu⟩ := set_v hv
    obtain ⟨b, zs, rfl, hz, hzl, hzat, _⟩ := tup_view hu
    have few := fr.few
    have m4 := fr.m4
    refine sq_as ⟨_, rfl, p, _, rfl, hp, rfl, _, _, rfl, _, _, rfl, rfl, ?_⟩
    refine sq_go ⟨_, rfl, b, rfl, ⟨zs, hz⟩, fun D hD => lcS walk_tup hD (by rw [hzl]; exact slt (by omega)) (fun _ y => y = .non) (fun H e => e.seqT hz) (fun i x H2 H3 Q1 hi e y q1 => ?_) (fun H2 ys e hy hn2 hr2 => ?_)⟩
    · obtain ⟨rfl, hx⟩ := y
      obtain ⟨l, hl', hdl⟩ := hzat i x hx
      have hi2 : i < ls.length := by omega
      obtain ⟨q, eq⟩ := free_some fr.free hi2
      have esq : sqAtL m ls i = Sq.sqOf m l.2 := by unfold sqAtL; rw [List.getD_eq_getElem?_getD, hl']; rfl
      rw [esq] at eq
      obtain ⟨p1, b1, u1, rfl, hp1, hb1, hu1⟩ := ln_v (hdl.to e)
      have lo := fr.lo _ (List.mem_of_getElem? hl')
      exact ⟨_, _, rfl, hp1, rfl, _, _, rfl, _, _, rfl, rfl, rfl, _, rfl, _, rfl, l.2.length, m, u1, l.2, q, rfl, hu1, lo.po, lo.n3, lo.m4, eq, fun H4 e4 => q1 _ _ rfl e4⟩
    have hD2 : SqL K H2 D ys := .of hy
    have hall : ∀ (j : Nat) (y : V), ys[j]? = some y → y = .non := hr2
    refine sq_wh0 ⟨_, rfl, D, rfl, ⟨_, hD2⟩, fun D3 hD3 => lcS walk_list hD3 (by rw [hn2, hzl]; exact slt (by omega)) (fun _ y => y = .bl false) (fun H e => e.seq hD2) (fun j x H3 H4 Q1 hj e3 y q1 => ?_) (fun H3 ys3 e3 hy3 hn3 hr3 => ?_)⟩
    · obtain ⟨rfl, hx⟩ := y
      have := hall j x hx
      subst this
      refine ⟨rfl, _, rfl, rfl, ?_⟩
      rw [decide_eq_true rfl]
      exact q1 _ _ rfl (Same.refl _)
    have ev := vals_bl (f := fun _ => false) hn3 hr3
    subst ev
    refine ⟨D3, _, rfl, .of hy3, _, rfl, ?_⟩
    have : (((List.range ys.length).map fun _ => false).any id) = false := by
      rw [List.any_map, List.any_eq_false]
      intro x _
      exact Bool.false_ne_true
    rw [this]
    have e02 := e.trans e3
    refine iteF (sq_go ⟨_, rfl, _, rfl, m, .ref b, ls, rfl, hu.to e02, fr, fun H4 uw e4 huw => ?_⟩)
    have e04 := e02.trans e4
    have hz4 := e04.seqT hz
    refine ⟨_, rfl, _, rfl, b, zs, rfl, hz4, fun D6 hD6 => lcF (walk_enumT (K := K) (a := b) (xs := zs)) hD6 (by rw [hzl]; exact slt (by omega)) (fun i => !dropB m ls i) (fun i y H => Dp K H y (lineD (lnAt ls i))) (fun i y H H' e n q => ?_) (fun H e => e.seqT hz4) (fun j x H6 H7 Q1 Q0 hj e6 y q1 q0 => ?_) (fun H6 ys6 e6 hy6 g6 => ?_)⟩
    · exact keepN e n n _ _ (noList_ln _) q
    · obtain ⟨U, y1, y2, rfl, hU, rfl, g3, g4⟩ := y
      obtain rfl : V.int (j : Nat) = y1 := Option.some.inj g3
      have eU := Same.new (o := HO.tup [V.int (j : Nat), y2]) hU
      have hj2 : j < ls.length := by omega
      obtain ⟨lj, hlj, hdj⟩ := hzat j y2 g4
      have elj : lnAt ls j = lj := by unfold lnAt; rw [List.getD_eq_getElem?_getD, hlj]; rfl
      refine ⟨U, _, rfl, .of upd_same, rfl, _, _, rfl, _, _, rfl, rfl, rfl, _, rfl, _, rfl, .int (j : Nat), _, .int _, huw.to (e6.trans eU), (SN.int _).shaped (by decide), (SN.list (n := 0) fun d hd => by obtain ⟨i, _, rfl⟩ := List.mem_map.mp hd; exact .int i).shaped (by decide), _, rfl, ?_⟩
      rw [not_within hj2]
      cases c : dropB m ls j with
      | true => exact iteF (q0 (by rw [c]; rfl) _ eU)
      | false => exact iteT ⟨_, rfl, q1 (by rw [c]; rfl) _ _ (by rw [elj]; exact hdj.to ((e04.trans e6).trans eU)) eU⟩
    · have dk : DpAll K H6 ys6 ((keptL m ls).map lineD) := by
        have := g6.dp (fun i => lineD (lnAt ls i)) (fun i y h => h)
        rw [hzl] at this
        unfold keptL
        rw [List.map_map]
        exact this
      refine ⟨D6, _, rfl, .inl ⟨.of hy6, fun t ht => ⟨Nat.le_of_ble_eq_true rfl, fun tt htt => ?_⟩⟩⟩
      have n1 := Same.new (o := HO.tup ys6) ht
      have n2 := Same.new (o := HO.tup [V.int (m : Nat), .ref t]) htt
      have dt : Dp K (upd H6 t (HO.tup ys6)) (.ref t) (.tuple ((keptL m ls).map lineD)) := .tup (.of upd_same) (dk.to n1)
      exact k _ _ ((e04.trans e6).trans (n1.trans n2)) (.tup (.of upd_same) (.cons (.int _) (.cons (dt.to n2) .nil)))
end
end Ws
/-! ## P23p -/
namespace Ws
open PySem PySem.Spec PyProof.Rows L2 RZ
local macro_rules | `(tactic| walk_at "nf") => `(tactic| dsimp only [tNext, tSeq, tDrop, tRet, tRetN, tIfS, tAsg, gName, gTup, gCons, gNil, tVar, tC, tOp, tUn, rI, rI0, rU, rEq, rNe, tTest, tChain, tAnd, tOr, tNot, tAndV, tOrV, tNotV, tIf, tCB, tCKw, tCons, tNil, tTup, tLst, tCa, tCallS, tB, rIxT, rIxL, rIxS, cxOf, Cx.nox, Cx.wish, Cx.blk, L2.start, tPar, tPar3, tNever, tYes, tBits, tRz, tBM, rAppend, tyV, tXf, suiteEnds, gSub, rSetL, tBreak, rMax, tDGet, sDPut, tSl, tNoPart, tPart, tDisp, tPairs, tDGet2, tDNewK, tAugS, ipI, rGetL, tDIn, tDNotIn, tBM0, rPop])
local macro_rules | `(tactic| walk_at "sx") => `(tactic| simp only [wipe, List.cons.injEq, and_assoc, exists_and_left, and_true, List.map_cons, List.map_nil, List.length_cons, List.length_nil, List.cons_append, List.nil_append, List.append_nil, Nat.reduceAdd, Nat.reduceSub, List.replicate, List.getElem?_cons_zero, List.getElem?_cons_succ, List.set_cons_zero, List.set_cons_succ, Option.some.injEq, V.int.injEq, V.bl.injEq, V.ref.injEq, V.str.injEq, exists_eq_left', exists_eq_left, true_and, Bool.true_eq_false, Bool.false_eq_true, if_true, if_false])

def turnsB (m : Nat) (row : Sq.Row) (l : Ln) : Bool := match Sq.sqOf m l.2 with
  | some q => (Sq.turnsOf l.1 l.2 q row).isSome
  | none => false
def spHas7 (K : PySem.W.Frag) : Sp := fun vs H Q _ => ∃ (v rv : V) (m : Nat) (ls : List Ln) (row : Sq.Row), vs = [v, rv] ∧ Dp K H v (setD m ls) ∧ Dp K H rv (intsD row) ∧ SetOk m ls ∧ tiedAt m ls = none ∧ RowS m row ∧ ∀ H', Same H H' → Q (.bl ((keptL m ls).any (turnsB m row))) H'
section
variable {P : Program} {w : World} {K : PySem.W.Frag} {mg : Str → Option Value} {base : Heap} {BS TG BR BI : Addr}
theorem kept_at {m : Nat} {ls : List Ln} {l : Ln} (h : l ∈ keptL m ls) : ∃ i, i < ls.length ∧ l = lnAt ls i ∧ dropB m ls i = false ∧ ls[i]? = some l := by
  obtain ⟨i, hi, rfl⟩ := List.mem_map.mp h
  obtain ⟨h1, h2⟩ := List.mem_filter.mp hi
  have hi2 := List.mem_range.mp h1
  refine ⟨i, hi2, rfl, by simpa using h2, ?_⟩
  unfold lnAt
  rw [List.getD_eq_getElem?_getD, List.getElem?_eq_getElem hi2]
  rfl
theorem ok_has7 (B : Bl mg) (T : ErS P w K mg base BS TG BR BI) (F1 : Df P w K mg base (L2.CX P w) 6 "need_set" pr_need_set (spNeedSet K BS TG)) (F2 : Df P w K mg base (L2.CX P w) 5 "need_row_of" pr_need_row_of (spNeedRow K BR)) (F3 : Df P w K mg base CX0 11 "put_in_order" pr_put_in_order (spPut K)) (F4 : Df P w K mg base CX0 3 "turns_of" pr_turns_of (spTurnsOf K)) (F5 : Df P w K mg base CX0 9 "square_of" pr_square_of (spSq K)) (D : Dt K mg "has" s_has pr_has) :
    Df P w K mg base (L2.CX P w) 12 "has" pr_has (spHas7 K) := by
  refine D.okX sc_has (fun vs H Q E h => ?_) (fun f cdv A outer s H vs Q E hr h => ?_)
  · obtain ⟨v, rv, m, ls, row, rfl, _⟩ := h
    rfl
  · obtain ⟨v, rv, m, ls, row, rfl, hd, hrv, o, fr, rs, k⟩ := h
    refine ⟨_, (pss_cons (ps_expr (pe_f (E := E) F1 (hr.mono (by decide)) (passes_call (takes_of rfl rfl rfl rfl) fun _ _ _ _ h => h) (pa_cons (pv 0) pa_nil))) (pss_cons (ps_expr (pe_f (E := E) F2 (hr.mono (by decide)) (passes_call (takes_of rfl rfl rfl rfl) fun _ _ _ _ h => h) (pa_cons (pv 0) (pa_cons (pv 1) pa_nil)))) (pss_cons (ps_asg (pe_f F3 (hr.mono (by decide)) pass0 (pa_cons (pv 0) pa_nil)) (pg_tup rfl (pgs_cons (pg_name (i := 2) sc_has.nd rfl (Or.inr rfl)) (pgs_cons (pg_name (i := 3) sc_has.nd rfl (Or.inl rfl)) pgs_nil)))) (pss_one (ps_ret (pe_callB (cr_any rfl) (by rfl) B.any boot_any (pa_cons (pe_lc (own := [("line", 4)]) (g := gName 4) (tt := tYes) (te := tOp (fun x y H Q => y = V.non ∧ Q (V.bl (!decide (x = V.non))) H) (tCa (spTurnsOf K) E0 (tCons (tVar 4) (tCons (tCa (spSq K) E0 (tCons (tVar 2) (tCons (tOp (rIxT K) (tVar 4) (tC (V.int 1))) tNil))) (tCons (tVar 1) tNil)))) (tC V.non)) (by rfl) sc_has.nd (pi_tup (pv 3)) (blkOk_by (own := [("line", 4)]) (N := nm_has) (sc := defScope s_has) (by decide +kernel)) (fun _ _ _ _ _ => pg_name (i := 4) sc_has.nd rfl (Or.inl rfl)) (fun _ _ _ _ _ => pts_nil) (fun _ _ _ _ _ => (pe_cmpR op_notN (pe_f F4 (hr.mono (by decide)) pass0 (pa_cons (pv 4) (pa_cons (pe_f F5 (hr.mono (by decide)) pass0 (pa_cons (pv 2) (pa_cons (pe_ix ix_tup (pv 4) pe_int (fun _ _ => rfl)) pa_nil))) (pa_cons (pv 1) pa_nil)))) pe_non (nomark _)))) pa_nil))))))), ?_⟩
    dsimp only [cxOf, Cx.nox, L2.start]
    obtain ⟨a, u, rfl, hs, hu⟩ := set_v hd
    have fS : FrS m ls := ⟨o.lo, o.few, o.m4, fr⟩
    refine sq_dr ⟨_, rfl, _, _, rfl, hd, fun _ H1 e1 => ?_, fun n' e' => (by rw [o.ok] at e'; cases e'), fun z => (by rw [o.ok] at z; cases z)⟩
    refine sq_dr ⟨_, rfl, _, rfl, .non, rv, u, a, m, intsD row, rfl, e1.seqT hs, o.m4, hrv.to e1, fun _ H2 e2 => ?_, fun z => (by rw [rowOk_small rs] at z; cases z)⟩
    have e02 := e1.trans e2
    refine sq_as ⟨_, rfl, .ref a, m, ls, rfl, hd.to e02, fS, fun H3 uv e3 huv => ?_⟩
    have e03 := e02.trans e3
    obtain ⟨p, u', rfl, hp, hu'⟩ := set_v huv
    obtain ⟨b, zs, rfl, hz, hzl, hzat, _⟩ := tup_view hu'
    refine ⟨p, _, rfl, hp, rfl, _, _, rfl, _, _, rfl, rfl, ?_⟩
    have kl : (keptL m ls).length ≤ 400 := by
      unfold keptL
      rw [List.length_map]
      have := List.length_filter_le (fun i => !dropB m ls i) (List.range ls.length)
      rw [List.length_range] at this
      have := o.few
      omega
    refine ⟨_, rfl, b, rfl, ⟨zs, hz⟩, fun D6 hD6 => lcS walk_tup hD6 (by rw [hzl]; exact slt (by omega)) (fun i y => y = .bl (turnsB m row ((keptL m ls).getD i ([], [])))) (fun H e => e.seqT hz) (fun i x H6 H7 Q1 hi e y q1 => ?_) (fun H6 ys6 e6 hy6 hn6 hr6 => ?_)⟩
    · obtain ⟨rfl, hx⟩ := y
      obtain ⟨l, hl', hdl⟩ := hzat i x hx
      have el : (keptL m ls).getD i ([], []) = l := by rw [List.getD_eq_getElem?_getD, hl']; rfl
      rw [el] at q1
      obtain ⟨j, hj, ej, _, hlj⟩ := kept_at (List.mem_of_getElem? hl')
      have lo := o.lo _ (List.mem_of_getElem? hlj)
      obtain ⟨q, eq⟩ := free_some fr hj
      have esq : sqAtL m ls j = Sq.sqOf m l.2 := by rw [ej]; rfl
      rw [esq] at eq
      have qb := Sq.qb_of eq lo.pb lo.n3
      obtain ⟨p1, b1, u1, rfl, hp1, hb1, hu1⟩ := ln_v (hdl.to e)
      have e06 := e03.trans e
      refine ⟨rfl, _, rfl, _, rfl, _, rfl, p1, _, 1, _, rfl, rfl, hp1, rfl, l.2.length, m, u1, l.2, rfl, hu1, lo.po, lo.n3, lo.m4, fun H8 w8 e8 hw8 => ⟨_, rfl, ?_⟩⟩
      have hw := hw8.dp
      rw [eq] at hw
      refine ⟨.ref p1, w8, rv, m, l.2.length, l.1, l.2, q, row, rfl, hdl.to (e.trans e8), hw, hrv.to (e06.trans e8), lo, qb, rs.len, rs.na, fun H9 u9 e9 hu9 => ⟨rfl, ?_⟩⟩
      rw [opt_non hu9]
      have : (!(Sq.turnsOf l.1 l.2 q row).isNone) = turnsB m row l := by
        unfold turnsB
        rw [eq]
        show _ = (Sq.turnsOf l.1 l.2 q row).isSome
        cases Sq.turnsOf l.1 l.2 q row <;> rfl
      rw [this]
      exact q1 _ _ rfl (e8.trans e9)
    · have ev := vals_bl (f := fun i => turnsB m row ((keptL m ls).getD i ([], []))) hn6 hr6
      rw [hzl] at ev
      have e10 : (List.range (keptL m ls).length).map (fun i => turnsB m row ((keptL m ls).getD i ([], []))) = (keptL m ls).map (turnsB m row) := by_places (keptL m ls) ([], []) (turnsB m row)
      rw [e10] at ev
      subst ev
      refine ⟨D6, _, rfl, .of hy6, ?_⟩
      have := k H6 (e03.trans e6)
      rw [List.any_map]
      exact this
end
end Ws
/-! ## O23 -/
namespace Ws
open PySem PySem.Spec PyProof.Rows L2 RZ
structure DrL (m : Nat) (l : Ln) : Prop where
  bl : l.1.length = m
  bb : ∀ x ∈ l.1, 0 ≤ x ∧ x < 4
  pl : ∀ p ∈ l.2, p.length = m
  pb : ∀ p ∈ l.2, ∀ x ∈ p, 0 ≤ x ∧ x < 4
  n3 : l.2.length ≤ 3
structure DrS (m : Nat) (ls : List Ln) : Prop where
  m1 : 1 ≤ m
  m3 : m ≤ 3
  lo : ∀ l ∈ ls, DrL m l
  l2 : ls.length ≤ 3
/-- a list of numbers that the def made -/
structure Fnd (K : PySem.W.Frag) (H0 H : Hp) (a l c D : Addr) (ws : List Int) : Prop where
  h : H D = some (.lst (ws.map V.int))
  a : D ≠ a
  l : D ≠ l
  c : D ≠ c
  z : H0 D = none
theorem Fnd.sbt {K : PySem.W.Frag} {H0 H H' : Hp} {a l c D : Addr} {ws : List Int} (f : Fnd K H0 H a l c D ws) (e : Sbt a l H H') : Fnd K H0 H' a l c D ws := ⟨e _ _ f.h f.a f.l, f.a, f.l, f.c, f.z⟩
theorem Fnd.put {K : PySem.W.Frag} {H0 H : Hp} {a l c D : Addr} {ws : List Int} (f : Fnd K H0 H a l c D ws) {i : Nat} {x : Int} : Fnd K H0 (upd H D (.lst ((ws.map V.int).set i (.int x)))) a l c D (ws.set i x) := ⟨by rw [upd_same, ← List.map_set], f.a, f.l, f.c, f.z⟩
theorem ixn {n i : Nat} (h : i < n) : ixN n ((i : Nat) : Int) = some i := by
  unfold ixN
  rw [if_pos (by omega), if_pos (by omega), Int.toNat_natCast]
theorem mem_set_B {ws : List Int} {i : Nat} {x : Int} {P : Int → Prop} (h : ∀ y ∈ ws, P y) (hx : P x) : ∀ y ∈ ws.set i x, P y := fun y hy => by
  rcases List.mem_or_eq_of_mem_set hy with e | e
  · exact h y e
  · exact e ▸ hx
theorem lt_one_way {x y : PyData} (h : PySem.W.alike x y = true) (e : PyData.eqv x y = false) (h1 : PySem.W.dataLt y x = false) : PySem.W.dataLt x y = true := by
  cases h2 : PySem.W.dataLt x y with
  | true => rfl
  | false =>
    exfalso
    have ek : PySem.W.keyToks x = PySem.W.keyToks y := lex_total (O := itemOrd) _ _ h2 h1
    have q := (PySem.W.toks_eqv x y h).2 e [] [.inl 0]
    rw [ek, PySem.W.lex_pre] at q
    have i := lex_irrefl (O := itemOrd) (PySem.W.keyToks y)
    rw [i] at q
    cases q
theorem eqvAll_rows : ∀ xs ys : List Sq.Row, PyData.eqvAll (xs.map intsD) (ys.map intsD) = decide (xs = ys)
  | [], [] => by simp [PyData.eqvAll]
  | [], y :: ys => by simp [PyData.eqvAll]
  | x :: xs, [] => by simp [PyData.eqvAll]
  | x :: xs, y :: ys => by
    have := eqvAll_rows xs ys
    rw [List.map_cons, List.map_cons]
    simp only [PyData.eqvAll, this, eqv_ints]
    by_cases c : x = y <;> by_cases d : xs = ys <;> simp [c, d]
theorem eqv_ln (l r : Ln) : PyData.eqv (lineD l) (lineD r) = decide (l = r) := by
  obtain ⟨a, b⟩ := l
  obtain ⟨c, d⟩ := r
  show PyData.eqv (.tuple [intsD a, .tuple (b.map intsD)]) (.tuple [intsD c, .tuple (d.map intsD)]) = _
  simp only [PyData.eqv, PyData.eqvAll, eqv_ints, eqvAll_rows]
  by_cases e : a = c <;> by_cases f : b = d <;> simp [e, f]
theorem alikeAll_rows : ∀ xs ys : List Sq.Row, PySem.W.alikeAll (xs.map intsD) (ys.map intsD) = true
  | [], ys => by simp [PySem.W.alikeAll]
  | x :: xs, [] => by simp [PySem.W.alikeAll]
  | x :: xs, y :: ys => by
    have := alikeAll_rows xs ys
    rw [List.map_cons, List.map_cons]
    simp only [PySem.W.alikeAll, this, alike_intsD]
    rfl
theorem alike_ln (l r : Ln) : PySem.W.alike (lineD l) (lineD r) = true := by
  obtain ⟨a, b⟩ := l
  obtain ⟨c, d⟩ := r
  show PySem.W.alike (.tuple [intsD a, .tuple (b.map intsD)]) (.tuple [intsD c, .tuple (d.map intsD)]) = true
  simp only [PySem.W.alike, PySem.W.alikeAll, alike_intsD, alikeAll_rows]
  rfl
theorem perm_map {α : Type} {f : α → PyData} {g : PyData → α} (hg : ∀ x, g (f x) = x) {xs : List α} {es : List PyData} (h : es.Perm (xs.map f)) : ∃ ys : List α, es = ys.map f ∧ ys.Perm xs := by
  refine ⟨es.map g, ?_, ?_⟩
  · rw [List.map_map]
    conv => lhs; rw [← List.map_id es]
    refine List.map_congr_left fun e he => ?_
    obtain ⟨x, _, rfl⟩ := List.mem_map.mp (h.mem_iff.mp he)
    show f x = f (g (f x))
    rw [hg]
  · have := h.map g
    rw [List.map_map] at this
    have e : xs.map (g ∘ f) = xs := by
      conv => rhs; rw [← List.map_id xs]
      exact List.map_congr_left fun x _ => hg x
    rw [e] at this
    exact this
def rowOf (d : PyData) : Sq.Row := (itm d).map iOf
theorem rowOf_ints (r : Sq.Row) : rowOf (intsD r) = r := by
  show ((r.map PyData.int).map iOf) = r
  rw [List.map_map]
  conv => rhs; rw [← List.map_id r]
  exact List.map_congr_left fun x _ => rfl
def lnOf (d : PyData) : Ln := (rowOf ((itm d).getD 0 .none), (itm ((itm d).getD 1 .none)).map rowOf)
theorem lnOf_ln (l : Ln) : lnOf (lineD l) = l := by
  obtain ⟨a, b⟩ := l
  show (rowOf (intsD a), (b.map intsD).map rowOf) = (a, b)
  rw [rowOf_ints, List.map_map]
  congr 1
  conv => rhs; rw [← List.map_id b]
  exact List.map_congr_left fun x _ => rowOf_ints x
theorem asc_of {α : Type} {f : α → PyData} {xs : List α} (hal : ∀ x y, PySem.W.alike (f x) (f y) = true) (he : ∀ x y : α, PyData.eqv (f x) (f y) = true → x = y) (hn : xs.Nodup) (ho : Ord (xs.map f)) {i : Nat} (hi : i + 1 < xs.length) :
    PySem.W.dataLt ((xs.map f).getD i .none) ((xs.map f).getD (i + 1) .none) = true := by
  have g1 : (xs.map f).getD i .none = f (xs[i]'(by omega)) := by rw [List.getD_eq_getElem?_getD, List.getElem?_map, List.getElem?_eq_getElem (by omega)]; rfl
  have g2 : (xs.map f).getD (i + 1) .none = f (xs[i + 1]'hi) := by rw [List.getD_eq_getElem?_getD, List.getElem?_map, List.getElem?_eq_getElem hi]; rfl
  rw [g1, g2]
  refine lt_one_way (hal _ _) ?_ ?_
  · cases c : PyData.eqv (f (xs[i]'(by omega))) (f (xs[i + 1]'hi)) with
    | false => rfl
    | true =>
      have := he _ _ c
      exact absurd this (List.pairwise_iff_getElem.mp hn i (i + 1) (by omega) hi (by omega))
  · unfold Ord at ho
    have := List.pairwise_iff_getElem.mp ho i (i + 1) (by rw [List.length_map]; omega) (by rw [List.length_map]; omega) (by omega)
    simpa using this
structure LnF (m : Nat) (l : Ln) : Prop extends DrL m l where
  nd : l.2.Nodup
  nz : ∀ p ∈ l.2, p.any (fun x => x != 0) = true
  asc : Ord (l.2.map intsD)
theorem LnF.lineD {m : Nat} {l : Ln} (h : LnF m l) : isLineD m (lineD l) = true := by
  have ent : ∀ r : Sq.Row, r.length = m → (∀ x ∈ r, 0 ≤ x ∧ x < 4) → isEntryD m (intsD r) = true := fun r hl hb => by
    unfold isEntryD
    rw [Bool.and_eq_true]
    refine ⟨?_, ?_⟩
    · show decide _ = true
      rw [decide_eq_true_eq, List.length_map, hl]
    · show List.all _ _ = true
      rw [List.all_map, List.all_eq_true]
      intro x hx
      have := hb x hx
      show (decide _ && decide _) = true
      rw [Bool.and_eq_true, decide_eq_true_eq, decide_eq_true_eq]
      omega
  obtain ⟨a, b⟩ := l
  have n3 := h.n3
  show (isEntryD m (intsD a) && (decide ((b.map intsD).length ≤ 12) && (b.map intsD).all (fun p => isEntryD m p && nzD p)) && ascD (b.map intsD)) = true
  rw [Bool.and_eq_true, Bool.and_eq_true, Bool.and_eq_true]
  refine ⟨⟨ent a h.bl h.bb, ?_, ?_⟩, ?_⟩
  · rw [decide_eq_true_eq, List.length_map]
    show b.length ≤ 12
    have : b.length ≤ 3 := n3
    omega
  · rw [List.all_map, List.all_eq_true]
    intro p hp
    show (isEntryD m (intsD p) && nzD (intsD p)) = true
    rw [Bool.and_eq_true]
    refine ⟨ent p (h.pl p hp) (h.pb p hp), ?_⟩
    show List.any _ _ = true
    rw [List.any_map]
    exact h.nz p hp
  · unfold ascD
    rw [List.all_eq_true]
    intro i hi
    have hi2 := List.mem_range.mp hi
    rw [List.length_map] at hi2
    exact asc_of (fun x y => alike_intsD x y) (fun x y e => by rw [eqv_ints] at e; exact of_decide_eq_true e) h.nd h.asc (i := i) (by show i + 1 < b.length; omega)
theorem set_ok {m : Nat} {ls : List Ln} (m1 : 1 ≤ m) (m3 : m ≤ 3) (l2 : ls.length ≤ 3) (hl : ∀ l ∈ ls, LnF m l) (hn : ls.Nodup) (ho : Ord (ls.map Ws.lineD)) : SetOk m ls ∧ DrS m ls := by
  refine ⟨⟨?_, m1, by omega, fun l hm => ?_, by omega⟩, ⟨m1, m3, fun l hm => (hl l hm).toDrL, l2⟩⟩
  · show (if isBt (.int (m : Nat)) 1 4 then (if 400 < (ls.map Ws.lineD).length then SF.great else match (List.range (ls.map Ws.lineD).length).find? (badAt (m : Int) (ls.map Ws.lineD)) with
      | some i => .bad (i + 1)
      | none => .ok) else .bad 0) = .ok
    rw [if_pos (by show (decide _ && decide _) = true; rw [Bool.and_eq_true, decide_eq_true_eq, decide_eq_true_eq]; omega), if_neg (by rw [List.length_map]; omega)]
    have : (List.range (ls.map Ws.lineD).length).find? (badAt (m : Int) (ls.map Ws.lineD)) = none := by
      rw [List.find?_eq_none]
      intro i hi
      have hi2 := List.mem_range.mp hi
      rw [List.length_map] at hi2
      have g1 : (ls.map Ws.lineD).getD i .none = Ws.lineD (ls[i]'hi2) := by rw [List.getD_eq_getElem?_getD, List.getElem?_map, List.getElem?_eq_getElem hi2]; rfl
      unfold badAt
      rw [g1, (hl _ (List.getElem_mem hi2)).lineD]
      by_cases c : 0 < i
      · rw [← g1]
        have := asc_of (f := Ws.lineD) alike_ln (fun x y e => by rw [eqv_ln] at e; exact of_decide_eq_true e) hn ho (i := i - 1) (by omega)
        rw [show i - 1 + 1 = i by omega] at this
        rw [this]
        simp
      · rw [decide_eq_false c]
        simp
    rw [this]
  · have h := hl l hm
    refine ⟨h.bl, fun x hx => ?_, ?_, ?_, h.n3, by omega⟩
    · have := h.bb x hx
      omega
    · refine ⟨rfl, fun r hr => ⟨h.pl r hr, fun x hx => ?_⟩⟩
      have := h.pb r hr x hx
      unfold B64
      omega
    · intro r hr x hx
      have := h.pb r hr x hx
      omega
end Ws
/-! ## K23h -/
namespace Ws
open PySem PySem.Spec PyProof.Rows L2 RZ
def rlt (x y : Sq.Row) : Prop := PySem.W.dataLt (intsD x) (intsD y) = true
theorem rlt_asym (a b : Sq.Row) (h : rlt a b) : ¬ rlt b a := fun k => by
  have := lex_trans (O := itemOrd) _ _ _ h k
  rw [lex_irrefl] at this
  cases this
theorem LnF.so {m : Nat} {l : Ln} (h : LnF m l) : l.2.Pairwise rlt := by
  have h1 := h.asc
  unfold Ord at h1
  rw [List.pairwise_map] at h1
  refine (h1.and h.nd).imp fun {x y} hxy => ?_
  refine lt_one_way (alike_intsD _ _) ?_ hxy.1
  rw [eqv_ints]
  exact decide_eq_false hxy.2
theorem LnF.fr {m : Nat} {l : Ln} {q : Sq.Sqr} (h : LnF m l) (m1 : 1 ≤ m) (m3 : m ≤ 3) (hq : Sq.sqOf m l.2 = some q) : Sq.FrL rlt m l q := by
  have qb := Sq.qb_of hq (fun r hr x hx => by have := h.pb r hr x hx; omega) h.n3
  exact ⟨h.bl, h.pl, fun p hp x hx => (h.pb p hp x hx).1, h.nz, h.so, Sq.adj_all m1 m3 h.n3 h.pl hq, qb.wl, qb.wm, qb.s0⟩
/-- a set of free lines as the law draws it -/
structure FSet (m : Nat) (ls : List Ln) : Prop where
  m1 : 1 ≤ m
  m3 : m ≤ 3
  lf : ∀ l ∈ ls, LnF m l
  fr : ∀ l ∈ ls, (Sq.sqOf m l.2).isSome = true
  nd : ls.Nodup
  as : Ord (ls.map lineD)
  l3 : ls.length ≤ 3
theorem FSet.tied {m : Nat} {ls : List Ln} (f : FSet m ls) : tiedAt m ls = none := by
  unfold tiedAt
  rw [List.find?_eq_none]
  intro i hi
  have hi2 := List.mem_range.mp hi
  have e : ls.getD i ([], []) = ls[i] := by rw [List.getD_eq_getElem?_getD, List.getElem?_eq_getElem hi2]; rfl
  have := f.fr _ (List.getElem_mem hi2)
  unfold sqAtL
  rw [e]
  cases h : Sq.sqOf m ls[i].2 with
  | none => rw [h] at this; cases this
  | some q => simp
theorem FSet.ok {m : Nat} {ls : List Ln} (f : FSet m ls) : SetOk m ls ∧ DrS m ls := set_ok f.m1 f.m3 f.l3 f.lf f.nd f.as
/-- the line reaches the row, as the law looks -/
def fillsB (row : Sq.Row) (l : Ln) : Bool := Sq.fills l.2 (Sq.subr row l.1)
theorem ln_in {ls : List Ln} {i : Nat} (h : i < ls.length) : lnAt ls i ∈ ls := Sq.getD_mem h
theorem fills_iff {m : Nat} {l : Ln} {row : Sq.Row} (m1 : 1 ≤ m) (m3 : m ≤ 3) (h : LnF m l) (hf : (Sq.sqOf m l.2).isSome = true) (hr : row.length = m) : fillsB row l = true ↔ Sq.Has m l row := by
  obtain ⟨q, hq⟩ := Option.isSome_iff_exists.mp hf
  unfold fillsB
  rw [subr_addk]
  exact Sq.fills_has (h.fr m1 m3 hq) hr
theorem turnsB_iff {m : Nat} {l : Ln} {row : Sq.Row} (m1 : 1 ≤ m) (m3 : m ≤ 3) (h : LnF m l) (hf : (Sq.sqOf m l.2).isSome = true) (hr : row.length = m) : turnsB m row l = true ↔ Sq.Has m l row := by
  obtain ⟨q, hq⟩ := Option.isSome_iff_exists.mp hf
  unfold turnsB
  rw [hq]
  exact Sq.turns_has (h.fr m1 m3 hq) hr
theorem ins_at {m : Nat} {ls : List Ln} (f : FSet m ls) {i j : Nat} (hi : i < ls.length) (hj : j < ls.length) : insAt m ls i j = true ↔ Sq.Ins m (lnAt ls i) (lnAt ls j) := by
  have fi := f.lf _ (ln_in hi)
  have fj := f.lf _ (ln_in hj)
  obtain ⟨q, hq⟩ := Option.isSome_iff_exists.mp (f.fr _ (ln_in hj))
  have e : sqAtL m ls j = some q := hq
  unfold insAt
  rw [e]
  exact Sq.ins_iff (fj.fr f.m1 f.m3 hq) fi.bl fi.pl
theorem kept_any {m : Nat} {ls : List Ln} {row : Sq.Row} (f : FSet m ls) (hr : row.length = m) : (keptL m ls).any (turnsB m row) = ls.any (fillsB row) := by
  rw [Bool.eq_iff_iff, List.any_eq_true, List.any_eq_true]
  constructor
  · rintro ⟨l, hl, ht⟩
    obtain ⟨i, hi, rfl, _, _⟩ := kept_at hl
    have hm := ln_in hi
    exact ⟨_, hm, (fills_iff f.m1 f.m3 (f.lf _ hm) (f.fr _ hm) hr).mpr ((turnsB_iff f.m1 f.m3 (f.lf _ hm) (f.fr _ hm) hr).mp ht)⟩
  · rintro ⟨l, hl, ht⟩
    obtain ⟨i, hi, el⟩ := Sq.mem_get (d := (([], []) : Ln)) hl
    have el : l = lnAt ls i := el
    subst el
    have hh := (fills_iff f.m1 f.m3 (f.lf _ hl) (f.fr _ hl) hr).mp ht
    let R : Nat → Nat → Bool := fun i j => j != i && insAt m ls i j
    have same : ∀ i j, i < ls.length → j < ls.length → insAt m ls i j = true → insAt m ls j i = true → i = j := fun i j hi hj h1 h2 => by
      have fi := f.lf _ (ln_in hi)
      have fj := f.lf _ (ln_in hj)
      obtain ⟨qi, hqi⟩ := Option.isSome_iff_exists.mp (f.fr _ (ln_in hi))
      obtain ⟨qj, hqj⟩ := Option.isSome_iff_exists.mp (f.fr _ (ln_in hj))
      have e := Sq.Ins.same rlt_asym (fi.fr f.m1 f.m3 hqi) (fj.fr f.m1 f.m3 hqj) ((ins_at f hi hj).mp h1) ((ins_at f hj hi).mp h2)
      have e1 : lnAt ls i = ls[i] := by unfold lnAt; rw [List.getD_eq_getElem?_getD, List.getElem?_eq_getElem hi]; rfl
      have e2 : lnAt ls j = ls[j] := by unfold lnAt; rw [List.getD_eq_getElem?_getD, List.getElem?_eq_getElem hj]; rfl
      rw [e1, e2] at e
      have np := List.pairwise_iff_getElem.mp f.nd
      by_cases c : i < j
      · exact absurd e (np i j hi hj c)
      · by_cases c2 : j < i
        · exact absurd e.symm (np j i hj hi c2)
        · omega
    obtain ⟨j, hj, htop, hij⟩ := Sq.top_of (n := ls.length) (R := R) (fun i _ => by simp [R]) (fun i j k hi hj hk h1 h2 => by
      simp only [R, Bool.and_eq_true, bne_iff_ne] at h1 h2 ⊢
      have t := Sq.Ins.trans (f.lf _ (ln_in hi)).bl (f.lf _ (ln_in hj)).bl (f.lf _ (ln_in hk)).bl ((ins_at f hi hj).mp h1.2) ((ins_at f hj hk).mp h2.2)
      have t2 := (ins_at f hi hk).mpr t
      exact ⟨fun e => h1.1 (same i j hi hj h1.2 (by rw [← e]; exact h2.2)).symm, t2⟩) ls.length i hi (Nat.le_trans List.countP_le_length (by simp))
    have hjm := ln_in hj
    have hhj : Sq.Has m (lnAt ls j) row := by
      rcases hij with e | e
      · rw [e]; exact hh
      · have := (ins_at f hi hj).mp (by simp only [R, Bool.and_eq_true] at e; exact e.2)
        exact this.has hr (f.lf _ (ln_in hi)).bl (f.lf _ hjm).bl hh
    refine ⟨lnAt ls j, List.mem_map.mpr ⟨j, List.mem_filter.mpr ⟨List.mem_range.mpr hj, ?_⟩, rfl⟩, (turnsB_iff f.m1 f.m3 (f.lf _ hjm) (f.fr _ hjm) hr).mpr hhj⟩
    have : dropB m ls j = false := by
      unfold dropB
      rw [List.any_eq_false]
      intro k hk
      have := htop k (List.mem_range.mp hk)
      simp only [R] at this
      rw [this]
      exact Bool.false_ne_true
    rw [this]
    rfl
end Ws
/-! ## S23 -/
namespace Ws
open PySem PySem.Spec PyProof.Rows L2
mutual
theorem reads_flat {h : Heap} : ∀ (d : PyData) (v : Value) (as : List Addr), noList d = true → Reads h v d as → as = []
  | .none, _, _, _, r => by cases r; rfl
  | .bool _, _, _, _, r => by cases r; rfl
  | .int _, _, _, _, r => by cases r; rfl
  | .str _, _, _, _, r => by cases r; rfl
  | .list _, _, _, q, _ => by cases q
  | .tuple xs, _, _, q, r => by
    cases r with
    | tuple h1 h2 h3 h4 => exact reads_flats xs _ _ (by simpa only [noList] using q) h4
  | .dict _, _, _, q, _ => by cases q
theorem reads_flats {h : Heap} : ∀ (ds : List PyData) (vs : List Value) (as : List Addr), noListAll ds = true → ReadsAll h vs ds as → as = []
  | [], _, _, _, r => by cases r; rfl
  | d :: ds, _, _, q, r => by
    cases r with
    | cons h1 h2 =>
      simp only [noListAll, Bool.and_eq_true] at q
      rw [reads_flat d _ _ q.1 h1, reads_flats ds _ _ q.2 h2]
      rfl
end
theorem noList_of : ∀ {ds : List PyData} {d : PyData}, noListAll ds = true → d ∈ ds → noList d = true
  | x :: xs, d, h, hd => by
    simp only [noListAll, Bool.and_eq_true] at h
    rcases List.mem_cons.mp hd with rfl | hd
    · exact h.1
    · exact noList_of h.2 hd
/-- what a tuple of data without lists is sorted to -/
def rSortedT (K : PySem.W.Frag) : List V → Hp → VK → Prop := fun vs H Q => ∃ (a : Addr) (ys : List V) (ds : List PyData), vs = [.ref a] ∧ SqT K H a ys ∧ DpAll K H ys ds ∧ noListAll ds = true ∧ PySem.W.AllAlike ds ∧ PySem.W.Sortable ds ∧ (∀ d ∈ ds, d.depth ≤ 30) ∧
  ∀ (zs : List V) (es : List PyData) (p : Addr), DpAll K H zs es → es.Perm ds → Ord es → H p = none → Q (.ref p) (upd H p (.lst zs))
theorem cr_sortedT {X : Cx} (hu : X.A.units + 65 < cLine) : CallR X (.builtin "sorted") (rSortedT X.K) := by
  intro pins s σ H vs us Q I r h
  obtain ⟨a, ys, ds, rfl, hs, ha, hnl, hal, hk, hdp, q⟩ := h
  obtain ⟨its, rv, hl, hz⟩ := I.tuple hs
  obtain ⟨o, ho, hc, n, hd⟩ := hl
  rw [Vals.ref1 r]
  have ez : (ys.zip ds).map (·.2) = ds := List.map_snd_zip (by rw [ha.length]; exact Nat.le_refl _)
  have e1 := vals_each I rv ha
  have len : (ys.zip ds).length = ys.length := by rw [List.length_zip, ha.length, Nat.min_self]
  have il : its.length ≤ sizeLine := by rw [← rv.length]; exact hz
  refine call_function_entry_kw (kw := []) kind_sorted plain_sorted entry_sorted (args_sorted1 _) (wpAny_bind (m := checkCount "sorted" 1 1 _) (wpAny_pure (wpAny_bind (wpAny_collect_seq a (.inr rfl) ho hc hd (fun h2 kp => wpAny_bind (wpAny_newList (wpAny_bind (wpAny_holding ?_)) il)) (by simpa using il)))))
  have off : s.heap.get? h2.objs.size = none := by
    cases g : s.heap.get? h2.objs.size with
    | none => rfl
    | some u => exact absurd (Heap.lt_size (kp _ _ g)) (Nat.lt_irrefl _)
  have offH := I.hok.gone off
  have hpl := Heap.get?_push_size h2 (o := { cls := .type "list", data := .seq its.toArray.toList.toArray }) rfl
  have kq : ∀ b u, s.heap.get? b = some u → (h2.push { cls := .type "list", data := .seq its.toArray.toList.toArray }).get? b = some u := fun b u e => Heap.get?_push_of_some _ (kp b u e)
  have er : PySem.W.EachIs (fun (v : Value) (b : V × PyData) => ∃ as, Reads (h2.push { cls := .type "list", data := .seq its.toArray.toList.toArray }) v b.2 as ∧ h2.objs.size ∉ as) its (ys.zip ds) := (PySem.W.each_mem e1).mono fun v b hb => by
    obtain ⟨as, ra⟩ := Dp.reads I b.2 b.1 v hb.1.2 hb.1.1
    have hb2 : b.2 ∈ ds := by rw [← ez]; exact List.mem_map.mpr ⟨b, hb.2, rfl⟩
    have := reads_flat b.2 v as (noList_of hnl hb2) ra
    subst this
    exact ⟨[], Reads.keeps kq ra, List.not_mem_nil⟩
  refine PySem.W.list_sort_data (vs := its) (bs := ys.zip ds) (enc := (·.2)) (n := 0) hpl e1 er (by rw [ez]; exact hal) (by rw [ez]; exact hk) (by rw [len]; exact hz) (fun b hb => ?_) fun out ho2 hE => ?_
  · have hb2 : b.2 ∈ ds := by rw [← ez]; exact List.mem_map.mpr ⟨b, hb, rfl⟩
    have h30 : b.2.depth ≤ 30 := hdp _ hb2
    show X.A.units + 1 + 1 + b.2.depth < cLine
    omega
  · obtain ⟨v1, v2⟩ := each_vals hE
    obtain ⟨p1, p2⟩ := sortD_pairs (ps := ys.zip ds)
    rw [ez] at p1
    obtain ⟨cap, hcp⟩ := sortedHeap_at (vs := its) (out := out.toArray) hpl
    have hz2 : (((ys.zip ds).mergeSort (PySem.W.dataLe false (·.2))).map (·.1)).length ≤ sizeLine := by rw [List.length_map, List.length_mergeSort, len]; exact hz
    refine wpAny_pure ⟨_, rfl, .ref h2.objs.size, upd H h2.objs.size (.lst (((ys.zip ds).mergeSort (PySem.W.dataLe false (·.2))).map (·.1))), I.laidN (t' := s.toks) (fun b u e => ?_) off offH ⟨hz2, out, cap, v1, hcp⟩, rfl, q _ _ _ v2 p1 p2 offH⟩
    have lt : b < h2.objs.size := Heap.lt_size (kp b u e)
    exact (sortedHeap_old (Nat.ne_of_lt lt) (by rw [size_push']; exact Nat.lt_succ_of_lt lt)).trans (kq b u e)
end Ws
/-! ## K23i -/
namespace Sq
theorem perm2 {α : Type} {x y : α} {l : List α} (h : l.Perm [x, y]) : l = [x, y] ∨ l = [y, x] := by
  match l, h.length_eq with
  | [a, b], _ =>
    have ha : a ∈ [x, y] := h.mem_iff.mp (by simp)
    rcases List.mem_cons.mp ha with e | e
    · subst e
      have := (List.perm_cons a).mp h
      rw [List.perm_singleton] at this
      rw [this]
      exact .inl rfl
    · have e := List.mem_singleton.mp e
      subst e
      have := (List.perm_cons a).mp (h.trans (List.Perm.swap a x []))
      rw [List.perm_singleton] at this
      rw [this]
      exact .inr rfl
theorem perm3 {α : Type} {x y z : α} {l : List α} (h : l.Perm [x, y, z]) : l = [x, y, z] ∨ l = [x, z, y] ∨ l = [y, x, z] ∨ l = [y, z, x] ∨ l = [z, x, y] ∨ l = [z, y, x] := by
  match l, h.length_eq with
  | [a, b, c], _ =>
    have ha : a ∈ [x, y, z] := h.mem_iff.mp (by simp)
    simp only [List.mem_cons, List.not_mem_nil, or_false] at ha
    rcases ha with e | e | e
    · subst e
      rcases perm2 ((List.perm_cons a).mp h) with e | e <;> simp [e]
    · subst e
      rcases perm2 ((List.perm_cons a).mp (h.trans (List.Perm.swap a x [z]))) with e | e <;> simp [e]
    · subst e
      have p : [x, y, a].Perm [a, x, y] := (((List.Perm.swap a y []).cons x)).trans (List.Perm.swap a x [y])
      rcases perm2 ((List.perm_cons a).mp (h.trans p)) with e | e <;> simp [e]
theorem pick_len (ps : List Nat) (r : Row) : (pick ps r).length = ps.length := by unfold pick; rw [List.length_map]
theorem any_congr' {α : Type} {l : List α} {p q : α → Bool} (h : ∀ x ∈ l, p x = q x) : l.any p = l.any q := by
  induction l with
  | nil => rfl
  | cons x l ih => rw [List.any_cons, List.any_cons, h x (List.mem_cons_self ..), ih fun y hy => h y (List.mem_cons_of_mem _ hy)]
theorem ne_neg {a b : Int} (h : a = -b) : (a != 0) = (b != 0) := by
  by_cases c : b = 0
  · rw [h, c]; rfl
  · have z : a ≠ 0 := by omega
    rw [bne_iff_ne.mpr z, bne_iff_ne.mpr c]
theorem has_perm {m : Nat} {rows rows' : List Row} (hn : rows.length ≤ 3) (h : rows'.Perm rows) : hasB m rows' = hasB m rows := by
  unfold hasB
  rw [h.length_eq]
  refine any_congr' fun ps hps => ?_
  have hl := (chs_mem m _ ps hps).1
  match rows, hn, h with
  | [], _, h => rw [List.perm_nil.mp h]
  | [x], _, h => rw [List.perm_singleton.mp h]
  | [x, y], _, h =>
    have d : ∀ a b : Row, a.length = 2 → b.length = 2 → det 2 [a, b] = -det 2 [b, a] := fun a b ha hb => by
      obtain ⟨a1, a2, rfl⟩ := len2 ha
      obtain ⟨b1, b2, rfl⟩ := len2 hb
      rw [det2, det2]
      grind
    have lp : ∀ r : Row, (pick ps r).length = 2 := fun r => by rw [pick_len, hl]; rfl
    rcases perm2 h with e | e
    · rw [e]
    · rw [e]
      exact ne_neg (d _ _ (lp y) (lp x))
  | [x, y, z], _, h =>
    have lp : ∀ r : Row, (pick ps r).length = 3 := fun r => by rw [pick_len, hl]; rfl
    have d1 : ∀ a b c : Row, a.length = 3 → b.length = 3 → c.length = 3 → det 3 [b, a, c] = -det 3 [a, b, c] := fun a b c ha hb hc => by
      obtain ⟨a1, a2, a3, rfl⟩ := len3 ha
      obtain ⟨b1, b2, b3, rfl⟩ := len3 hb
      obtain ⟨c1, c2, c3, rfl⟩ := len3 hc
      rw [det3, det3]
      grind
    have d2 : ∀ a b c : Row, a.length = 3 → b.length = 3 → c.length = 3 → det 3 [a, c, b] = -det 3 [a, b, c] := fun a b c ha hb hc => by
      obtain ⟨a1, a2, a3, rfl⟩ := len3 ha
      obtain ⟨b1, b2, b3, rfl⟩ := len3 hb
      obtain ⟨c1, c2, c3, rfl⟩ := len3 hc
      rw [det3, det3]
      grind
    have X := lp x
    have Y := lp y
    have Z := lp z
    rcases perm3 h with e | e | e | e | e | e
    · rw [e]
    · rw [e]; exact ne_neg (d2 _ _ _ X Y Z)
    · rw [e]; exact ne_neg (d1 _ _ _ X Y Z)
    · rw [e]; exact (ne_neg (d2 _ _ _ Y X Z)).trans (ne_neg (d1 _ _ _ X Y Z))
    · rw [e]; exact (ne_neg (d1 _ _ _ X Z Y)).trans (ne_neg (d2 _ _ _ X Y Z))
    · rw [e]; exact (ne_neg (d1 _ _ _ Y Z X)).trans ((ne_neg (d2 _ _ _ Y X Z)).trans (ne_neg (d1 _ _ _ X Y Z)))
/-- free rows differ -/
theorem has_nodup {m : Nat} {rows : List Row} (m1 : 1 ≤ m) (m3 : m ≤ 3) (hn : rows.length ≤ 3) (hl : ∀ r ∈ rows, r.length = m) (h : hasB m rows = true) : rows.Nodup := by
  rw [← sq_isSome] at h
  obtain ⟨q, hq⟩ := Option.isSome_iff_exists.mp h
  have a := adj_all m1 m3 hn hl hq
  obtain ⟨ps, hps, hq2⟩ := List.exists_of_findSome?_eq_some hq
  obtain ⟨s, _, s0, rfl⟩ := sqAt_some hq2
  refine List.pairwise_iff_getElem.mpr fun i j hi hj hij e => ?_
  have e1 := a.1 i i hi hi
  have e2 := a.1 i j hi hj
  rw [if_pos rfl] at e1
  rw [if_neg (by omega)] at e2
  have g : ∀ k (hk : k < rows.length), rows.getD k [] = rows[k] := fun k hk => by rw [List.getD_eq_getElem?_getD, List.getElem?_eq_getElem hk]; rfl
  rw [g i hi] at e1
  rw [g j hj, ← e] at e2
  rw [e2] at e1
  have : (sqM m rows ps s).size = (s.natAbs : Int) := rfl
  omega
end Sq
/-! ## Q23a -/
namespace Ws
open PySem PySem.Spec PyProof.Rows L2 RZ
local macro_rules | `(tactic| walk_at "nf") => `(tactic| dsimp only [tNext, tSeq, tDrop, tRet, tRetN, tIfS, tAsg, gName, gTup, gCons, gNil, tVar, tC, tOp, tUn, rI, rI0, rU, rEq, rNe, tTest, tChain, tAnd, tOr, tNot, tAndV, tOrV, tNotV, tIf, tCB, tCKw, tCons, tNil, tTup, tLst, tCa, tCallS, tB, rIxT, rIxL, rIxS, cxOf, Cx.nox, Cx.wish, Cx.blk, L2.start, tPar, tPar3, tNever, tYes, tBits, tRz, tBM, rAppend, tyV, tXf, suiteEnds, gSub, rSetL, tBreak, rMax, tDGet, sDPut, tSl, tNoPart, tPart, tDisp, tPairs, tDGet2, tDNewK, tAugS, ipI, rGetL, tDIn, tDNotIn, tBM0, rPop])
local macro_rules | `(tactic| walk_at "sx") => `(tactic| simp only [wipe, List.cons.injEq, and_assoc, exists_and_left, and_true, List.map_cons, List.map_nil, List.length_cons, List.length_nil, List.cons_append, List.nil_append, List.append_nil, Nat.reduceAdd, Nat.reduceSub, List.replicate, List.getElem?_cons_zero, List.getElem?_cons_succ, List.set_cons_zero, List.set_cons_succ, Option.some.injEq, V.int.injEq, V.bl.injEq, V.ref.injEq, V.str.injEq, exists_eq_left', exists_eq_left, true_and, Bool.true_eq_false, Bool.false_eq_true, if_true, if_false])

/-- a list of data that the def made and adds to -/
structure Grw (K : PySem.W.Frag) (H0 H : Hp) (a l c F : Addr) (ys : List V) (ds : List PyData) : Prop where
  h : H F = some (.lst ys)
  dp : DpAll K H ys ds
  a : F ≠ a
  l : F ≠ l
  c : F ≠ c
  z : H0 F = none
  nl : noListAll ds = true
theorem Grw.sbt {K : PySem.W.Frag} {H0 H H' : Hp} {a l c F : Addr} {n : Nat} {ys : List V} {ds : List PyData} (g : Grw K H0 H a l c F ys ds) (e : Sbt a l H H') (s : LSt H a l c n) : Grw K H0 H' a l c F ys ds := ⟨e _ _ g.h g.a g.l, keepTs e s _ _ g.nl g.dp, g.a, g.l, g.c, g.z, g.nl⟩
theorem Grw.same {K : PySem.W.Frag} {H0 H H' : Hp} {a l c F : Addr} {ys : List V} {ds : List PyData} (g : Grw K H0 H a l c F ys ds) (e : Same H H') : Grw K H0 H' a l c F ys ds := ⟨e _ _ g.h, g.dp.to e, g.a, g.l, g.c, g.z, g.nl⟩
theorem Grw.off {K : PySem.W.Frag} {H0 H : Hp} {a l c F p : Addr} {ys xs : List V} {ds : List PyData} {o : HO} (g : Grw K H0 H a l c F ys ds) (n : F ≠ p) (hp : H p = some (.lst xs)) : Grw K H0 (upd H p o) a l c F ys ds := ⟨by rw [upd_ne n]; exact g.h, keepLs hp g.nl g.dp, g.a, g.l, g.c, g.z, g.nl⟩
theorem DpAll_snoc {K : PySem.W.Frag} {H : Hp} : ∀ {ys : List V} {ds : List PyData} {y : V} {d : PyData} (h : DpAll K H ys ds) (hd : Dp K H y d), DpAll K H (ys ++ [y]) (ds ++ [d])
  | _, _, _, _, .nil, hd => .cons hd .nil
  | _, _, _, _, .cons h1 h2, hd => .cons h1 (DpAll_snoc h2 hd)
theorem noListAll_snoc {ds : List PyData} {d : PyData} (h : noListAll ds = true) (hd : noList d = true) : noListAll (ds ++ [d]) = true := by
  induction ds with
  | nil => simp [noListAll, hd]
  | cons x xs ih =>
    simp only [noListAll, Bool.and_eq_true, List.cons_append] at h ⊢
    exact ⟨h.1, ih h.2⟩
theorem Grw.app {K : PySem.W.Frag} {H0 H : Hp} {a l c F : Addr} {ys : List V} {ds : List PyData} {y : V} {d : PyData} (g : Grw K H0 H a l c F ys ds) (hy : Dp K H y d) (hd : noList d = true) : Grw K H0 (upd H F (.lst (ys ++ [y]))) a l c F (ys ++ [y]) (ds ++ [d]) :=
  ⟨upd_same, DpAll_snoc (keepLs g.h g.nl g.dp) (keepL g.h hd hy), g.a, g.l, g.c, g.z, noListAll_snoc g.nl hd⟩
theorem any_eqv_rows {rows : List Sq.Row} {r : Sq.Row} (h : ((rows.map intsD).any fun z => PyData.eqv z (intsD r)) = false) : r ∉ rows := fun hm => by
  have := List.any_eq_false.mp h (intsD r) (List.mem_map.mpr ⟨r, hm, rfl⟩)
  rw [eqv_ints] at this
  simp at this
theorem any_eqv_lns {ls : List Ln} {r : Ln} (h : ((ls.map lineD).any fun z => PyData.eqv z (lineD r)) = false) : r ∉ ls := fun hm => by
  have := List.any_eq_false.mp h (lineD r) (List.mem_map.mpr ⟨r, hm, rfl⟩)
  rw [eqv_ln] at this
  simp at this
theorem nodup_snoc {α : Type} {xs : List α} {x : α} (h : xs.Nodup) (hx : x ∉ xs) : (xs ++ [x]).Nodup := by
  rw [List.nodup_append]
  refine ⟨h, by simp, fun a ha b hb e => ?_⟩
  rw [List.mem_singleton.mp hb] at e
  exact hx (e ▸ ha)
theorem sort_rows (rows : List Sq.Row) (m : Nat) (m1 : 1 ≤ m) (h : ∀ r ∈ rows, r.length = m) : PySem.W.AllAlike (rows.map intsD) ∧ PySem.W.Sortable (rows.map intsD) ∧ ∀ d ∈ rows.map intsD, d.depth ≤ 30 := by
  refine ⟨fun d hd d' hd' => ?_, .inl fun d hd => ?_, fun d hd => ?_⟩
  · obtain ⟨r, _, rfl⟩ := List.mem_map.mp hd
    obtain ⟨r', _, rfl⟩ := List.mem_map.mp hd'
    exact alike_intsD _ _
  · obtain ⟨r, hr, rfl⟩ := List.mem_map.mp hd
    have := h r hr
    cases r with
    | nil => simp at this; omega
    | cons x r => exact ⟨_, _, rfl⟩
  · obtain ⟨r, _, rfl⟩ := List.mem_map.mp hd
    exact Nat.le_trans (SN.ints r).dep (by decide)
theorem sort_lns (ls : List Ln) : PySem.W.AllAlike (ls.map lineD) ∧ PySem.W.Sortable (ls.map lineD) ∧ ∀ d ∈ ls.map lineD, d.depth ≤ 30 := by
  refine ⟨fun d hd d' hd' => ?_, .inl fun d hd => ?_, fun d hd => ?_⟩
  · obtain ⟨r, _, rfl⟩ := List.mem_map.mp hd
    obtain ⟨r', _, rfl⟩ := List.mem_map.mp hd'
    exact alike_ln _ _
  · obtain ⟨r, hr, rfl⟩ := List.mem_map.mp hd
    exact ⟨_, _, rfl⟩
  · obtain ⟨r, _, rfl⟩ := List.mem_map.mp hd
    exact Nat.le_trans (SN.ln r).dep (by decide)
structure RwS (m : Nat) (rows : List Sq.Row) : Prop where
  len : ∀ r ∈ rows, r.length = m
  bd : ∀ r ∈ rows, ∀ x ∈ r, 0 ≤ x ∧ x < 4
  nz : ∀ r ∈ rows, r.any (fun x => x != 0) = true
  nd : rows.Nodup
structure RwF (m : Nat) (rows : List Sq.Row) : Prop where
  len : ∀ r ∈ rows, r.length = m
  bd : ∀ r ∈ rows, ∀ x ∈ r, 0 ≤ x ∧ x < 4
  nz : ∀ r ∈ rows, r.any (fun x => x != 0) = true
  fr : Sq.freeB rows = true
def spFreeSet (K : PySem.W.Frag) : Sp := fun vs H Q _ => ∃ (a l c : Addr) (n m : Nat), vs = [.ref a, .int (m : Nat)] ∧ LSt H a l c n ∧ n ≤ 800000 ∧ 1 ≤ m ∧ m ≤ 3 ∧
  ∀ H' u ls, Sbt a l H H' → LSt H' a l c (n + 60) → Dp K H' u (setD m ls) → FSet m ls → Q u H'
abbrev s__law_free_set : Stmt := top 58
abbrev nm__law_free_set : List Str := ["state", "many_so", "found", "k", "rows", "j", "row", "line"]
abbrev pr__law_free_set : List Str := ["state", "many_so"]
theorem sc__law_free_set : FnScope nm__law_free_set pr__law_free_set (defScope s__law_free_set) := ⟨rfl, rfl, rfl, by decide +kernel, rfl, by decide +kernel, by decide +kernel⟩
section
variable {P : Program} {w : World} {K : PySem.W.Frag} {mg : Str → Option Value} {base : Heap}
theorem ok_free_set (B : Bl mg) (F1 : Df P w K mg base CX0 2 "_law_draw" pr__law_draw spDrawW) (F2 : Df P w K mg base CX0 3 "_law_row" pr__law_row (spRowL K)) (F3 : Df P w K mg base CX0 1 "_law_free" pr__law_free (spFree1 K)) (D : Dt K mg "_law_free_set" s__law_free_set pr__law_free_set) : Df P w K mg base CX0 4 "_law_free_set" pr__law_free_set (spFreeSet K) := by
  refine D.ok sc__law_free_set (fun vs H Q E h => ?_) (fun f cdv A outer s H vs Q E hr h => ?_)
  · obtain ⟨a, l, c, n, m, rfl, _⟩ := h
    rfl
  · obtain ⟨a, l, c, n, m, rfl, hst, hn, m1, m3, k⟩ := h
    refine ⟨_, (pss_cons (ps_set (i := 2) sc__law_free_set.nd rfl (Or.inl rfl) (pe_lst pa_nil)) (pss_cons (ps_for PassesOwn.never rfl (pi_range1 (by rfl) B.range (pa_cons (pe_f F1 (hr.mono (by decide)) pass0 (pa_cons (pv 0) (pa_cons pe_int pa_nil))) pa_nil)) (pg_name (i := 3) sc__law_free_set.nd rfl (Or.inl rfl)) (pss_cons (ps_set (i := 4) sc__law_free_set.nd rfl (Or.inl rfl) (pe_tup pa_nil)) (pss_cons (ps_for PassesOwn.never rfl (pi_range1 (by rfl) B.range (pa_cons (pe_f F1 (hr.mono (by decide)) pass0 (pa_cons (pv 0) (pa_cons (pe_op op_add (pv 1) pe_int) pa_nil))) pa_nil)) (pg_name (i := 5) sc__law_free_set.nd rfl (Or.inl rfl)) (pss_cons (ps_set (i := 6) sc__law_free_set.nd rfl (Or.inl rfl) (pe_f F2 (hr.mono (by decide)) pass0 (pa_cons (pv 0) (pa_cons (pv 1) (pa_cons pe_int pa_nil))))) (pss_one (ps_if (PW.pt (pw_and (pt_cmpR op_gt (pe_callB (cr_maxT rfl (hu65 hr)) (by rfl) B.max boot_max (pa_cons (pv 6) pa_nil)) pe_int (nomark _)) (pw_and1 (pt_val (pe_f F3 (hr.mono (by decide)) pass0 (pa_cons (pe_op (show OpR _ _ (rCatA K) from op_catA) (pv 4) (pe_tup (pa_cons (pv 6) pa_nil))) pa_nil)))))) (pss_one (ps_set (i := 4) sc__law_free_set.nd rfl (Or.inl rfl) (pe_op (show OpR _ _ (rCatA K) from op_catA) (pv 4) (pe_tup (pa_cons (pv 6) pa_nil))))) pss_nil)))) (pss_cons (ps_set (i := 7) sc__law_free_set.nd rfl (Or.inl rfl) (pe_tup (pa_cons (pe_f F2 (hr.mono (by decide)) pass0 (pa_cons (pv 0) (pa_cons (pv 1) (pa_cons pe_int pa_nil)))) (pa_cons (pe_callTy call_tuple_of (by rfl) B.tuple PyProof.Rows.boot_tuple (pa_cons (pe_callB (cr_sortedT (hu65 hr)) (by rfl) B.sorted boot_sorted (pa_cons (pv 4) pa_nil)) pa_nil)) pa_nil)))) (pss_one (ps_if (pt_cmpR (op_notInD (hu65 hr)) (pv 7) (pv 2) (by rfl)) (pss_one (ps_expr (pe_bm PySem.F.plainAttrs_list PySem.F.slot_list_append PySem.F.type_list_append mt_append (pv 2) (pa_cons (pv 7) pa_nil)))) pss_nil)))))) (pss_one (ps_ret (pe_tup (pa_cons (pv 1) (pa_cons (pe_callTy call_tuple_of (by rfl) B.tuple PyProof.Rows.boot_tuple (pa_cons (pe_callB (cr_sortedD (hu65 hr)) (by rfl) B.sorted boot_sorted (pa_cons (pv 2) pa_nil)) pa_nil)) pa_nil))))))), ?_⟩
    dsimp only [cxOf, Cx.nox, L2.start]
    refine sq_go ⟨Nat.zero_le _, fun F hF => ?_⟩
    obtain ⟨fa, fl, fc⟩ := hst.off hF
    have eF := Same.new (o := HO.lst []) hF
    have s0 := hst.same eF
    have g0 : Grw K H (upd H F (HO.lst [])) a l c F [] [] := ⟨upd_same, .nil, fa, fl, fc, hF, rfl⟩
    have e0 : Sbt a l H (upd H F (HO.lst [])) := Sbt.of eF
    generalize upd H F (HO.lst []) = H0 at *
    refine sq_fr ⟨_, rfl, a, l, c, _, 4, rfl, s0, by omega, by decide, by decide, fun H1 kk e1 s1 k1 k2 => ⟨_, rfl, by omega, by omega, for_it walk_range (fun i σ H' => Sbt a l H H' ∧ LSt H' a l c (n + 1 + 18 * i) ∧ ∃ (ys : List V) (ls : List Ln) (v3 v4 v5 v6 v7 : Option V), σ = [some (V.ref a), some (.int (m : Nat)), some (.ref F), v3, v4, v5, v6, v7] ∧ Grw K H H' a l c F ys (ls.map lineD) ∧ ls.Nodup ∧ (∀ x ∈ ls, LnF m x ∧ (Sq.sqOf m x.2).isSome = true) ∧ ls.length ≤ i) ⟨e0.trans e1, s1.mono (by omega), [], [], _, _, _, _, _, rfl, g0.sbt e1 s0, List.nodup_nil, fun x hx => (by cases hx), Nat.le_refl _⟩ (fun _ _ _ _ _ => trivial) (fun i x σ Hz H2 hi py y => ?_) (fun σ H2 py => ?_)⟩⟩
    · obtain ⟨e2, s2, ys, ls, v3, v4, v5, v6, v7, rfl, g2, nd2, lf2, ll2⟩ := py
      obtain ⟨rfl, rfl⟩ := y
      have hi3 : i < 3 := by omega
      dsimp only [gName]
      refine sq_go ⟨Nat.zero_le _, fun R hR => ?_⟩
      have eR := Same.new (o := HO.tup []) hR
      have s3 := s2.same eR
      have e3 := e2.same eR
      have g3 := g2.same eR
      have r3 : Dp K (upd H2 R (HO.tup [])) (.ref R) (.tuple (([] : List Sq.Row).map intsD)) := .tup (.of upd_same) .nil
      generalize upd H2 R (HO.tup []) = H3 at *
      refine sq_fr ⟨_, rfl, _, rfl, _, _, rfl, rfl, a, l, c, _, (m : Int) + 1, rfl, s3, by omega, by omega, by omega, fun H4 j4 e4 s4 j1 j2 => ⟨_, rfl, by omega, by omega, for_it walk_range (fun j σ H' => Sbt a l H H' ∧ LSt H' a l c (n + 1 + 18 * i + 1 + 3 * j) ∧ Grw K H H' a l c F ys (ls.map lineD) ∧ ∃ (rv : V) (rows : List Sq.Row) (v5 v6 v7 : Option V), σ = [some (V.ref a), some (.int (m : Nat)), some (.ref F), some (.int (0 + (i : Int))), some rv, v5, v6, v7] ∧ Dp K H' rv (.tuple (rows.map intsD)) ∧ RwF m rows ∧ rows.length ≤ j) ⟨e3.trans e4, s4.mono (by omega), g3.sbt e4 s3, .ref R, [], _, _, _, rfl, keepT e4 s3 _ _ (noList_intsL []) r3, ⟨fun _ h => (by cases h), fun _ h => (by cases h), fun _ h => (by cases h), rfl⟩, Nat.le_refl _⟩ (fun _ _ _ _ _ => trivial) (fun j x σ Hz H5 hj py y => ?_) (fun σ H5 py => ?_)⟩⟩
      · obtain ⟨e5, s5, g5, rv, rows, v5, v6, v7, rfl, r5, w5, rl5⟩ := py
        obtain ⟨rfl, rfl⟩ := y
        have hj3 : j < m := by omega
        dsimp only [gName]
        refine sq_go ⟨_, rfl, _, rfl, a, l, c, _, m, 4, rfl, s5, by omega, by omega, by decide, by decide, fun H6 u row e6 s6 hu rwl rwb => ?_⟩
        obtain ⟨p, rfl, hp⟩ := hu.ints_tup
        have e56 := e5.trans e6
        have g6 := g5.sbt e6 s5
        have r6 : Dp K H6 rv (.tuple (rows.map intsD)) := keepT e6 s5 _ _ (noList_intsL rows) r5
        have s6' : LSt H6 a l c (n + 1 + 18 * i + 1 + 3 * (j + 1)) := s6.mono (by omega)
        refine ⟨_, rfl, p, row, rfl, hp, by omega, fun mx h1 h2 => ⟨_, _, rfl, rfl, _, rfl, ?_⟩⟩
        by_cases c0 : (0 : Int) < mx
        rotate_left
        · rw [decide_eq_false c0]
          exact iteF ⟨e56, s6', g6, rv, rows, _, _, _, rfl, r6, w5, by omega⟩
        rw [decide_eq_true c0]
        obtain ⟨R6, zs6, rfl, hz6, hzl6, _, hza6⟩ := tup_view r6
        have len2 : ∀ r ∈ rows ++ [row], r.length = m := fun r hr => by
          rcases List.mem_append.mp hr with h | h
          · exact w5.len r h
          · rw [List.mem_singleton.mp h]; exact rwl
        have bd2 : ∀ r ∈ rows ++ [row], ∀ x ∈ r, 0 ≤ x ∧ x < 4 := fun r hr => by
          rcases List.mem_append.mp hr with h | h
          · exact w5.bd r h
          · rw [List.mem_singleton.mp h]; exact rwb
        have nz2 : ∀ r ∈ rows ++ [row], r.any (fun x => x != 0) = true := fun r hr => by
          rcases List.mem_append.mp hr with h | h
          · exact w5.nz r h
          · rw [List.mem_singleton.mp h, List.any_eq_true]
            exact ⟨mx, h1, by have : mx ≠ 0 := by omega
                              simpa using this⟩
        refine iteT ⟨_, rfl, _, rfl, Nat.le_of_ble_eq_true rfl, fun t ht => ?_⟩
        have nt := Same.new (o := HO.tup [V.ref p]) ht
        refine cat_ok (nt.seqT hz6) (.of upd_same) (by rw [hzl6, List.length_singleton, sizeLine_eq]; omega) fun r7 H7 e7 hr7 => ?_
        have n7 := nt.trans e7
        have d7 : Dp K H7 (.ref r7) (.tuple ((rows ++ [row]).map intsD)) := .tup hr7 (by rw [List.map_append]; exact DpAll_snoc (hza6.to n7) (hu.to n7))
        dsimp only [tNil]
        refine ⟨.ref r7, rows ++ [row], m, rfl, d7, len2, m3, fun r hr x hx => (by have := bd2 r hr x hx; omega), by rw [List.length_append, List.length_singleton]; omega, fun H8 e8 => ⟨_, rfl, ?_⟩⟩
        have n8 := n7.trans e8
        cases cf : Sq.freeB (rows ++ [row]) with
        | false => exact iteF ⟨e56.same n8, s6'.same n8, g6.same n8, _, rows, _, _, _, rfl, r6.to n8, w5, by omega⟩
        | true =>
          refine iteT ⟨_, rfl, _, rfl, Nat.le_of_ble_eq_true rfl, fun t9 ht9 => ?_⟩
          have nt9 := Same.new (o := HO.tup [V.ref p]) ht9
          refine cat_ok ((n8.trans nt9).seqT hz6) (.of upd_same) (by rw [hzl6, List.length_singleton, sizeLine_eq]; omega) fun rA HA eA hrA => ?_
          have nA := (n8.trans nt9).trans eA
          exact ⟨e56.same nA, s6'.same nA, g6.same nA, .ref rA, rows ++ [row], _, _, _, rfl, .tup hrA (by rw [List.map_append]; exact DpAll_snoc (hza6.to nA) (hu.to nA)), ⟨len2, bd2, nz2, cf⟩, by rw [List.length_append, List.length_singleton]; omega⟩
      · obtain ⟨e5, s5, g5, rv, rows, v5, v6, v7, rfl, r5, w5, rl5⟩ := py
        have rl3 : rows.length ≤ 3 := by omega
        dsimp only
        refine sq_go ⟨_, rfl, _, rfl, a, l, c, _, m, 4, rfl, s5, by omega, by omega, by decide, by decide, fun H6 u b e6 s6 hu bl bb => ?_⟩
        have e56 := e5.trans e6
        have g6 := g5.sbt e6 s5
        have r6 : Dp K H6 rv (.tuple (rows.map intsD)) := keepT e6 s5 _ _ (noList_intsL rows) r5
        obtain ⟨R6, zs6, rfl, hz6, hzl6, _, hza6⟩ := tup_view r6
        obtain ⟨so1, so2, so3⟩ := sort_rows rows m m1 w5.len
        have s6' : LSt H6 a l c (n + 1 + 18 * (i + 1)) := s6.mono (by omega)
        refine ⟨_, rfl, R6, zs6, rows.map intsD, rfl, hz6, hza6, noList_intsL rows, so1, so2, so3, fun zs2 es p2 hz2 pm od hp2 => ⟨p2, zs2, rfl, .inl ⟨.of upd_same, fun t ht => ⟨Nat.le_of_ble_eq_true rfl, fun q hq => ?_⟩⟩⟩⟩
        obtain ⟨rows', rfl, pm'⟩ := perm_map rowOf_ints pm
        have n1 := Same.new (o := HO.lst zs2) hp2
        have n2 := Same.new (o := HO.tup zs2) ht
        have dt : Dp K (upd (upd H6 p2 (HO.lst zs2)) t (HO.tup zs2)) (.ref t) (.tuple (rows'.map intsD)) := .tup (.of upd_same) (hz2.to (n1.trans n2))
        have du := hu.to (n1.trans n2)
        have n3 := Same.new (o := HO.tup [u, .ref t]) hq
        have dq : Dp K (upd (upd (upd H6 p2 (HO.lst zs2)) t (HO.tup zs2)) q (HO.tup [u, .ref t])) (.ref q) (lineD (b, rows')) := .tup (.of upd_same) (.cons (du.to n3) (.cons (dt.to n3) .nil))
        have n13 := (n1.trans n2).trans n3
        generalize (upd (upd (upd H6 p2 (HO.lst zs2)) t (HO.tup zs2)) q (HO.tup [u, .ref t])) = H7 at dq n13 ⊢
        have g7 := g6.same n13
        have s7 := s6'.same n13
        have e7 := e56.same n13
        have hB : Sq.hasB m rows = true := by rw [← Sq.free_eq w5.len m1 m3 rl3]; exact w5.fr
        have hB' : Sq.hasB m rows' = true := by rw [Sq.has_perm rl3 pm']; exact hB
        have nd' := Sq.has_nodup m1 m3 (by rw [pm'.length_eq]; exact rl3) (fun r hr => w5.len r (pm'.mem_iff.mp hr)) hB'
        have lf : LnF m (b, rows') := ⟨⟨bl, bb, fun p hp => w5.len p (pm'.mem_iff.mp hp), fun p hp => w5.bd p (pm'.mem_iff.mp hp), by show rows'.length ≤ 3; rw [pm'.length_eq]; exact rl3⟩, nd', fun p hp => w5.nz p (pm'.mem_iff.mp hp), od⟩
        have ff : (Sq.sqOf m (b, rows').2).isSome = true := by rw [Sq.sq_isSome]; exact hB'
        refine ⟨_, rfl, _, rfl, lineD (b, rows'), ls.map lineD, dq, .lst (.of g7.h) g7.dp, (SN.ln _).shaped (by decide), (SN.list (n := 3) fun d hd => by obtain ⟨x, _, rfl⟩ := List.mem_map.mp hd; exact .ln x).shaped (by decide), _, rfl, ?_⟩
        cases cn : ((ls.map lineD).any fun z => PyData.eqv z (lineD (b, rows'))) with
        | true => exact iteF ⟨e7, s7, ys, ls, _, _, _, _, _, rfl, g7, nd2, lf2, by omega⟩
        | false =>
          have nr := any_eqv_lns cn
          have yl := g7.dp.length
          rw [List.length_map] at yl
          refine iteT ⟨_, rfl, .inl ⟨rfl, _, .of g7.h⟩, _, rfl, F, ys, .ref q, rfl, rfl, g7.h, slt (by omega), e7.mut g7.z, s7.put fa fl fc, ys ++ [.ref q], ls ++ [(b, rows')], _, _, _, _, _, rfl, ?_, nodup_snoc nd2 nr, fun x hx => ?_, by rw [List.length_append, List.length_singleton]; omega⟩
          · rw [List.map_append]
            exact g7.app dq (noList_ln _)
          · rcases List.mem_append.mp hx with h | h
            · exact lf2 x h
            · rw [List.mem_singleton.mp h]; exact ⟨lf, ff⟩
    · obtain ⟨e2, s2, ys, ls, v3, v4, v5, v6, v7, rfl, g2, nd2, lf2, ll2⟩ := py
      obtain ⟨so1, so2, so3⟩ := sort_lns ls
      refine ⟨_, rfl, _, rfl, F, ys, ls.map lineD, rfl, .of g2.h, g2.dp, so1, so2, so3, fun zs2 es p2 hz2 pm od hp2 => ⟨p2, zs2, rfl, .inl ⟨.of upd_same, fun t ht => ⟨Nat.le_of_ble_eq_true rfl, fun q hq => ?_⟩⟩⟩⟩
      obtain ⟨ls', rfl, pm'⟩ := perm_map lnOf_ln pm
      have n1 := Same.new (o := HO.lst zs2) hp2
      have n2 := Same.new (o := HO.tup zs2) ht
      have dt : Dp K (upd (upd H2 p2 (HO.lst zs2)) t (HO.tup zs2)) (.ref t) (.tuple (ls'.map lineD)) := .tup (.of upd_same) (hz2.to (n1.trans n2))
      have n3 := Same.new (o := HO.tup [V.int (m : Nat), .ref t]) hq
      exact k _ _ ls' ((e2.same (n1.trans n2)).same n3) (((s2.same (n1.trans n2)).same n3).mono (by omega)) (.tup (.of upd_same) (.cons (.int _) (.cons (dt.to n3) .nil)))
        ⟨m1, m3, fun x hx => (lf2 x (pm'.mem_iff.mp hx)).1, fun x hx => (lf2 x (pm'.mem_iff.mp hx)).2, pm'.symm.nodup nd2, od, by rw [pm'.length_eq]; omega⟩
end
end Ws
/-! ## Q23b -/
namespace Ws
open PySem PySem.Spec PyProof.Rows L2 RZ
local macro_rules | `(tactic| walk_at "nf") => `(tactic| dsimp only [tNext, tSeq, tDrop, tRet, tRetN, tIfS, tAsg, gName, gTup, gCons, gNil, tVar, tC, tOp, tUn, rI, rI0, rU, rEq, rNe, tTest, tChain, tAnd, tOr, tNot, tAndV, tOrV, tNotV, tIf, tCB, tCKw, tCons, tNil, tTup, tLst, tCa, tCallS, tB, rIxT, rIxL, rIxS, cxOf, Cx.nox, Cx.wish, Cx.blk, L2.start, tPar, tPar3, tNever, tYes, tBits, tRz, tBM, rAppend, tyV, tXf, suiteEnds, gSub, rSetL, tBreak, rMax, tDGet, sDPut, tSl, tNoPart, tPart, tDisp, tPairs, tDGet2, tDNewK, tAugS, ipI, rGetL, tDIn, tDNotIn, tBM0, rPop])
local macro_rules | `(tactic| walk_at "sx") => `(tactic| simp only [wipe, List.cons.injEq, and_assoc, exists_and_left, and_true, List.map_cons, List.map_nil, List.length_cons, List.length_nil, List.cons_append, List.nil_append, List.append_nil, Nat.reduceAdd, Nat.reduceSub, List.replicate, List.getElem?_cons_zero, List.getElem?_cons_succ, List.set_cons_zero, List.set_cons_succ, Option.some.injEq, V.int.injEq, V.bl.injEq, V.ref.injEq, V.str.injEq, exists_eq_left', exists_eq_left, true_and, Bool.true_eq_false, Bool.false_eq_true, if_true, if_false])

def spMadeRow (K : PySem.W.Frag) : Sp := fun vs H Q _ => ∃ (a l c : Addr) (n : Nat) (sv : V) (m : Nat) (ls : List Ln), vs = [.ref a, sv] ∧ LSt H a l c n ∧ n ≤ 800000 ∧ Dp K H sv (setD m ls) ∧ DrS m ls ∧
  ∀ H' u row, Sbt a l H H' → LSt H' a l c (n + 20) → Dp K H' u (intsD row) → row.length = m → (∀ x ∈ row, 0 ≤ x ∧ x ≤ 1000) → Q u H'
abbrev s__law_made_row : Stmt := top 59
abbrev nm__law_made_row : List Str := ["state", "value", "many_so", "lines_so", "pick", "base", "rows", "found", "row", "times_so", "spot", "number", "step"]
abbrev pr__law_made_row : List Str := ["state", "value"]
theorem sc__law_made_row : FnScope nm__law_made_row pr__law_made_row (defScope s__law_made_row) := ⟨rfl, rfl, rfl, by decide +kernel, rfl, by decide +kernel, by decide +kernel⟩
section
variable {P : Program} {w : World} {K : PySem.W.Frag} {mg : Str → Option Value} {base : Heap}
theorem ok_made_row (B : Bl mg) (F1 : Df P w K mg base CX0 2 "_law_draw" pr__law_draw spDrawW) (F2 : Df P w K mg base CX0 3 "_law_row" pr__law_row (spRowL K)) (D : Dt K mg "_law_made_row" s__law_made_row pr__law_made_row) : Df P w K mg base CX0 4 "_law_made_row" pr__law_made_row (spMadeRow K) := by
  refine D.ok sc__law_made_row (fun vs H Q E h => ?_) (fun f cdv A outer s H vs Q E hr h => ?_)
  · obtain ⟨a, l, c, n, sv, m, ls, rfl, _⟩ := h
    rfl
  · obtain ⟨a, l, c, n, sv, m, ls, rfl, hst, hn, hsv, o, k⟩ := h
    refine ⟨_, (pss_cons (ps_asg (pv 1) (pg_tup rfl (pgs_cons (pg_name (i := 2) sc__law_made_row.nd rfl (Or.inl rfl)) (pgs_cons (pg_name (i := 3) sc__law_made_row.nd rfl (Or.inl rfl)) pgs_nil)))) (pss_cons (ps_set (i := 4) sc__law_made_row.nd rfl (Or.inl rfl) (pe_f F1 (hr.mono (by decide)) pass0 (pa_cons (pv 0) (pa_cons pe_int pa_nil)))) (pss_cons (ps_if (PW.pt (pw_or (pt_cmpR (op_eqD (hu64 hr)) (pv 3) (pe_tup pa_nil) (nomark _)) (pw_or1 (pt_cmpR op_eq (pv 4) pe_int (nomark _))))) (pss_one (ps_ret (pe_f F2 (hr.mono (by decide)) pass0 (pa_cons (pv 0) (pa_cons (pv 2) (pa_cons pe_int pa_nil)))))) pss_nil) (pss_cons (ps_asg (pe_ix ix_tup (pv 3) (pe_f F1 (hr.mono (by decide)) pass0 (pa_cons (pv 0) (pa_cons (pe_callB call_len_seq (by rfl) B.len PySem.boot_len (pa_cons (pv 3) pa_nil)) pa_nil))) (fun _ _ => rfl)) (pg_tup rfl (pgs_cons (pg_name (i := 5) sc__law_made_row.nd rfl (Or.inl rfl)) (pgs_cons (pg_name (i := 6) sc__law_made_row.nd rfl (Or.inl rfl)) pgs_nil)))) (pss_cons (ps_set (i := 7) sc__law_made_row.nd rfl (Or.inl rfl) (pe_callTy call_list_of (by rfl) B.list PyProof.Rows.boot_list (pa_cons (pv 5) pa_nil))) (pss_cons (ps_for PassesOwn.never rfl (pi_tup (pv 6)) (pg_name (i := 8) sc__law_made_row.nd rfl (Or.inl rfl)) (pss_cons (ps_set (i := 9) sc__law_made_row.nd rfl (Or.inr rfl) (pe_f F1 (hr.mono (by decide)) pass0 (pa_cons (pv 0) (pa_cons pe_int pa_nil)))) (pss_one (ps_setLc (i := 7) (own := [("number", 11), ("step", 12)]) (g := gTup K 2 (gCons (gName 11) (gCons (gName 12) gNil))) (tt := tYes) rfl sc__law_made_row.nd rfl rfl (sw_true rfl rfl rfl (by decide +kernel)) (pi_zipL (by rfl) B.zip (pa_cons (pv 7) (pa_cons (pv 8) pa_nil))) (blkOk_by (own := [("number", 11), ("step", 12)]) (N := nm__law_made_row) (sc := defScope s__law_made_row) (by decide +kernel)) (fun _ _ _ _ _ => pg_tup rfl (pgs_cons (pg_name (i := 11) sc__law_made_row.nd rfl (Or.inl rfl)) (pgs_cons (pg_name (i := 12) sc__law_made_row.nd rfl (Or.inl rfl)) pgs_nil))) (fun _ _ _ _ _ => pts_nil) (fun _ _ _ _ _ => (pe_op op_add (pv 11) (pe_op op_mul (pv 9) (pv 12)))))))) (pss_cons (ps_if (pt_cmpR op_eq (pv 4) pe_int (nomark _)) (pss_cons (ps_set (i := 10) sc__law_made_row.nd rfl (Or.inl rfl) (pe_f F1 (hr.mono (by decide)) pass0 (pa_cons (pv 0) (pa_cons (pv 2) pa_nil)))) (pss_one (ps_asg (pe_callB (call_max2 rfl) (by rfl) B.max boot_max (pa_cons pe_int (pa_cons (pe_op op_sub (pe_op op_add (pe_ix ix_list (pv 7) (pv 10) (fun _ _ => rfl)) (pe_op op_mul pe_int (pe_f F1 (hr.mono (by decide)) pass0 (pa_cons (pv 0) (pa_cons pe_int pa_nil))))) pe_int) pa_nil))) (pg_sub (pv 7) (pv 10) set_list)))) pss_nil) (pss_one (ps_ret (pe_callTy call_tuple_of (by rfl) B.tuple PyProof.Rows.boot_tuple (pa_cons (pv 7) pa_nil))))))))))), ?_⟩
    dsimp only [cxOf, Cx.nox, L2.start]
    obtain ⟨p, u, rfl, hp, hu⟩ := set_v hsv
    obtain ⟨b, zs, rfl, hz, hzl, hzat, hza⟩ := tup_view hu
    have m1 := o.m1
    have m3 := o.m3
    have ol2 := o.l2
    refine sq_as ⟨_, rfl, p, _, rfl, hp, rfl, _, _, rfl, _, _, rfl, rfl, ?_⟩
    refine sq_go ⟨_, rfl, a, l, c, _, 4, rfl, hst, by omega, by decide, by decide, fun H1 pk e1 s1 r1 r2 => ?_⟩
    have hz1 := e1.seqT hst hz
    have hu1 : Dp K H1 (.ref b) (.tuple (ls.map lineD)) := keepT e1 hst _ _ (noList_lns ls) hu
    refine sq_if0 ⟨_, rfl, Nat.zero_le _, fun p2 hp2 => ⟨_, .tuple [], hu1.to (Same.new hp2), .tup (.of upd_same) .nil, (SN.tuple (n := 3) fun d hd => by obtain ⟨x, _, rfl⟩ := List.mem_map.mp hd; exact .ln x).shaped (by decide), (SN.tuple (n := 0) (ds := []) (by simp)).shaped (by decide), _, rfl, ?_⟩⟩
    have e2 : Same H1 (upd H1 p2 (HO.tup [])) := Same.new hp2
    have s2 := s1.same e2
    have e02 := e1.same e2
    have hz2 := e2.seqT hz1
    have hu2 := hu1.to e2
    generalize upd H1 p2 (HO.tup []) = H2 at *
    rw [eqv_nil_t]
    cases hE : (ls.map lineD).isEmpty with
    | true => exact iteT (iteT ⟨_, rfl, _, rfl, a, l, c, _, m, 9, rfl, s2, by omega, by omega, by decide, by decide, fun H3 u row e3 s3 hu rl rb => k H3 u row (e02.trans e3) (s3.mono (by omega)) hu rl fun x hx => ⟨(rb x hx).1, by have := (rb x hx).2; omega⟩⟩)
    | false =>
    have ol1 : 1 ≤ ls.length := by
      cases ls with
      | nil => cases hE
      | cons => simp
    refine iteF ⟨_, rfl, rfl, _, rfl, ?_⟩
    by_cases c3 : V.int pk = V.int 3
    · rw [decide_eq_true c3]
      exact iteT ⟨_, rfl, _, rfl, a, l, c, _, m, 9, rfl, s2, by omega, by omega, by decide, by decide, fun H3 u row e3 s3 hu rl rb => k H3 u row (e02.trans e3) (s3.mono (by omega)) hu rl fun x hx => ⟨(rb x hx).1, by have := (rb x hx).2; omega⟩⟩
    rw [decide_eq_false c3]
    refine iteF (sq_as ⟨_, rfl, _, rfl, _, rfl, b, zs, rfl, .inr hz2, a, l, c, _, _, rfl, s2, by omega, by omega, by omega, fun H3 i e3 s3 i1 i2 => ?_⟩)
    obtain ⟨i, rfl⟩ : ∃ j : Nat, i = (j : Nat) := ⟨i.toNat, by omega⟩
    have hu3 : Dp K H3 (.ref b) (.tuple (ls.map lineD)) := keepT e3 s2 _ _ (noList_lns ls) hu2
    obtain ⟨b', zs', eb, hz3, hzl3, hzat3, _⟩ := tup_view hu3
    cases eb
    have hiz : i < zs'.length := by omega
    obtain ⟨z, hzi⟩ : ∃ z, zs'[i]? = some z := ⟨_, List.getElem?_eq_getElem hiz⟩
    obtain ⟨ln, hln, hdl⟩ := hzat3 i z hzi
    obtain ⟨pz, b1, u1, rfl, hpz, hb1, hu1'⟩ := ln_v hdl
    have ol := o.lo ln (List.mem_of_getElem? hln)
    obtain ⟨q, rfl, hq⟩ := hb1.ints_tup
    obtain ⟨b2, ps, rfl, hps, hpl, hpat, _⟩ := tup_view hu1'
    have e03 := e02.trans e3
    refine ⟨b, zs', _, _, rfl, rfl, hz3, atI_nat hzi, pz, _, rfl, hpz, rfl, _, _, rfl, _, _, rfl, rfl, ?_⟩
    refine sq_go ⟨_, rfl, q, _, rfl, .inr hq, fun D hD => ?_⟩
    dsimp only
    obtain ⟨da, dl, dc⟩ := s3.off hD
    have eD := Same.new (o := HO.lst (ln.1.map V.int)) hD
    have s4 := s3.same eD
    have hpat4 : ∀ (j : Nat) (z : V), ps[j]? = some z → ∃ r, ln.2[j]? = some r ∧ Dp K (upd H3 D (HO.lst (ln.1.map V.int))) z (intsD r) := fun j z hj => by
      obtain ⟨r, h1, h2⟩ := hpat j z hj
      exact ⟨r, h1, h2.to eD⟩
    have e04 := e03.same eD
    have hps4 := eD.seqT hps
    have f4 : Fnd K H (upd H3 D (HO.lst (ln.1.map V.int))) a l c D ln.1 := ⟨upd_same, da, dl, dc, e03.free hD da dl⟩
    generalize upd H3 D (HO.lst (ln.1.map V.int)) = H4 at *
    refine sq_fr ⟨_, rfl, b2, rfl, ⟨_, hps4⟩, for_it walk_tup (fun i σ H' => Sbt a l H H' ∧ LSt H' a l c (n + 2 + i) ∧ (∀ (j : Nat) (z : V), ps[j]? = some z → ∃ r, ln.2[j]? = some r ∧ Dp K H' z (intsD r)) ∧ SqT K H' b2 ps ∧ ∃ (D : Addr) (ws : List Int) (v8 v9 v10 v11 v12 : Option V), σ = [some (V.ref a), some (V.ref p), some (.int (m : Nat)), some (.ref b), some (.int pk), some (.ref q), some (.ref b2), some (.ref D), v8, v9, v10, v11, v12] ∧ Fnd K H H' a l c D ws ∧ ws.length = m ∧ ∀ x ∈ ws, 0 ≤ x ∧ x ≤ 3 + 9 * (i : Int)) ⟨e04, s4.mono (by omega), hpat4, hps4, D, ln.1, _, _, _, _, _, rfl, f4, ol.bl, fun x hx => ⟨(ol.bb x hx).1, by have := (ol.bb x hx).2; omega⟩⟩ (fun _ _ _ _ p => p.2.2.2.1) (fun i x σ H5 H6 hi py y => ?_) (fun σ H5 py => ?_)⟩
    · obtain ⟨g1, g2, g3, g4, D, ws, v8, v9, v10, v11, v12, rfl, f5, wl, wb⟩ := py
      obtain ⟨rfl, hx⟩ := y
      rw [hpl] at hi
      have on3 := ol.n3
      obtain ⟨pe, hpe, hdpe⟩ := g3 i x hx
      have lpe := ol.pl pe (List.mem_of_getElem? hpe)
      have bpe := ol.pb pe (List.mem_of_getElem? hpe)
      dsimp only [gName]
      refine sq_go ⟨_, rfl, a, l, c, _, 4, rfl, g2, by omega, by decide, by decide, fun H7 t e7 s7 t1 t2 => ?_⟩
      have hd7 : Dp K H7 x (intsD pe) := keepT e7 g2 _ _ (noList_ints _) hdpe
      obtain ⟨bx, rfl, hbx⟩ := hd7.ints_tup
      have f7 := f5.sbt e7
      have g47 := e7.seqT g2 g4
      have g37 : ∀ (j : Nat) (z : V), ps[j]? = some z → ∃ r, ln.2[j]? = some r ∧ Dp K H7 z (intsD r) := fun j z hj => by
        obtain ⟨r, h1, h2⟩ := g3 j z hj
        exact ⟨r, h1, keepT e7 g2 _ _ (noList_ints _) h2⟩
      have hmm : min (ws.map V.int).length (pe.map V.int).length = m := by rw [List.length_map, List.length_map, lpe, wl, Nat.min_self]
      refine ⟨_, rfl, _, rfl, D, bx, _, _, rfl, .of f7.h, hbx, fun D2 hD2 => lcS walk_zipL hD2 (by rw [hmm]; exact slt (by omega)) (fun j y => y = .int (ws.getD j 0 + t * pe.getD j 0)) (fun H e => ⟨e.seq (.of f7.h), e.seqT hbx⟩) (fun j x H8 H9 Q1 hj e y q1 => ?_) (fun H8 ys e8 hy8 hn8 hr8 => ?_)⟩
      · obtain ⟨T, x1, x2, rfl, hT, rfl, h1, h2⟩ := y
        obtain ⟨rfl, rfl, m1, m2⟩ := pair_at hj h1 h2
        have e2 := Same.new (o := HO.tup [V.int (ws.getD j 0), V.int (pe.getD j 0)]) hT
        exact ⟨T, _, rfl, .of upd_same, rfl, _, _, rfl, _, _, rfl, rfl, rfl, _, rfl, _, rfl, _, rfl, _, _, rfl, rfl, .inl ⟨by omega, by omega⟩, _, _, rfl, rfl, q1 _ _ rfl e2⟩
      · have ev := vals_int (f := fun j => ws.getD j 0 + t * pe.getD j 0) hn8 hr8
        rw [hmm] at ev
        subst ev
        obtain ⟨da2, dl2, dc2⟩ := s7.off hD2
        have e07 := (Sbt.trans g1 e7)
        have hz2 := e07.free hD2 da2 dl2
        refine ⟨e07.same e8, (s7.same e8).mono (by omega), fun j z hj => ?_, e8.seqT g47, D2, _, _, _, _, _, _, rfl, ⟨hy8, da2, dl2, dc2, hz2⟩, by simp, fun x hx => ?_⟩
        · obtain ⟨r, h1, h2⟩ := g37 j z hj
          exact ⟨r, h1, h2.to e8⟩
        · obtain ⟨j, hj, rfl⟩ := List.mem_map.mp hx
          have hj2 := List.mem_range.mp hj
          have e1 : ws.getD j 0 = ws[j]'(by omega) := by rw [List.getD_eq_getElem?_getD, List.getElem?_eq_getElem (by omega)]; rfl
          have e2 : pe.getD j 0 = pe[j]'(by omega) := by rw [List.getD_eq_getElem?_getD, List.getElem?_eq_getElem (by omega)]; rfl
          have b1 := wb _ (List.getElem_mem (show j < ws.length by omega))
          have b2 := bpe _ (List.getElem_mem (show j < pe.length by omega))
          rw [e1, e2]
          generalize ws[j]'(by omega) = x1 at *
          generalize pe[j]'(by omega) = x2 at *
          have n1 : 0 ≤ t * x2 := Int.mul_nonneg t1 b2.1
          have n2 : t * x2 ≤ 3 * 3 := Int.mul_le_mul (by omega) (by omega) b2.1 (by decide)
          omega
    · obtain ⟨g1, g2, g3, g4, D, ws, v8, v9, v10, v11, v12, rfl, f5, wl, wb⟩ := py
      have on3 := ol.n3
      rw [hpl] at g2 wb
      have fin : ∀ (σ' : L2.St) (H' : Hp) (ws' : List Int), σ'[7]? = some (some (.ref D)) → Sbt a l H H' → LSt H' a l c (n + 20) → Fnd K H H' a l c D ws' → ws'.length = m → (∀ x ∈ ws', 0 ≤ x ∧ x ≤ 1000) → tRet (tCB (fun xs H Q => ∃ p ys, xs = [V.ref p] ∧ ((SqL K H p ys ∧ ∀ (l : Addr), H l = none → Q (V.ref l) (upd H l (HO.tup ys))) ∨ SqT K H p ys ∧ Q (V.ref p) H)) (tCons (tVar 7) tNil)) { nx := fun x H' => Q V.non H', rt := Q } σ' H' := fun σ' H' ws' h3 e' s' f' wl' wb' =>
        ⟨_, h3, D, _, rfl, .inl ⟨.of f'.h, fun t ht => k _ _ ws' (e'.same (Same.new ht)) (s'.new ht) (Dp.tup_ints (.of upd_same)) wl' wb'⟩⟩
      dsimp only
      refine sq_if0 ⟨_, rfl, rfl, _, rfl, ?_⟩
      by_cases c2 : V.int pk = V.int 2
      rotate_left
      · rw [decide_eq_false c2]
        exact iteF (fin _ _ ws rfl g1 (g2.mono (by omega)) f5 wl fun x hx => by have := wb x hx; omega)
      rw [decide_eq_true c2]
      refine iteT (sq_go ⟨_, rfl, _, rfl, a, l, c, _, m, rfl, g2, by omega, by omega, by omega, fun H7 i7 e7 s7 t1 t2 => ?_⟩)
      obtain ⟨i7, rfl⟩ : ∃ j : Nat, i7 = (j : Nat) := ⟨i7.toNat, by omega⟩
      have f7 := f5.sbt e7
      refine ⟨_, rfl, _, rfl, D, _, _, _, rfl, rfl, .of f7.h, atI_getD (j := i7) (by omega), _, rfl, a, l, c, _, 2, rfl, s7, by omega, by decide, by decide, fun H8 r e8 s8 r1 r2 => ?_⟩
      have f8 := f7.sbt e8
      have e1 : ws.getD i7 0 = ws[i7]'(by omega) := by rw [List.getD_eq_getElem?_getD, List.getElem?_eq_getElem (by omega)]; rfl
      have b1 := wb _ (List.getElem_mem (show i7 < ws.length by omega))
      rw [← e1] at b1
      generalize ws.getD i7 0 = wx at *
      refine ⟨_, _, rfl, rfl, .inl ⟨by omega, by omega⟩, _, _, rfl, rfl, _, _, rfl, rfl, _, _, rfl, ?_⟩
      refine ⟨_, rfl, _, rfl, D, _, _, i7, rfl, rfl, f8.h, ixn (by rw [List.length_map]; omega), ?_⟩
      have f9 := f8.put (i := i7) (x := if wx + 2 * r - 1 > 0 then wx + 2 * r - 1 else 0)
      refine fin _ _ _ rfl (((g1.trans e7).trans e8).mut f8.z) ((s8.put f8.a f8.l f8.c).mono (by omega)) f9 (by rw [List.length_set]; exact wl) (mem_set_B (fun x hx => by have := wb x hx; omega) (by split <;> omega))
end
end Ws
/-! ## Q23c -/
namespace Ws
open PySem PySem.Spec PyProof.Rows L2 RZ
local macro_rules | `(tactic| walk_at "nf") => `(tactic| dsimp only [tNext, tSeq, tDrop, tRet, tRetN, tIfS, tAsg, gName, gTup, gCons, gNil, tVar, tC, tOp, tUn, rI, rI0, rU, rEq, rNe, tTest, tChain, tAnd, tOr, tNot, tAndV, tOrV, tNotV, tIf, tCB, tCKw, tCons, tNil, tTup, tLst, tCa, tCallS, tB, rIxT, rIxL, rIxS, cxOf, Cx.nox, Cx.wish, Cx.blk, L2.start, tPar, tPar3, tNever, tYes, tBits, tRz, tBM, rAppend, tyV, tXf, suiteEnds, gSub, rSetL, tBreak, rMax, tDGet, sDPut, tSl, tNoPart, tPart, tDisp, tPairs, tDGet2, tDNewK, tAugS, ipI, rGetL, tDIn, tDNotIn, tBM0, rPop])
local macro_rules | `(tactic| walk_at "sx") => `(tactic| simp only [wipe, List.cons.injEq, and_assoc, exists_and_left, and_true, List.map_cons, List.map_nil, List.length_cons, List.length_nil, List.cons_append, List.nil_append, List.append_nil, Nat.reduceAdd, Nat.reduceSub, List.replicate, List.getElem?_cons_zero, List.getElem?_cons_succ, List.set_cons_zero, List.set_cons_succ, Option.some.injEq, V.int.injEq, V.bl.injEq, V.ref.injEq, V.str.injEq, exists_eq_left', exists_eq_left, true_and, Bool.true_eq_false, Bool.false_eq_true, if_true, if_false])

def spTurnsR (K : PySem.W.Frag) : Sp := fun vs H Q _ => ∃ (lv rv tv : V) (bs : Sq.Row) (pers : List Sq.Row) (row : Sq.Row) (ts : List Int) (m : Nat), vs = [lv, rv, tv] ∧ Dp K H lv (lnD bs pers) ∧ Dp K H rv (intsD row) ∧ Dp K H tv (intsD ts) ∧
  ts.length = pers.length ∧ (∀ t ∈ ts, 0 ≤ t) ∧ Sq.rowAt bs pers ts = row ∧ bs.length = m ∧ m ≤ 3 ∧ (∀ r ∈ pers, r.length = m) ∧ (∀ r ∈ pers, ∀ x ∈ r, 0 ≤ x ∧ x < 4) ∧ pers.length ≤ 3 ∧ ∀ H', Same H H' → Q (.bl true) H'
abbrev s__law_turns_right : Stmt := top 64
abbrev nm__law_turns_right : List Str := ["line", "row", "told", "found", "times_so", "step", "number", "more"]
abbrev pr__law_turns_right : List Str := ["line", "row", "told"]
theorem sc__law_turns_right : FnScope nm__law_turns_right pr__law_turns_right (defScope s__law_turns_right) := ⟨rfl, rfl, rfl, by decide +kernel, rfl, by decide +kernel, by decide +kernel⟩
theorem rowAt_take {bs : Sq.Row} {pers : List Sq.Row} {ts : List Int} {i : Nat} {p : Sq.Row} {t : Int} (h1 : pers[i]? = some p) (h2 : ts[i]? = some t) : Sq.rowAt bs (pers.take (i + 1)) (ts.take (i + 1)) = Sq.addk (Sq.rowAt bs (pers.take i) (ts.take i)) p t := by
  have l1 := (List.getElem?_eq_some_iff.mp h1).1
  have l2 := (List.getElem?_eq_some_iff.mp h2).1
  unfold Sq.rowAt
  rw [List.take_succ, List.take_succ, h1, h2]
  show ((pers.take i ++ [p]).zip (ts.take i ++ [t])).foldl _ bs = _
  rw [List.zip_append (by rw [List.length_take, List.length_take]; omega), List.foldl_append]
  rfl
section
variable {P : Program} {w : World} {K : PySem.W.Frag} {mg : Str → Option Value} {base : Heap}
theorem ok_turnsR (B : Bl mg) (F1 : Df P w K mg base CX0 1 "_law_whole" pr__law_whole (spWhole K)) (D : Dt K mg "_law_turns_right" s__law_turns_right pr__law_turns_right) : Df P w K mg base CX0 2 "_law_turns_right" pr__law_turns_right (spTurnsR K) := by
  refine D.ok sc__law_turns_right (fun vs H Q E h => ?_) (fun f cdv A outer s H vs Q E hr h => ?_)
  · obtain ⟨lv, rv, tv, bs, pers, row, ts, m, rfl, _⟩ := h
    rfl
  · obtain ⟨lv, rv, tv, bs, pers, row, ts, m, rfl, hl, hrv, ht, tl, t0, hrow, bl, m3, pl, pb, n3, k⟩ := h
    refine ⟨_, (pss_cons (ps_if (PW.pt (pw_or (pt_not (pt_val (pe_callB call_isi (by rfl) B.isinstance boot_isinstance (pa_cons (pv 2) (pa_cons (pe_bltn (v := .ty "tuple") (by rfl) B.tuple PyProof.Rows.boot_tuple rfl) pa_nil))))) (pw_or1 (pt_cmpR op_ne (pe_callB call_len_seq (by rfl) B.len PySem.boot_len (pa_cons (pv 2) pa_nil)) (pe_callB call_len_seq (by rfl) B.len PySem.boot_len (pa_cons (pe_ix ix_tup (pv 0) pe_int (fun _ _ => rfl)) pa_nil)) (nomark _))))) (pss_one (ps_ret pe_bl)) pss_nil) (pss_cons (ps_set (i := 3) sc__law_turns_right.nd rfl (Or.inl rfl) (pe_callTy call_list_of (by rfl) B.list PyProof.Rows.boot_list (pa_cons (pe_ix ix_tup (pv 0) pe_int (fun _ _ => rfl)) pa_nil))) (pss_cons (ps_for PassesOwn.never rfl (pi_zipB (by rfl) B.zip (pa_cons (pv 2) (pa_cons (pe_ix ix_tup (pv 0) pe_int (fun _ _ => rfl)) pa_nil))) (pg_tup rfl (pgs_cons (pg_name (i := 4) sc__law_turns_right.nd rfl (Or.inr rfl)) (pgs_cons (pg_name (i := 5) sc__law_turns_right.nd rfl (Or.inl rfl)) pgs_nil))) (pss_cons (ps_if (PW.pt (pw_or (pt_not (pt_val (pe_f F1 (hr.mono (by decide)) pass0 (pa_cons (pv 4) pa_nil)))) (pw_or1 (pt_cmpR op_lt (pv 4) pe_int (nomark _))))) (pss_one (ps_ret pe_bl)) pss_nil) (pss_one (ps_setLc (i := 3) (own := [("number", 6), ("more", 7)]) (g := gTup K 2 (gCons (gName 6) (gCons (gName 7) gNil))) (tt := tYes) rfl sc__law_turns_right.nd rfl rfl (sw_true rfl rfl rfl (by decide +kernel)) (pi_zipL (by rfl) B.zip (pa_cons (pv 3) (pa_cons (pv 5) pa_nil))) (blkOk_by (own := [("number", 6), ("more", 7)]) (N := nm__law_turns_right) (sc := defScope s__law_turns_right) (by decide +kernel)) (fun _ _ _ _ _ => pg_tup rfl (pgs_cons (pg_name (i := 6) sc__law_turns_right.nd rfl (Or.inl rfl)) (pgs_cons (pg_name (i := 7) sc__law_turns_right.nd rfl (Or.inl rfl)) pgs_nil))) (fun _ _ _ _ _ => pts_nil) (fun _ _ _ _ _ => (pe_op op_add (pv 6) (pe_op op_mul (pv 4) (pv 7)))))))) (pss_one (ps_ret (pe_cmpR (op_eqD (hu64 hr)) (pe_callTy call_tuple_of (by rfl) B.tuple PyProof.Rows.boot_tuple (pa_cons (pv 3) pa_nil)) (pv 1) (nomark _))))))), ?_⟩
    dsimp only [cxOf, Cx.nox, L2.start]
    obtain ⟨p, b1, u1, rfl, hp, hb1, hu1⟩ := ln_v hl
    obtain ⟨q, rfl, hq⟩ := hb1.ints_tup
    obtain ⟨b2, ps, rfl, hps, hpl, hpat, _⟩ := tup_view hu1
    obtain ⟨tp, rfl, htp⟩ := ht.ints_tup
    obtain ⟨rp, rfl, hrp⟩ := hrv.ints_tup
    refine sq_if0 ?_
    have first : ∀ (R : Bool → Hp → Prop), R false H → (tOr (tNot (tB (tCB (rIsi K) (tCons (tVar 2) (tCons (tC (V.ty "tuple")) tNil))))) (tTest
          (tOp rNe (tLen K 2) (tCB (fun xs H Q => ∃ p ys, xs = [V.ref p] ∧ (SqL K H p ys ∨ SqT K H p ys) ∧ Q (V.int ys.length) H)
              (tCons (tOp (rIxT K) (tVar 0) (tC (V.int 1))) tNil))))) [some (V.ref p), some (.ref rp), some (.ref tp), none, none, none, none, none] H R := fun R h => by
      walk_at "nf"
      refine ⟨_, rfl, isi_tuple ht ⟨_, rfl, iteF ⟨_, rfl, tp, _, rfl, .inr htp, _, rfl, p, _, 1, _, rfl, rfl, hp, rfl, b2, _, rfl, .inr hps, rfl, _, rfl, ?_⟩⟩⟩
      have e : V.int ((ts.map V.int).length : Nat) = V.int (ps.length : Nat) := by rw [List.length_map, tl, hpl]
      rw [decide_eq_true e]
      exact h
    refine first _ (iteF ?_)
    refine sq_go ⟨_, rfl, p, _, 0, _, rfl, rfl, hp, rfl, q, _, rfl, .inr hq, fun D hD => ?_⟩
    have eD := Same.new (o := HO.lst (bs.map V.int)) hD
    have hD1 : (upd H D (HO.lst (bs.map V.int))) D = some (.lst (bs.map V.int)) := upd_same
    generalize upd H D (HO.lst (bs.map V.int)) = H1 at *
    have mn : min (ts.map V.int).length ps.length = pers.length := by rw [List.length_map, hpl, tl, Nat.min_self]
    refine sq_fr ⟨_, rfl, _, rfl, p, _, 1, _, rfl, rfl, eD.seqT hp, rfl, tp, b2, rfl, zipB_core (us := ts.map V.int) (vs := ps) eD htp (.inl hps) fun J G wk hG => for_it wk (fun i σ H' => Same H H' ∧ ∃ (D : Addr) (v4 v5 v6 v7 : Option V), σ = [some (V.ref p), some (.ref rp), some (.ref tp), some (.ref D), v4, v5, v6, v7] ∧ H' D = some (.lst ((Sq.rowAt bs (pers.take i) (ts.take i)).map V.int))) ⟨eD, D, _, _, _, _, rfl, hD1⟩ (fun i σ H' _ q => hG H' q.1) (fun i x σ H2 H3 hi py y => ?_) (fun σ H2 py => ?_)⟩
    · obtain ⟨s2, D, v4, v5, v6, v7, rfl, hD2⟩ := py
      obtain ⟨T, x1, x2, rfl, hT, rfl, h1, h2⟩ := y
      rw [mn] at hi
      obtain ⟨t, ht1, rfl⟩ := ints_get h1
      obtain ⟨pe, hpe, hdpe⟩ := hpat i x2 h2
      have t0' := t0 t (List.mem_of_getElem? ht1)
      have pel := pl pe (List.mem_of_getElem? hpe)
      have peb := pb pe (List.mem_of_getElem? hpe)
      obtain ⟨bx, rfl, hbx⟩ := hdpe.ints_tup
      have eT := Same.new (o := HO.tup [V.int t, .ref bx]) hT
      have s3 := s2.trans eT
      have hD3 := eT _ _ hD2
      have hT3 : SqT K (upd H2 T (HO.tup [V.int t, .ref bx])) T [V.int t, .ref bx] := .of upd_same
      generalize upd H2 T (HO.tup [V.int t, .ref bx]) = H4 at *
      refine ⟨T, _, rfl, hT3, rfl, _, _, rfl, _, _, rfl, rfl, ?_⟩
      refine sq_if0 ⟨_, rfl, .int t, .int t, rfl, .int t, _, rfl, iteF ⟨_, rfl, _, _, rfl, rfl, _, rfl, ?_⟩⟩
      rw [decide_eq_false (show ¬ t < 0 by omega)]
      refine iteF ?_
      generalize hws : Sq.rowAt bs (pers.take i) (ts.take i) = ws at *
      have wl : ws.length = m := by
        rw [← hws]
        exact (Sq.rowAt_get (p := 0) _ _ bs bl (fun r hr => pl r (List.mem_of_mem_take hr)) (by rw [List.length_take, List.length_take, tl])).1
      have hmm : min (ws.map V.int).length (pe.map V.int).length = m := by rw [List.length_map, List.length_map, pel, wl, Nat.min_self]
      have hbx4 := s3.seqT hbx
      refine ⟨_, rfl, _, rfl, D, bx, _, _, rfl, .of hD3, hbx4, fun D2 hD2' => lcS walk_zipL hD2' (by rw [hmm]; exact slt (by omega)) (fun j y => y = .int (ws.getD j 0 + t * pe.getD j 0)) (fun H e => ⟨e.seq (.of hD3), e.seqT hbx4⟩) (fun j x H8 H9 Q1 hj e y q1 => ?_) (fun H8 ys e8 hy8 hn8 hr8 => ?_)⟩
      · obtain ⟨U, y1, y2, rfl, hU, rfl, g1, g2⟩ := y
        obtain ⟨rfl, rfl, m1, m2⟩ := pair_at hj g1 g2
        have e2 := Same.new (o := HO.tup [V.int (ws.getD j 0), V.int (pe.getD j 0)]) hU
        have pj : 0 ≤ pe.getD j 0 ∧ pe.getD j 0 < 4 := peb _ (Sq.getD_mem (by omega))
        exact ⟨U, _, rfl, .of upd_same, rfl, _, _, rfl, _, _, rfl, rfl, rfl, _, rfl, _, rfl, _, rfl, _, _, rfl, rfl, .inr ⟨by omega, by omega⟩, _, _, rfl, rfl, q1 _ _ rfl e2⟩
      · have ev := vals_int (f := fun j => ws.getD j 0 + t * pe.getD j 0) hn8 hr8
        simp only [List.length_map] at ev
        rw [zip_range (fun a b => a + t * b)] at ev
        have ev2 : ys = (Sq.addk ws pe t).map V.int := ev
        refine ⟨s3.trans e8, D2, _, _, _, _, rfl, ?_⟩
        rw [rowAt_take hpe ht1, hws, ← ev2]
        exact hy8
    · obtain ⟨s2, D, v4, v5, v6, v7, rfl, hD2⟩ := py
      rw [mn, List.take_length, ← tl, List.take_length, hrow] at hD2
      refine ⟨_, rfl, D, _, rfl, .inl ⟨.of hD2, fun t ht' => ⟨_, rfl, intsD row, intsD row, Dp.tup_ints (.of upd_same), (hrv.to s2).to (Same.new ht'), (SN.ints row).shaped (by decide), (SN.ints row).shaped (by decide), ?_⟩⟩⟩
      rw [eqv_ints, decide_eq_true rfl]
      exact k _ (s2.then_new ht')
end
end Ws
/-! ## K23j -/
namespace Ws
open PySem PySem.Spec PyProof.Rows L2 RZ
theorem bar_wt {m : Nat} {bs : Sq.Row} {pers : List Sq.Row} {q : Sq.Sqr} {row : Sq.Row} {b : Sq.Bar} (qb : Sq.QB m pers q) (hb : Sq.Bd 3 pers) (hn : pers.length ≤ 3) (h : Sq.barOf m bs pers q row = some b) : (bw b).length = m ∧ ∀ x ∈ bw b, x.natAbs ≤ 10000 := by
  have wsok : ∀ w ∈ q.ws, w.length = m ∧ ∀ x ∈ w, x.natAbs ≤ 10000 := fun w hw => ⟨qb.wm w hw, fun x hx => Nat.le_trans (qb.wb w hw x hx) (by decide)⟩
  unfold Sq.barOf at h
  cases h1 : (List.range m).findSome? (Sq.apartB m pers q (Sq.addk row bs (-1))) with
  | some b1 =>
    rw [h1] at h
    obtain rfl := Option.some.inj h
    obtain ⟨p, hp, hb1⟩ := List.exists_of_findSome?_eq_some h1
    unfold Sq.apartB at hb1
    split at hb1
    · cases hb1
    split at hb1
    · obtain rfl := Option.some.inj hb1
      exact Sq.apartOf_ok qb hb hn p
    · cases hb1
  | none =>
    rw [h1] at h
    cases h2 : q.ws.findSome? (Sq.restB q (Sq.addk row bs (-1))) with
    | some b2 =>
      rw [h2] at h
      obtain rfl := Option.some.inj h
      obtain ⟨w, hw, hb1⟩ := List.exists_of_findSome?_eq_some h2
      unfold Sq.restB at hb1
      split at hb1
      · obtain rfl := Option.some.inj hb1
        exact wsok w hw
      · cases hb1
    | none =>
      rw [h2] at h
      obtain ⟨w, hw, hb1⟩ := List.exists_of_findSome?_eq_some (show q.ws.findSome? (Sq.lessB (Sq.addk row bs (-1))) = some b from h)
      unfold Sq.lessB at hb1
      split at hb1
      · obtain rfl := Option.some.inj hb1
        exact wsok w hw
      · cases hb1
theorem law_of_bar {gap : Sq.Row} {ps : List Sq.Row} {b : Sq.Bar} (h : Sq.barB gap ps b = true) (h2 : ∀ s w, b = .rest s w → 2 ≤ s) : lawBar gap ps b = true := by
  cases b with
  | apart w => exact h
  | less w =>
    simp only [lawBar, all_le]
    exact h
  | rest s w =>
    have := h2 s w rfl
    simp only [lawBar]
    rw [decide_eq_true this]
    exact h
/-- what one line tells of a row it reaches -/
structure Yes (m : Nat) (ls : List Ln) (row : Sq.Row) (i : Nat) (ts : List Int) : Prop where
  turn : turnsAt m ls row i = some (i, ts)
  bar : barAt m ls row i = none
  len : ts.length = (lnAt ls i).2.length
  nn : ∀ t ∈ ts, 0 ≤ t
  row : Sq.rowAt (lnAt ls i).1 (lnAt ls i).2 ts = row
structure No (m : Nat) (ls : List Ln) (row : Sq.Row) (i : Nat) (b : Sq.Bar) : Prop where
  turn : turnsAt m ls row i = none
  bar : barAt m ls row i = some b
  right : lawBar (Sq.subr row (lnAt ls i).1) (lnAt ls i).2 b = true
  wl : (bw b).length = m
  wb : ∀ x ∈ bw b, B64 x
theorem line_tells {m : Nat} {ls : List Ln} {row : Sq.Row} (f : FSet m ls) (hr : row.length = m) {i : Nat} (hi : i < ls.length) : (fillsB row (lnAt ls i) = true → ∃ ts, Yes m ls row i ts) ∧ (fillsB row (lnAt ls i) = false → ∃ b, No m ls row i b) := by
  have hm := ln_in hi
  have lf := f.lf _ hm
  obtain ⟨q, hq⟩ := Option.isSome_iff_exists.mp (f.fr _ hm)
  have e : sqAtL m ls i = some q := hq
  have fr := lf.fr f.m1 f.m3 hq
  have bd : Sq.Bd 3 (lnAt ls i).2 := fun r hr x hx => by have := lf.pb r hr x hx; omega
  have qb := Sq.qb_of hq bd lf.n3
  have et : turnsAt m ls row i = (Sq.turnsOf (lnAt ls i).1 (lnAt ls i).2 q row).map fun t => (i, t) := by unfold turnsAt; rw [e]; rfl
  have eb : barAt m ls row i = Sq.barOf m (lnAt ls i).1 (lnAt ls i).2 q row := by unfold barAt; rw [e]; rfl
  have h1 := Sq.turns_has fr hr
  have h2 := Sq.bars_has fr hr
  have h3 := fills_iff f.m1 f.m3 lf (f.fr _ hm) hr
  constructor
  · intro h
    have hh := h3.mp h
    obtain ⟨ts, hts⟩ := Option.isSome_iff_exists.mp (h1.mpr hh)
    obtain ⟨a1, a2, a3, _⟩ := Sq.turns_some fr.wl fr.s0 fr.pl fr.bl hr hts
    exact ⟨ts, by rw [et, hts]; rfl, by rw [eb]; exact Option.isNone_iff_eq_none.mp (h2.mpr hh), a1, a2, a3⟩
  · intro h
    have nh : ¬ Sq.Has m (lnAt ls i) row := fun z => by rw [h3.mpr z] at h; cases h
    cases c1 : Sq.turnsOf (lnAt ls i).1 (lnAt ls i).2 q row with
    | some ts => exact absurd (h1.mp (by rw [c1]; rfl)) nh
    | none =>
      cases c2 : Sq.barOf m (lnAt ls i).1 (lnAt ls i).2 q row with
      | none => exact absurd (h2.mp (by rw [c2]; rfl)) nh
      | some b =>
        obtain ⟨b1, b2⟩ := Sq.bar_some fr.adj fr.wl fr.wm fr.s0 fr.pl c2
        obtain ⟨w1, w2⟩ := bar_wt qb bd lf.n3 c2
        refine ⟨b, by rw [et, c1]; rfl, by rw [eb, c2], ?_, w1, fun x hx => ?_⟩
        · rw [subr_addk]
          exact law_of_bar b1 b2
        · have := w2 x hx
          unfold B64
          omega
def havI (ls : List Ln) (row : Sq.Row) : List Nat := (List.range ls.length).filter fun i => fillsB row (lnAt ls i)
theorem hav_any (ls : List Ln) (row : Sq.Row) : (!(havI ls row).isEmpty) = ls.any (fillsB row) := by
  rw [Bool.eq_iff_iff]
  constructor
  · intro h
    cases e : havI ls row with
    | nil => rw [e] at h; cases h
    | cons i r =>
      have : i ∈ havI ls row := by rw [e]; exact List.mem_cons_self ..
      obtain ⟨h1, h2⟩ := List.mem_filter.mp this
      exact List.any_eq_true.mpr ⟨_, ln_in (List.mem_range.mp h1), h2⟩
  · intro h
    obtain ⟨l, hl, hf⟩ := List.any_eq_true.mp h
    obtain ⟨i, hi, el⟩ := Sq.mem_get (d := (([], []) : Ln)) hl
    have : i ∈ havI ls row := List.mem_filter.mpr ⟨List.mem_range.mpr hi, by rw [el] at hf; exact hf⟩
    cases e : havI ls row with
    | nil => rw [e] at this; cases this
    | cons => rfl
theorem turns_first {m : Nat} {ls : List Ln} {row : Sq.Row} (f : FSet m ls) (hr : row.length = m) : (havI ls row = [] ∧ turnsSet m ls row = none) ∨ ∃ i r ts, havI ls row = i :: r ∧ i < ls.length ∧ Yes m ls row i ts ∧ turnsSet m ls row = some (i, ts) := by
  have gen : ∀ (l : List Nat), (∀ i ∈ l, i < ls.length) → (l.filter (fun i => fillsB row (lnAt ls i)) = [] ∧ l.findSome? (turnsAt m ls row) = none) ∨ ∃ i r ts, l.filter (fun i => fillsB row (lnAt ls i)) = i :: r ∧ i < ls.length ∧ Yes m ls row i ts ∧ l.findSome? (turnsAt m ls row) = some (i, ts) := by
    intro l
    induction l with
    | nil => exact fun _ => .inl ⟨rfl, rfl⟩
    | cons i l ih =>
      intro h
      have hi := h i (List.mem_cons_self ..)
      obtain ⟨y, n⟩ := line_tells f hr hi
      cases c : fillsB row (lnAt ls i) with
      | true =>
        obtain ⟨ts, hy⟩ := y c
        refine .inr ⟨i, l.filter (fun i => fillsB row (lnAt ls i)), ts, ?_, hi, hy, ?_⟩
        · rw [List.filter_cons, if_pos c]
        · rw [List.findSome?_cons, hy.turn]
      | false =>
        obtain ⟨b, hb⟩ := n c
        rw [List.filter_cons, if_neg (by rw [c]; exact Bool.false_ne_true), List.findSome?_cons, hb.turn]
        exact ih fun j hj => h j (List.mem_cons_of_mem _ hj)
  exact gen _ fun i hi => List.mem_range.mp hi
end Ws
/-! ## Q23d -/
namespace Ws
open PySem PySem.Spec PyProof.Rows L2 RZ
local macro_rules | `(tactic| walk_at "nf") => `(tactic| dsimp only [tNext, tSeq, tDrop, tRet, tRetN, tIfS, tAsg, gName, gTup, gCons, gNil, tVar, tC, tOp, tUn, rI, rI0, rU, rEq, rNe, tTest, tChain, tAnd, tOr, tNot, tAndV, tOrV, tNotV, tIf, tCB, tCKw, tCons, tNil, tTup, tLst, tCa, tCallS, tB, rIxT, rIxL, rIxS, cxOf, Cx.nox, Cx.wish, Cx.blk, L2.start, tPar, tPar3, tNever, tYes, tBits, tRz, tBM, rAppend, tyV, tXf, suiteEnds, gSub, rSetL, tBreak, rMax, tDGet, sDPut, tSl, tNoPart, tPart, tDisp, tPairs, tDGet2, tDNewK, tAugS, ipI, rGetL, tDIn, tDNotIn, tBM0, rPop])
local macro_rules | `(tactic| walk_at "sx") => `(tactic| simp only [wipe, List.cons.injEq, and_assoc, exists_and_left, and_true, List.map_cons, List.map_nil, List.length_cons, List.length_nil, List.cons_append, List.nil_append, List.append_nil, Nat.reduceAdd, Nat.reduceSub, List.replicate, List.getElem?_cons_zero, List.getElem?_cons_succ, List.set_cons_zero, List.set_cons_succ, Option.some.injEq, V.int.injEq, V.bl.injEq, V.ref.injEq, V.str.injEq, exists_eq_left', exists_eq_left, true_and, Bool.true_eq_false, Bool.false_eq_true, if_true, if_false])

def spRowR (K : PySem.W.Frag) : Sp := fun vs H Q _ => ∃ (v rv : V) (m : Nat) (ls : List Ln) (row : Sq.Row), vs = [v, rv] ∧ Dp K H v (setD m ls) ∧ Dp K H rv (intsD row) ∧ FSet m ls ∧ RowS m row ∧ ∀ H', Same H H' → Q (.bl true) H'
abbrev s__law_row_right : Stmt := top 65
abbrev nm__law_row_right : List Str := ["value", "row", "lines_so", "having", "k", "line", "told", "barred", "bar"]
abbrev pr__law_row_right : List Str := ["value", "row"]
theorem sc__law_row_right : FnScope nm__law_row_right pr__law_row_right (defScope s__law_row_right) := ⟨rfl, rfl, rfl, by decide +kernel, rfl, by decide +kernel, by decide +kernel⟩
theorem head_bar {m : Nat} {b : Sq.Bar} (h : (bw b).length = m) : barHead m (.tuple (barDs b)) = some (bk b, bw b) := by
  have e : ((bw b).map PyData.int).map iOf = bw b := by rw [List.map_map]; exact List.map_id _
  have hw : headW m (bk b) (some (intsD (bw b))) = some (bk b, bw b) := by
    show (if _ ∧ _ then some _ else none) = _
    rw [if_pos ⟨by rw [List.length_map]; exact h, by rw [List.all_map, List.all_eq_true]; intro x _; rfl⟩, e]
  have : barHead m (.tuple (barDs b)) = headW m (bk b) (PyData.str (bk b) :: br b).getLast? := rfl
  rw [this, bar_last]
  exact hw
theorem subr_mem : ∀ {r o : Sq.Row} {x : Int}, x ∈ Sq.subr r o → ∃ a b, a ∈ r ∧ b ∈ o ∧ x = a - b
  | [], _, _, h => by cases h
  | _ :: _, [], _, h => by cases h
  | a :: r, b :: o, x, h => by
    rcases List.mem_cons.mp h with e | h
    · exact ⟨a, b, List.mem_cons_self .., List.mem_cons_self .., e⟩
    · obtain ⟨a', b', h1, h2, h3⟩ := subr_mem h
      exact ⟨a', b', List.mem_cons_of_mem _ h1, List.mem_cons_of_mem _ h2, h3⟩
theorem subr_len (r o : Sq.Row) : (Sq.subr r o).length = min r.length o.length := List.length_zipWith
theorem isB {n i : Nat} (h : i < n) : isBt (.int (i : Nat)) 0 ((n : Int) - 1) = true := by
  show (decide ((0 : Int) ≤ (i : Int)) && decide ((i : Int) ≤ (n : Int) - 1)) = true
  rw [Bool.and_eq_true, decide_eq_true_eq, decide_eq_true_eq]
  omega
theorem isbar_call {K : PySem.W.Frag} {BS BR BI : Addr} {H : Hp} {Q : VK} {E : XK} {v rv bv : V} {m i : Nat} {ls : List Ln} {row : Sq.Row} {b : Sq.Bar} (hv : Dp K H v (setD m ls)) (hr : Dp K H rv (intsD row)) (hb : Dp K H bv (.tuple (barDs b))) (o : SetOk m ls) (hi : i < ls.length) (g : RowS m row) (bl : (bw b).length = m) (bB : ∀ x ∈ bw b, B64 x)
    (q : ∀ H', Same H H' → Q (.bl (lawBar (Sq.subr row (lnAt ls i).1) (lnAt ls i).2 b)) H') : spIsBar K BS BR BI [v, .int (i : Nat), rv, bv] H Q E := by
  refine ⟨v, .int (i : Nat), rv, bv, setD m ls, .int (i : Nat), intsD row, _, rfl, hv, .int _, hr, hb, .inr ⟨m, ls, rfl, o, fun z => (by rw [isB hi] at z; cases z), fun j ej hj => ⟨fun z => (by rw [rowOk_small g] at z; cases z), fun _ => ⟨fun z => (by rw [head_bar bl] at z; cases z), fun k w ds row' h1 h2 h3 => ?_⟩⟩⟩⟩
  rw [head_bar bl] at h1
  cases h1
  cases h2
  have : i = j := by cases ej; rfl
  subst this
  have er : row = row' := by
    have := congrArg rowOf h3
    rwa [rowOf_ints, rowOf_ints] at this
  subst er
  refine ⟨bB, fun H' e => ?_⟩
  rw [← subr_addk, ← law_val]
  exact q H' e
theorem small3 {n : Nat} (h : n ≤ 3) : ((n : Nat) : Int).natAbs < 10 ^ 60 := by
  have : n < 10 ^ 60 := by omega
  simpa using this
theorem is_tup {K : PySem.W.Frag} {σ : L2.St} {H : Hp} {i : Nat} {v : V} {d : PyData} {R : Bool → Hp → Prop} (h : σ[i]? = some (some v)) (hd : Dp K H v d) (ht : isT d = true) (k : R false H) : tNot (tB (tCB (rIsi K) (tCons (tVar i) (tCons (tC (V.ty "tuple")) tNil)))) σ H R := by
  walk_at "nf"
  refine ⟨_, h, isi_tuple hd ⟨_, rfl, ?_⟩⟩
  rw [ht]
  exact k
theorem ne_nil {K : PySem.W.Frag} {σ : L2.St} {H : Hp} {Q : VK} {F : Addr} {ts : List Nat} (h3 : σ[3]? = some (some (.ref F))) (hF : H F = some (.lst ((ts.map fun (i : Nat) => (i : Int)).map V.int))) (k : ∀ H', Same H H' → Q (.bl (!ts.isEmpty)) H') : tOp (rNeD K) (tVar 3) (tLst tNil) σ H Q := by
  refine ⟨_, h3, Nat.zero_le _, fun p hp => ?_⟩
  have e := Same.new (o := HO.lst []) hp
  have hF' := e _ _ hF
  have hc : (upd H p (HO.lst [])) p = some (HO.lst []) := upd_same
  generalize upd H p (HO.lst []) = H1 at *
  refine ⟨.list ((ts.map fun (i : Nat) => (i : Int)).map PyData.int), .list [], .lst (.of hF') (DpAll.ints _), .lst (.of hc) .nil, (SN.list (n := 0) fun d hd => by obtain ⟨i, _, rfl⟩ := List.mem_map.mp hd; exact .int i).shaped (by decide), (SN.list (n := 0) (ds := []) (by simp)).shaped (by decide), ?_⟩
  rw [eqv_nil_l]
  have : ((ts.map fun (i : Nat) => (i : Int)).map PyData.int).isEmpty = ts.isEmpty := by cases ts <;> rfl
  rw [this]
  exact k _ e
theorem bars_all {m : Nat} {ls : List Ln} {row : Sq.Row} (f : FSet m ls) (hr : row.length = m) (h : havI ls row = []) : ∀ i, i < ls.length → ∃ b, No m ls row i b := fun i hi => by
  refine (line_tells f hr hi).2 ?_
  have := List.filter_eq_nil_iff.mp h i (List.mem_range.mpr hi)
  simpa using this
theorem bars_tell {m : Nat} {ls : List Ln} {row : Sq.Row} (f : FSet m ls) (hr : row.length = m) (h : havI ls row = []) : barsD (barsSet m ls row) = .tuple ((barsSet m ls row).map barD) := by
  unfold barsD
  have : (barsSet m ls row).any (·.isNone) = false := by
    rw [List.any_eq_false]
    intro x hx
    obtain ⟨i, hi, rfl⟩ := List.mem_map.mp hx
    obtain ⟨b, hb⟩ := bars_all f hr h i (List.mem_range.mp hi)
    rw [hb.bar]
    exact Bool.false_ne_true
  rw [this, if_neg Bool.false_ne_true]
theorem bars_none {m : Nat} {ls : List Ln} {row : Sq.Row} {i : Nat} {ts : List Int} (hi : i < ls.length) (y : Yes m ls row i ts) : barsD (barsSet m ls row) = .none := by
  unfold barsD
  have : (barsSet m ls row).any (·.isNone) = true := List.any_eq_true.mpr ⟨none, List.mem_map.mpr ⟨i, List.mem_range.mpr hi, y.bar⟩, rfl⟩
  rw [this, if_pos rfl]
section
variable {P : Program} {w : World} {K : PySem.W.Frag} {mg : Str → Option Value} {base : Heap} {BS BR BI : Addr}
theorem ok_rowR (B : Bl mg) (F1 : Df P w K mg base CX0 5 "_law_fills" pr__law_fills (spFills K 4)) (F2 : Df P w K mg base CX0 1 "_law_minus" pr__law_minus (spMinus K)) (F3 : Df P w K mg base (L2.CX P w) 11 "turns" pr_turns (spFree K BS BR fun m ls row => turnsD (turnsSet m ls row))) (F4 : Df P w K mg base (L2.CX P w) 11 "bars" pr_bars (spFree K BS BR fun m ls row => barsD (barsSet m ls row)))
    (F5 : Df P w K mg base (L2.CX P w) 12 "has" pr_has (spHas7 K)) (FL : DfG P w K mg base CX0 1 "_law_like" pr__law_like (spLike K)) (F6 : Df P w K mg base CX0 2 "_law_turns_right" pr__law_turns_right (spTurnsR K)) (F7 : Df P w K mg base CX0 2 "_law_bar_right" pr__law_bar_right (spBarRight K)) (F8 : Df P w K mg base (L2.CX P w) 7 "is_bar" pr_is_bar (spIsBar K BS BR BI)) (D : Dt K mg "_law_row_right" s__law_row_right pr__law_row_right) :
    DfG P w K mg base CX0 13 "_law_row_right" pr__law_row_right (spRowR K) := by
  refine D.okG sc__law_row_right (fun vs H Q E h => ?_) (fun f cdv A outer s H vs Q E hG hr h => ?_)
  · obtain ⟨v, rv, m, ls, row, rfl, _⟩ := h
    rfl
  · obtain ⟨v, rv, m, ls, row, rfl, hv, hrv, fs, rs, k⟩ := h
    refine ⟨_, (pss_cons (ps_set (i := 2) sc__law_row_right.nd rfl (Or.inl rfl) (pe_ix ix_tup (pv 0) pe_int (fun _ _ => rfl))) (pss_cons (ps_set (i := 3) sc__law_row_right.nd rfl (Or.inl rfl) (pe_lst pa_nil)) (pss_cons (ps_for PassesOwn.never rfl (pi_enumT (by rfl) B.enumerate (pa_cons (pv 2) pa_nil)) (pg_tup rfl (pgs_cons (pg_name (i := 4) sc__law_row_right.nd rfl (Or.inl rfl)) (pgs_cons (pg_name (i := 5) sc__law_row_right.nd rfl (Or.inl rfl)) pgs_nil))) (pss_one (ps_if (pt_val (pe_f F1 (hr.mono (by decide)) pass0 (pa_cons (pe_f F2 (hr.mono (by decide)) pass0 (pa_cons (pv 1) (pa_cons (pe_ix ix_tup (pv 5) pe_int (fun _ _ => rfl)) pa_nil))) (pa_cons (pe_ix ix_tup (pv 5) pe_int (fun _ _ => rfl)) pa_nil)))) (pss_one (ps_expr (pe_bm PySem.F.plainAttrs_list PySem.F.slot_list_append PySem.F.type_list_append mt_append (pv 3) (pa_cons (pv 4) pa_nil)))) pss_nil))) (pss_cons (ps_par (i := 6) (j := 7) (by rfl) sc__law_row_right.nd rfl rfl (by decide) rfl rfl (pa_cons (pe_fS (E := fun _ => E0) F3 (hr.mono (by decide)) (fun σ => passAt takes0 σ) (pa_cons (pv 0) (pa_cons (pv 1) pa_nil))) (pa_cons (pe_fS (E := fun _ => E0) F4 (hr.mono (by decide)) (fun σ => passAt takes0 σ) (pa_cons (pv 0) (pa_cons (pv 1) pa_nil))) pa_nil)) (by rfl)) (pss_cons (ps_if (pt_not (pt_val (pe_fG FL hG (hr.mono (by decide)) pass0 (pa_cons (pe_fS (E := fun _ => E0) F5 (hr.mono (by decide)) (fun σ => passAt takes0 σ) (pa_cons (pv 0) (pa_cons (pv 1) pa_nil))) (pa_cons (pe_cmpR (op_neD (hu64 hr)) (pv 3) (pe_lst pa_nil) (nomark _)) pa_nil))))) (pss_one (ps_ret pe_bl)) pss_nil) (pss_cons (ps_if (pt_cmpR (op_neD (hu64 hr)) (pv 3) (pe_lst pa_nil) (nomark _)) (pss_cons (ps_if (PW.pt (pw_or (pt_cmpR op_notN (pv 7) pe_non (nomark _)) (pw_or (pt_not (pt_val (pe_callB call_isi (by rfl) B.isinstance boot_isinstance (pa_cons (pv 6) (pa_cons (pe_bltn (v := .ty "tuple") (by rfl) B.tuple PyProof.Rows.boot_tuple rfl) pa_nil))))) (pw_or1 (pt_cmpR op_ne (pe_callB call_len_seq (by rfl) B.len PySem.boot_len (pa_cons (pv 6) pa_nil)) pe_int (nomark _)))))) (pss_one (ps_ret pe_bl)) pss_nil) (pss_cons (ps_if (pt_not (pt_val (pe_fG FL hG (hr.mono (by decide)) pass0 (pa_cons (pe_ix ix_tup (pv 6) pe_int (fun _ _ => rfl)) (pa_cons (pe_ix ix_list (pv 3) pe_int (fun _ _ => rfl)) pa_nil))))) (pss_one (ps_ret pe_bl)) pss_nil) (pss_one (ps_ret (pe_f F6 (hr.mono (by decide)) pass0 (pa_cons (pe_ix ix_tup (pv 2) (pe_ix ix_list (pv 3) pe_int (fun _ _ => rfl)) (fun _ _ => rfl)) (pa_cons (pv 1) (pa_cons (pe_ix ix_tup (pv 6) pe_int (fun _ _ => rfl)) pa_nil)))))))) pss_nil) (pss_cons (ps_if (PW.pt (pw_or (pt_cmpR op_notN (pv 6) pe_non (nomark _)) (pw_or (pt_not (pt_val (pe_callB call_isi (by rfl) B.isinstance boot_isinstance (pa_cons (pv 7) (pa_cons (pe_bltn (v := .ty "tuple") (by rfl) B.tuple PyProof.Rows.boot_tuple rfl) pa_nil))))) (pw_or1 (pt_cmpR op_ne (pe_callB call_len_seq (by rfl) B.len PySem.boot_len (pa_cons (pv 7) pa_nil)) (pe_callB call_len_seq (by rfl) B.len PySem.boot_len (pa_cons (pv 2) pa_nil)) (nomark _)))))) (pss_one (ps_ret pe_bl)) pss_nil) (pss_cons (ps_for PassesOwn.never rfl (pi_enumT (by rfl) B.enumerate (pa_cons (pv 7) pa_nil)) (pg_tup rfl (pgs_cons (pg_name (i := 4) sc__law_row_right.nd rfl (Or.inl rfl)) (pgs_cons (pg_name (i := 8) sc__law_row_right.nd rfl (Or.inl rfl)) pgs_nil))) (pss_one (ps_if (PW.pt (pw_or (pt_not (pt_val (pe_f F7 (hr.mono (by decide)) pass0 (pa_cons (pe_ix ix_tup (pv 2) (pv 4) (fun _ _ => rfl)) (pa_cons (pv 1) (pa_cons (pv 8) pa_nil)))))) (pw_or1 (pt_cmpR op_notBA (pe_fS (E := fun _ => E0) F8 (hr.mono (by decide)) (fun σ => passAt takes0 σ) (pa_cons (pv 0) (pa_cons (pv 4) (pa_cons (pv 1) (pa_cons (pv 8) pa_nil))))) pe_bl (nomark _))))) (pss_one (ps_ret pe_bl)) pss_nil))) (pss_one (ps_ret pe_bl)))))))))), ?_⟩
    dsimp only [cxOf, Cx.nox, L2.start]
    obtain ⟨a, u, rfl, hs, hu⟩ := set_v hv
    obtain ⟨b, zs, rfl, hz, hzl, hzat, hza⟩ := tup_view hu
    obtain ⟨rp, rfl, hrp⟩ := hrv.ints_tup
    obtain ⟨o, dr⟩ := fs.ok
    have td := fs.tied
    have rl := rs.len
    have m1 := fs.m1
    have m3 := fs.m3
    have l3 := fs.l3
    refine sq_go ⟨_, rfl, a, _, 1, _, rfl, rfl, hs, rfl, ?_⟩
    refine sq_go ⟨Nat.zero_le _, fun F hF => ?_⟩
    have eF := Same.new (o := HO.lst []) hF
    have hF1 : (upd H F (HO.lst [])) F = some (.lst []) := upd_same
    generalize upd H F (HO.lst []) = H1 at *
    refine sq_fr ⟨_, rfl, b, zs, rfl, eF.seqT hz, for_it walk_enumT (fun i σ H' => Same H H' ∧ H' F = some (.lst ((((List.range i).filter fun j => fillsB row (lnAt ls j)).map fun (j : Nat) => (j : Int)).map V.int)) ∧ ∃ v4 v5 : Option V, σ = [some (V.ref a), some (.ref rp), some (.ref b), some (.ref F), v4, v5, none, none, none]) ⟨eF, hF1, _, _, rfl⟩ (fun i σ H' _ p => p.1.seqT hz) (fun i x σ Hz H4 hi py y => ?_) (fun σ H4 py => ?_)⟩
    · obtain ⟨s4, hF4, v4, v5, rfl⟩ := py
      obtain ⟨T, x1, x2, rfl, hT, hH4, g1, g2⟩ := y
      obtain rfl : V.int (i : Nat) = x1 := Option.some.inj g1
      subst hH4
      have eT := Same.new (o := HO.tup [V.int (i : Nat), x2]) hT
      have s5 := s4.trans eT
      have hF5 := eT _ _ hF4
      have hT5 : SqT K (upd Hz T (HO.tup [V.int (i : Nat), x2])) T [V.int (i : Nat), x2] := .of upd_same
      generalize upd Hz T (HO.tup [V.int (i : Nat), x2]) = H5 at *
      have hi2 : i < ls.length := by omega
      obtain ⟨li, hli, hdi⟩ := hzat i x2 g2
      have eli : lnAt ls i = li := by unfold lnAt; rw [List.getD_eq_getElem?_getD, hli]; rfl
      have dl := dr.lo li (List.mem_of_getElem? hli)
      obtain ⟨pz, b1, u1, rfl, hpz, hb1, hu1⟩ := ln_v (hdi.to s5)
      have hl : (Sq.subr row li.1).length = m := by rw [subr_len, rl, dl.bl, Nat.min_self]
      have n3 := dl.n3
      refine ⟨T, _, rfl, hT5, rfl, _, _, rfl, _, _, rfl, rfl, ?_⟩
      refine ⟨_, rfl, _, rfl, pz, _, 0, _, rfl, rfl, hpz, rfl, .ref rp, b1, row, li.1, rfl, hrv.to s5, hb1, by omega, fun H6 g e6 hg => ⟨_, rfl, pz, _, 1, _, rfl, rfl, e6.seqT hpz, rfl, g, u1, Sq.subr row li.1, li.2, m, rfl, hg, hu1.to e6, hl, m1, by omega, dl.pl, by omega, fun x hx => ?_, fun q hq x hx => (dl.pb q hq x hx).1, fun H7 e7 => ⟨_, rfl, ?_⟩⟩⟩
      · obtain ⟨a', b', q1, q2, rfl⟩ := subr_mem hx
        have := (rs.bd a' q1).2
        have := (dl.bb b' q2).1
        omega
      · have ef : fillsB row (lnAt ls i) = Sq.fills li.2 (Sq.subr row li.1) := by rw [eli]; rfl
        rw [← ef]
        have e57 := e6.trans e7
        have s7 := s5.trans e57
        have hF7 := e57 _ _ hF5
        cases c : fillsB row (lnAt ls i) with
        | false =>
          refine iteF ⟨s7, ?_, _, _, rfl⟩
          rw [range_filt_take (fun j => fillsB row (lnAt ls j)) hi2, c, if_neg Bool.false_ne_true, List.append_nil]
          exact hF7
        | true =>
          refine iteT ⟨_, rfl, .inl ⟨rfl, _, .of hF7⟩, _, rfl, F, _, _, rfl, rfl, hF7, slt ?_, s7.mut hF, ?_, _, _, rfl⟩
          · rw [List.length_map, List.length_map]
            have := List.length_filter_le (fun j => fillsB row (lnAt ls j)) (List.range i)
            rw [List.length_range] at this
            omega
          · rw [upd_same, range_filt_take (fun j => fillsB row (lnAt ls j)) hi2, c, if_pos rfl, List.map_append, List.map_append]
            rfl
    obtain ⟨s4, hF4, v4, v5, rfl⟩ := py
    rw [hzl] at hF4
    have hF4 : H4 F = some (.lst (((havI ls row).map fun (j : Nat) => (j : Int)).map V.int)) := hF4
    dsimp only
    have notied : ∀ {E : XK} {H' : Hp} (i : Nat), tiedAt m ls = some i → OutF K BS "place" (.int ((i + 1 : Nat) : Int)) H' E := fun i hi => by rw [td] at hi; cases hi
    have okrow : ∀ {E : XK} {H' : Hp}, rowOk m (intsD row) = false → OutF K BR "value" (intsD row) H' E := fun z => by rw [rowOk_small rs] at z; cases z
    refine ⟨_, rfl, _, rfl, .ref a, .ref rp, setD m ls, intsD row, rfl, hv.to s4, hrv.to s4, .inr ⟨m, ls, rfl, o, notied, fun _ => ⟨okrow, fun _ => ⟨row, rfl, rs, fun H5 u6 e5 hu6 => ⟨_, rfl, _, rfl, .ref a, .ref rp, setD m ls, intsD row, rfl, hv.to (s4.trans e5), hrv.to (s4.trans e5), .inr ⟨m, ls, rfl, o, notied, fun _ => ⟨okrow, fun _ => ⟨row, rfl, rs, fun H6 u7 e6 hu7 => ⟨_, _, rfl, ?_⟩⟩⟩⟩⟩⟩⟩⟩⟩
    have s6 := (s4.trans e5).trans e6
    have hF6 := (e5.trans e6) _ _ hF4
    have hu6 := hu6.to e6
    dsimp only
    refine sq_if0 ⟨_, rfl, _, rfl, .ref a, .ref rp, m, ls, row, rfl, hv.to s6, hrv.to s6, o, td, rs, fun H7 e7 => ?_⟩
    refine ne_nil (K := K) rfl (e7 _ _ hF6) fun H8 e8 => ?_
    have eh : (keptL m ls).any (turnsB m row) = !(havI ls row).isEmpty := by rw [kept_any fs rl, hav_any]
    dsimp only [tNil]
    refine ⟨.bl ((keptL m ls).any (turnsB m row)), .bl (!(havI ls row).isEmpty), .bool (!(havI ls row).isEmpty), 0, 0, rfl, by rw [eh]; exact .bl _, .bl _, Sm.bl', by decide, by decide, _, rfl, iteF ?_⟩
    have e68 := e7.trans e8
    have s8 := s6.trans e68
    have hF8 := e68 _ _ hF6
    have hu68 := hu6.to e68
    have hu78 := hu7.to e68
    refine sq_if0 (ne_nil (K := K) rfl hF8 fun H9 e9 => ⟨_, rfl, ?_⟩)
    have s9 := s8.trans e9
    have hF9 := e9 _ _ hF8
    have hu69 : Dp K H9 u6 (turnsD (turnsSet m ls row)) := hu68.to e9
    have hu79 : Dp K H9 u7 (barsD (barsSet m ls row)) := hu78.to e9
    rcases turns_first fs rl with ⟨h0, ht⟩ | ⟨i, r, ts, h0, hi, hy, ht⟩
    · rw [h0]
      refine iteF ?_
      rw [ht] at hu69
      cases hu69
      rw [bars_tell fs rl h0] at hu79
      obtain ⟨pb, zb, rfl, hzb, hzbl, hzbat, _⟩ := tup_view hu79
      have bl : (barsSet m ls row).length = ls.length := by unfold barsSet; rw [List.length_map, List.length_range]
      have hz9 := s9.seqT hz
      refine sq_if0 ⟨_, rfl, rfl, _, rfl, ?_⟩
      rw [decide_eq_true rfl]
      refine iteF (is_tup rfl hu79 rfl (iteF ⟨_, rfl, pb, zb, rfl, .inr hzb, _, rfl, b, zs, rfl, .inr hz9, rfl, _, rfl, ?_⟩))
      have el : V.int (zb.length : Nat) = V.int (zs.length : Nat) := by rw [hzbl, bl, hzl]
      rw [decide_eq_true el]
      refine iteF ?_
      refine sq_fr ⟨_, rfl, pb, zb, rfl, hzb, for_it walk_enumT (fun i σ H' => Same H9 H' ∧ ∃ v4 v5 v8 : Option V, σ = [some (V.ref a), some (.ref rp), some (.ref b), some (.ref F), v4, v5, some .non, some (.ref pb), v8]) ⟨Same.refl _, _, _, _, rfl⟩ (fun i σ H' _ p => p.1.seqT hzb) (fun i x σ Hz HA hi py y => ?_) (fun σ HA py => ?_)⟩
      · obtain ⟨sA, v4', v5', v8, rfl⟩ := py
        obtain ⟨T, x1, x2, rfl, hT, hHA, g1, g2⟩ := y
        obtain rfl : V.int (i : Nat) = x1 := Option.some.inj g1
        subst hHA
        have eT := Same.new (o := HO.tup [V.int (i : Nat), x2]) hT
        have sB := sA.trans eT
        have s9B := s9.trans sB
        have hT5 : SqT K (upd Hz T (HO.tup [V.int (i : Nat), x2])) T [V.int (i : Nat), x2] := .of upd_same
        generalize upd Hz T (HO.tup [V.int (i : Nat), x2]) = HB at *
        have hi2 : i < ls.length := by omega
        obtain ⟨bo, hbo, hdb⟩ := hzbat i x2 g2
        obtain ⟨bi, hn⟩ := bars_all fs rl h0 i hi2
        have ebo : bo = some bi := by
          unfold barsSet at hbo
          rw [List.getElem?_map, List.getElem?_range hi2] at hbo
          have := Option.some.inj hbo
          rw [← this]
          exact hn.bar
        subst ebo
        obtain ⟨z, hzi⟩ : ∃ z, zs[i]? = some z := ⟨_, List.getElem?_eq_getElem (by omega)⟩
        obtain ⟨li, hli, hdi⟩ := hzat i z hzi
        have eli : lnAt ls i = li := by unfold lnAt; rw [List.getD_eq_getElem?_getD, hli]; rfl
        have dl := dr.lo li (List.mem_of_getElem? hli)
        have n3 := dl.n3
        have hright := hn.right
        rw [eli] at hright
        refine ⟨T, _, rfl, hT5, rfl, _, _, rfl, _, _, rfl, rfl, ?_⟩
        refine ⟨_, rfl, _, rfl, b, zs, _, z, rfl, rfl, s9B.seqT hz, atI_nat hzi, _, rfl, _, rfl, z, .ref rp, x2, li.1, li.2, row, bi, m, rfl, hdi.to s9B, hrv.to s9B, hdb.to sB, rl, by omega, by omega, hn.wl, hn.wb, fun HC eC => ⟨_, rfl, ?_⟩⟩
        rw [hright]
        have s9C := s9B.trans eC
        refine iteF ⟨_, rfl, _, rfl, _, rfl, _, rfl, ?_⟩
        dsimp only [tNil]
        refine isbar_call (hv.to s9C) (hrv.to s9C) (by have := hdb.to (sB.trans eC); rw [bar_cons] at this; exact this) o hi2 rs hn.wl hn.wb fun HD eD => ?_
        rw [hn.right]
        refine ⟨true, rfl, _, rfl, ?_⟩
        rw [decide_eq_true rfl]
        exact iteF ⟨(sB.trans eC).trans eD, _, _, _, rfl⟩
      · obtain ⟨sA, v4', v5', v8, rfl⟩ := py
        exact k _ (s9.trans sA)
    · rw [h0]
      refine iteT ?_
      rw [ht] at hu69
      rw [bars_none hi hy] at hu79
      cases hu79
      rw [h0] at hF9
      obtain ⟨p6, w6, rfl, hp6, hw6⟩ := Dp.tup_inv (show Dp K H9 u6 (.tuple [.int (i : Nat), intsD ts]) from hu69)
      obtain ⟨y1, tsv, rfl, hy1, hts⟩ := hw6.two
      cases hy1
      have hz9 := s9.seqT hz
      refine sq_if0 ⟨_, rfl, rfl, _, rfl, ?_⟩
      rw [decide_eq_true rfl]
      refine iteF (is_tup rfl hu69 rfl (iteF ⟨_, rfl, p6, _, rfl, .inr hp6, rfl, _, rfl, ?_⟩))
      rw [decide_eq_true (show V.int (([V.int (i : Nat), tsv].length : Nat)) = V.int 2 from rfl)]
      refine iteF ?_
      have hix : atI (((i :: r).map fun (j : Nat) => (j : Int)).map V.int) 0 = some (V.int (i : Nat)) := atI_nat (j := 0) rfl
      refine sq_if0 ⟨_, rfl, p6, _, 0, _, rfl, rfl, hp6, rfl, _, rfl, F, _, 0, _, rfl, rfl, .of hF9, hix, .int (i : Nat), .int (i : Nat), .int (i : Nat), 0, 0, rfl, .int _, .int _, Sm.int' (small3 (by omega)), by decide, by decide, _, rfl, iteF ?_⟩
      obtain ⟨z, hzi⟩ : ∃ z, zs[i]? = some z := ⟨_, List.getElem?_eq_getElem (by omega)⟩
      obtain ⟨li, hli, hdi⟩ := hzat i z hzi
      have eli : lnAt ls i = li := by unfold lnAt; rw [List.getD_eq_getElem?_getD, hli]; rfl
      have dl := dr.lo li (List.mem_of_getElem? hli)
      have hlen := hy.len
      have hrow := hy.row
      rw [eli] at hlen hrow
      exact ⟨_, rfl, _, rfl, F, _, 0, _, rfl, rfl, .of hF9, hix, b, zs, _, z, rfl, rfl, hz9, atI_nat hzi, _, rfl, _, rfl, p6, _, 1, _, rfl, rfl, hp6, rfl, z, .ref rp, tsv, li.1, li.2, row, ts, m, rfl, hdi.to s9, hrv.to s9, hts, hlen, hy.nn, hrow, dl.bl, m3, dl.pl, dl.pb, dl.n3, fun HA eA => k _ (s9.trans eA)⟩
end
end Ws
/-! ## Q23e -/
namespace Ws
open PySem PySem.Spec PyProof.Rows L2 RZ
local macro_rules | `(tactic| walk_at "nf") => `(tactic| dsimp only [tNext, tSeq, tDrop, tRet, tRetN, tIfS, tAsg, gName, gTup, gCons, gNil, tVar, tC, tOp, tUn, rI, rI0, rU, rEq, rNe, tTest, tChain, tAnd, tOr, tNot, tAndV, tOrV, tNotV, tIf, tCB, tCKw, tCons, tNil, tTup, tLst, tCa, tCallS, tB, rIxT, rIxL, rIxS, cxOf, Cx.nox, Cx.wish, Cx.blk, L2.start, tPar, tPar3, tNever, tYes, tBits, tRz, tBM, rAppend, tyV, tXf, suiteEnds, gSub, rSetL, tBreak, rMax, tDGet, sDPut, tSl, tNoPart, tPart, tDisp, tPairs, tDGet2, tDNewK, tAugS, ipI, rGetL, tDIn, tDNotIn, tBM0, rPop])
local macro_rules | `(tactic| walk_at "sx") => `(tactic| simp only [wipe, List.cons.injEq, and_assoc, exists_and_left, and_true, List.map_cons, List.map_nil, List.length_cons, List.length_nil, List.cons_append, List.nil_append, List.append_nil, Nat.reduceAdd, Nat.reduceSub, List.replicate, List.getElem?_cons_zero, List.getElem?_cons_succ, List.set_cons_zero, List.set_cons_succ, Option.some.injEq, V.int.injEq, V.bl.injEq, V.ref.injEq, V.str.injEq, exists_eq_left', exists_eq_left, true_and, Bool.true_eq_false, Bool.false_eq_true, if_true, if_false])

def spLaw (K : PySem.W.Frag) : Sp := fun vs H Q _ => ∃ (p : Addr) (is : List Int), vs = [.ref p] ∧ SqL K H p (is.map V.int) ∧ is.length ≤ 1000 ∧ ∀ H', Q (.bl true) H'
abbrev s_law : Stmt := top 66
abbrev nm_law : List Str := ["script", "state", "turn", "value", "step"]
abbrev pr_law : List Str := ["script"]
theorem sc_law : FnScope nm_law pr_law (defScope s_law) := ⟨rfl, rfl, rfl, by decide +kernel, rfl, by decide +kernel, by decide +kernel⟩
section
variable {P : Program} {w : World} {K : PySem.W.Frag} {mg : Str → Option Value} {base : Heap} {BS BR BI : Addr}
theorem fun_okG {x : Str} {st : Stmt} {f : Addr} {fd : FuncData} {N ps : List Str} {k : Nat} {sp : Sp} (F : Fun K x x st f fd) (S : FnScope N ps (defScope st)) (len : ∀ vs H Q E, sp vs H Q E → vs.length = ps.length)
    (hbody : ∀ (cdv : Value) (A : Around) (outer : List Env) (s : Shared) (H : Hp) (vs : List V) (Q : VK) (E : XK), A.guards = some [] → Room k (A.deeper (envOfC x (defScope st) s.heap.objs.size f cdv)) → sp vs H Q E →
      ∃ t, PSs (cxOf CX0 P w K mg base N x (defScope st) f cdv A outer s H E).nox (defBody st) t ∧ t { nx := fun _ H' => Q .non H', rt := Q } (start N vs) H) : FnOkG P w K mg base CX0 (k + 1) f fd ps sp := by
  obtain ⟨oc, od, kV, doc, pm, an, cdv, ct, osl, rfl, lk, hcd⟩ := F.ex
  exact fn_ofG lk hcd S len fun A outer s H vs Q E hg hr hsp => let ⟨t, h, q⟩ := hbody cdv A outer s H vs Q E hg hr hsp; ⟨t, h.nox, q⟩
theorem ok_law (B : Bl mg) (FB : Df P w K mg base CX0 1 "_law_begin" pr__law_begin (spBegin K)) (F1 : Df P w K mg base CX0 2 "_law_draw" pr__law_draw spDrawW) (F2 : Df P w K mg base CX0 4 "_law_free_set" pr__law_free_set (spFreeSet K)) (F3 : DfG P w K mg base CX0 13 "_law_row_right" pr__law_row_right (spRowR K)) (F4 : Df P w K mg base CX0 4 "_law_made_row" pr__law_made_row (spMadeRow K)) {f : Addr} {fd : FuncData} (D : Fun K "law" "law" s_law f fd) :
    FnOkG P w K mg base CX0 16 f fd pr_law (spLaw K) := by
  refine fun_okG D sc_law (fun vs H Q E h => ?_) (fun cdv A outer s H vs Q E hG hr h => ?_)
  · obtain ⟨p, is, rfl, _⟩ := h
    rfl
  · obtain ⟨p, is, rfl, hs, hl, k⟩ := h
    refine ⟨_, (pss_cons (ps_set (i := 1) sc_law.nd rfl (Or.inl rfl) (pe_f FB (hr.mono (by decide)) pass0 (pa_cons (pv 0) pa_nil))) (pss_cons (ps_for PassesOwn.never rfl (pi_range1 (by rfl) B.range (pa_cons pe_int pa_nil)) (pg_name (i := 2) sc_law.nd rfl (Or.inl rfl)) (pss_cons (ps_set (i := 3) sc_law.nd rfl (Or.inl rfl) (pe_f F2 (hr.mono (by decide)) pass0 (pa_cons (pv 1) (pa_cons (pe_op op_add pe_int (pe_f F1 (hr.mono (by decide)) pass0 (pa_cons (pv 1) (pa_cons pe_int pa_nil)))) pa_nil)))) (pss_one (ps_for PassesOwn.never rfl (pi_range1 (by rfl) B.range (pa_cons pe_int pa_nil)) (pg_name (i := 4) sc_law.nd rfl (Or.inl rfl)) (pss_one (ps_if (pt_not (pt_val (pe_fG F3 hG (hr.mono (by decide)) pass0 (pa_cons (pv 3) (pa_cons (pe_f F4 (hr.mono (by decide)) pass0 (pa_cons (pv 1) (pa_cons (pv 3) pa_nil))) pa_nil))))) (pss_one (ps_ret pe_bl)) pss_nil)))))) (pss_one (ps_ret pe_bl)))), ?_⟩
    dsimp only [cxOf, Cx.nox, L2.start]
    refine sq_go ⟨_, rfl, p, is, rfl, hs, hl, fun H1 a l c e1 s1 => ?_⟩
    refine sq_fr ⟨4, rfl, by decide, by decide, for_it walk_range (fun i σ H' => LSt H' a l c (1000 * i) ∧ ∃ v2 v3 v4, σ = [some (V.ref p), some (.ref a), v2, v3, v4]) ⟨s1, _, _, _, rfl⟩ (fun _ _ _ _ _ => trivial) (fun i x σ Hz H3 hi py y => ?_) (fun σ H3 py => ?_)⟩
    · obtain ⟨s3, v2, v3, v4, rfl⟩ := py
      obtain ⟨rfl, rfl⟩ := y
      have hi2 : i < 4 := by simpa using hi
      dsimp only [gName]
      refine sq_go ⟨_, rfl, _, rfl, a, l, c, _, 3, rfl, s3, by omega, by decide, by decide, fun H4 r e4 s4 r1 r2 => ⟨_, _, rfl, rfl, ?_⟩⟩
      obtain ⟨r, rfl⟩ : ∃ j : Nat, r = (j : Nat) := ⟨r.toNat, by omega⟩
      refine ⟨a, l, c, _, 1 + r, (by show [V.ref a, V.int (1 + (r : Int))] = _; rw [Int.natCast_add]; rfl), s4, by omega, by omega, by omega, fun H5 vv ls e5 s5 hv fs => ?_⟩
      generalize 1 + r = m at *
      obtain ⟨pv, u, rfl, _, _⟩ := set_v hv
      have m1 := fs.m1
      have m3 := fs.m3
      refine ⟨6, rfl, by decide, by decide, for_it walk_range (fun j σ H' => LSt H' a l c (1000 * i + 100 + 50 * j) ∧ Dp K H' (.ref pv) (setD m ls) ∧ ∃ v4, σ = [some (V.ref p), some (.ref a), some (.int (0 + (i : Int))), some (.ref pv), v4]) ⟨s5.mono (by omega), hv, _, rfl⟩ (fun _ _ _ _ _ => trivial) (fun j x σ Hz H7 hj py y => ?_) (fun σ H7 py => ?_)⟩
      · obtain ⟨s7, hv7, v4, rfl⟩ := py
        obtain ⟨rfl, rfl⟩ := y
        have hj2 : j < 6 := by simpa using hj
        dsimp only [gName]
        refine ⟨_, rfl, _, rfl, _, rfl, a, l, c, _, .ref pv, m, ls, rfl, s7, by omega, hv7, fs.ok.2, fun H9 ur row e9 s9 hur rl rb => ?_⟩
        have hv9 : Dp K H9 (.ref pv) (setD m ls) := keepT e9 s7 _ _ (noList_set m ls) hv7
        dsimp only [tNil]
        exact ⟨.ref pv, ur, m, ls, row, rfl, hv9, hur, fs, ⟨rl, rb⟩, fun HA eA => ⟨_, rfl, iteF ⟨(s9.same eA).mono (by omega), hv9.to eA, _, rfl⟩⟩⟩
      · obtain ⟨s7, hv7, v4, rfl⟩ := py
        exact ⟨s7.mono (by omega), _, _, _, rfl⟩
    · obtain ⟨s3, v2, v3, v4, rfl⟩ := py
      exact k _
end
end Ws
/-! ## Q23z -/
namespace Ws
open PySem PySem.Spec PyProof.Rows L2
theorem hb_is_integer (kV doc pm : Value) (an : Option Addr) (cdv ct : Value) (us : List Value) (hl : us.length = pr_is_integer.length) : bindArgs (PySem.W.fnOf "is_integer" "is_integer" (defArgs s_is_integer) (defBody s_is_integer) (defScope s_is_integer) .none kV doc pm an cdv ct) ⟨us, []⟩ = pure (pr_is_integer.zip us) :=
  match us, hl with
  | [_], _ => rfl
theorem hb_is_between (kV doc pm : Value) (an : Option Addr) (cdv ct : Value) (us : List Value) (hl : us.length = pr_is_between.length) : bindArgs (PySem.W.fnOf "is_between" "is_between" (defArgs s_is_between) (defBody s_is_between) (defScope s_is_between) .none kV doc pm an cdv ct) ⟨us, []⟩ = pure (pr_is_between.zip us) :=
  match us, hl with
  | [_, _, _], _ => rfl
theorem hb_is_tuple_of (kV doc pm : Value) (an : Option Addr) (cdv ct : Value) (us : List Value) (hl : us.length = pr_is_tuple_of.length) : bindArgs (PySem.W.fnOf "is_tuple_of" "is_tuple_of" (defArgs s_is_tuple_of) (defBody s_is_tuple_of) (defScope s_is_tuple_of) .none kV doc pm an cdv ct) ⟨us, []⟩ = pure (pr_is_tuple_of.zip us) :=
  match us, hl with
  | [_, _], _ => rfl
theorem hb_are_between (kV doc pm : Value) (an : Option Addr) (cdv ct : Value) (us : List Value) (hl : us.length = pr_are_between.length) : bindArgs (PySem.W.fnOf "are_between" "are_between" (defArgs s_are_between) (defBody s_are_between) (defScope s_are_between) .none kV doc pm an cdv ct) ⟨us, []⟩ = pure (pr_are_between.zip us) :=
  match us, hl with
  | [_, _, _], _ => rfl
theorem hb_is_row (kV doc pm : Value) (an : Option Addr) (cdv ct : Value) (us : List Value) (hl : us.length = pr_is_row.length) : bindArgs (PySem.W.fnOf "is_row" "is_row" (defArgs s_is_row) (defBody s_is_row) (defScope s_is_row) .none kV doc pm an cdv ct) ⟨us, []⟩ = pure (pr_is_row.zip us) :=
  match us, hl with
  | [_, _], _ => rfl
theorem hb_added (kV doc pm : Value) (an : Option Addr) (cdv ct : Value) (us : List Value) (hl : us.length = pr_added.length) : bindArgs (PySem.W.fnOf "added" "added" (defArgs s_added) (defBody s_added) (defScope s_added) .none kV doc pm an cdv ct) ⟨us, []⟩ = pure (pr_added.zip us) :=
  match us, hl with
  | [_, _, _], _ => rfl
theorem hb_weighed (kV doc pm : Value) (an : Option Addr) (cdv ct : Value) (us : List Value) (hl : us.length = pr_weighed.length) : bindArgs (PySem.W.fnOf "weighed" "weighed" (defArgs s_weighed) (defBody s_weighed) (defScope s_weighed) .none kV doc pm an cdv ct) ⟨us, []⟩ = pure (pr_weighed.zip us) :=
  match us, hl with
  | [_, _], _ => rfl
theorem hb_determinant (kV doc pm : Value) (an : Option Addr) (cdv ct : Value) (us : List Value) (hl : us.length = pr_determinant.length) : bindArgs (PySem.W.fnOf "determinant" "determinant" (defArgs s_determinant) (defBody s_determinant) (defScope s_determinant) .none kV doc pm an cdv ct) ⟨us, []⟩ = pure (pr_determinant.zip us) :=
  match us, hl with
  | [_], _ => rfl
theorem hb_cofactor (kV doc pm : Value) (an : Option Addr) (cdv ct : Value) (us : List Value) (hl : us.length = pr_cofactor.length) : bindArgs (PySem.W.fnOf "cofactor" "cofactor" (defArgs s_cofactor) (defBody s_cofactor) (defScope s_cofactor) .none kV doc pm an cdv ct) ⟨us, []⟩ = pure (pr_cofactor.zip us) :=
  match us, hl with
  | [_, _, _], _ => rfl
theorem hb_choices_of (kV doc pm : Value) (an : Option Addr) (cdv ct : Value) (us : List Value) (hl : us.length = pr_choices_of.length) : bindArgs (PySem.W.fnOf "choices_of" "choices_of" (defArgs s_choices_of) (defBody s_choices_of) (defScope s_choices_of) .none kV doc pm an cdv ct) ⟨us, []⟩ = pure (pr_choices_of.zip us) :=
  match us, hl with
  | [_, _], _ => rfl
theorem hb_square_of (kV doc pm : Value) (an : Option Addr) (cdv ct : Value) (us : List Value) (hl : us.length = pr_square_of.length) : bindArgs (PySem.W.fnOf "square_of" "square_of" (defArgs s_square_of) (defBody s_square_of) (defScope s_square_of) .none kV doc pm an cdv ct) ⟨us, []⟩ = pure (pr_square_of.zip us) :=
  match us, hl with
  | [_, _], _ => rfl
theorem hb_weights_for (kV doc pm : Value) (an : Option Addr) (cdv ct : Value) (us : List Value) (hl : us.length = pr_weights_for.length) : bindArgs (PySem.W.fnOf "weights_for" "weights_for" (defArgs s_weights_for) (defBody s_weights_for) (defScope s_weights_for) .none kV doc pm an cdv ct) ⟨us, []⟩ = pure (pr_weights_for.zip us) :=
  match us, hl with
  | [_, _, _, _, _], _ => rfl
theorem hb_apart_at (kV doc pm : Value) (an : Option Addr) (cdv ct : Value) (us : List Value) (hl : us.length = pr_apart_at.length) : bindArgs (PySem.W.fnOf "apart_at" "apart_at" (defArgs s_apart_at) (defBody s_apart_at) (defScope s_apart_at) .none kV doc pm an cdv ct) ⟨us, []⟩ = pure (pr_apart_at.zip us) :=
  match us, hl with
  | [_, _, _, _], _ => rfl
theorem hb_turns_of (kV doc pm : Value) (an : Option Addr) (cdv ct : Value) (us : List Value) (hl : us.length = pr_turns_of.length) : bindArgs (PySem.W.fnOf "turns_of" "turns_of" (defArgs s_turns_of) (defBody s_turns_of) (defScope s_turns_of) .none kV doc pm an cdv ct) ⟨us, []⟩ = pure (pr_turns_of.zip us) :=
  match us, hl with
  | [_, _, _], _ => rfl
theorem hb_row_at (kV doc pm : Value) (an : Option Addr) (cdv ct : Value) (us : List Value) (hl : us.length = pr_row_at.length) : bindArgs (PySem.W.fnOf "row_at" "row_at" (defArgs s_row_at) (defBody s_row_at) (defScope s_row_at) .none kV doc pm an cdv ct) ⟨us, []⟩ = pure (pr_row_at.zip us) :=
  match us, hl with
  | [_, _], _ => rfl
theorem hb_is_entry (kV doc pm : Value) (an : Option Addr) (cdv ct : Value) (us : List Value) (hl : us.length = pr_is_entry.length) : bindArgs (PySem.W.fnOf "is_entry" "is_entry" (defArgs s_is_entry) (defBody s_is_entry) (defScope s_is_entry) .none kV doc pm an cdv ct) ⟨us, []⟩ = pure (pr_is_entry.zip us) :=
  match us, hl with
  | [_, _], _ => rfl
theorem hb_is_line (kV doc pm : Value) (an : Option Addr) (cdv ct : Value) (us : List Value) (hl : us.length = pr_is_line.length) : bindArgs (PySem.W.fnOf "is_line" "is_line" (defArgs s_is_line) (defBody s_is_line) (defScope s_is_line) .none kV doc pm an cdv ct) ⟨us, []⟩ = pure (pr_is_line.zip us) :=
  match us, hl with
  | [_, _], _ => rfl
theorem hb_need_set (kV doc pm : Value) (an : Option Addr) (cdv ct : Value) (us : List Value) (hl : us.length = pr_need_set.length) : bindArgs (PySem.W.fnOf "need_set" "need_set" (defArgs s_need_set) (defBody s_need_set) (defScope s_need_set) .none kV doc pm an cdv ct) ⟨us, []⟩ = pure (pr_need_set.zip us) :=
  match us, hl with
  | [_], _ => rfl
theorem hb_need_row_of (kV doc pm : Value) (an : Option Addr) (cdv ct : Value) (us : List Value) (hl : us.length = pr_need_row_of.length) : bindArgs (PySem.W.fnOf "need_row_of" "need_row_of" (defArgs s_need_row_of) (defBody s_need_row_of) (defScope s_need_row_of) .none kV doc pm an cdv ct) ⟨us, []⟩ = pure (pr_need_row_of.zip us) :=
  match us, hl with
  | [_, _], _ => rfl
theorem hb_need_free (kV doc pm : Value) (an : Option Addr) (cdv ct : Value) (us : List Value) (hl : us.length = pr_need_free.length) : bindArgs (PySem.W.fnOf "need_free" "need_free" (defArgs s_need_free) (defBody s_need_free) (defScope s_need_free) .none kV doc pm an cdv ct) ⟨us, []⟩ = pure (pr_need_free.zip us) :=
  match us, hl with
  | [_], _ => rfl
theorem hb_turns (kV doc pm : Value) (an : Option Addr) (cdv ct : Value) (us : List Value) (hl : us.length = pr_turns.length) : bindArgs (PySem.W.fnOf "turns" "turns" (defArgs s_turns) (defBody s_turns) (defScope s_turns) .none kV doc pm an cdv ct) ⟨us, []⟩ = pure (pr_turns.zip us) :=
  match us, hl with
  | [_, _], _ => rfl
theorem hb_bars (kV doc pm : Value) (an : Option Addr) (cdv ct : Value) (us : List Value) (hl : us.length = pr_bars.length) : bindArgs (PySem.W.fnOf "bars" "bars" (defArgs s_bars) (defBody s_bars) (defScope s_bars) .none kV doc pm an cdv ct) ⟨us, []⟩ = pure (pr_bars.zip us) :=
  match us, hl with
  | [_, _], _ => rfl
theorem hb_bar_of (kV doc pm : Value) (an : Option Addr) (cdv ct : Value) (us : List Value) (hl : us.length = pr_bar_of.length) : bindArgs (PySem.W.fnOf "bar_of" "bar_of" (defArgs s_bar_of) (defBody s_bar_of) (defScope s_bar_of) .none kV doc pm an cdv ct) ⟨us, []⟩ = pure (pr_bar_of.zip us) :=
  match us, hl with
  | [_, _, _, _], _ => rfl
theorem hb_is_bar (kV doc pm : Value) (an : Option Addr) (cdv ct : Value) (us : List Value) (hl : us.length = pr_is_bar.length) : bindArgs (PySem.W.fnOf "is_bar" "is_bar" (defArgs s_is_bar) (defBody s_is_bar) (defScope s_is_bar) .none kV doc pm an cdv ct) ⟨us, []⟩ = pure (pr_is_bar.zip us) :=
  match us, hl with
  | [_, _, _, _], _ => rfl
theorem hb_is_weights (kV doc pm : Value) (an : Option Addr) (cdv ct : Value) (us : List Value) (hl : us.length = pr_is_weights.length) : bindArgs (PySem.W.fnOf "is_weights" "is_weights" (defArgs s_is_weights) (defBody s_is_weights) (defScope s_is_weights) .none kV doc pm an cdv ct) ⟨us, []⟩ = pure (pr_is_weights.zip us) :=
  match us, hl with
  | [_, _], _ => rfl
theorem hb_tie_of (kV doc pm : Value) (an : Option Addr) (cdv ct : Value) (us : List Value) (hl : us.length = pr_tie_of.length) : bindArgs (PySem.W.fnOf "tie_of" "tie_of" (defArgs s_tie_of) (defBody s_tie_of) (defScope s_tie_of) .none kV doc pm an cdv ct) ⟨us, []⟩ = pure (pr_tie_of.zip us) :=
  match us, hl with
  | [_, _], _ => rfl
theorem hb_is_inside (kV doc pm : Value) (an : Option Addr) (cdv ct : Value) (us : List Value) (hl : us.length = pr_is_inside.length) : bindArgs (PySem.W.fnOf "is_inside" "is_inside" (defArgs s_is_inside) (defBody s_is_inside) (defScope s_is_inside) .none kV doc pm an cdv ct) ⟨us, []⟩ = pure (pr_is_inside.zip us) :=
  match us, hl with
  | [_, _, _], _ => rfl
theorem hb_inner_lines (kV doc pm : Value) (an : Option Addr) (cdv ct : Value) (us : List Value) (hl : us.length = pr_inner_lines.length) : bindArgs (PySem.W.fnOf "inner_lines" "inner_lines" (defArgs s_inner_lines) (defBody s_inner_lines) (defScope s_inner_lines) .none kV doc pm an cdv ct) ⟨us, []⟩ = pure (pr_inner_lines.zip us) :=
  match us, hl with
  | [_, _], _ => rfl
theorem hb_put_in_order (kV doc pm : Value) (an : Option Addr) (cdv ct : Value) (us : List Value) (hl : us.length = pr_put_in_order.length) : bindArgs (PySem.W.fnOf "put_in_order" "put_in_order" (defArgs s_put_in_order) (defBody s_put_in_order) (defScope s_put_in_order) .none kV doc pm an cdv ct) ⟨us, []⟩ = pure (pr_put_in_order.zip us) :=
  match us, hl with
  | [_], _ => rfl
theorem hb_has (kV doc pm : Value) (an : Option Addr) (cdv ct : Value) (us : List Value) (hl : us.length = pr_has.length) : bindArgs (PySem.W.fnOf "has" "has" (defArgs s_has) (defBody s_has) (defScope s_has) .none kV doc pm an cdv ct) ⟨us, []⟩ = pure (pr_has.zip us) :=
  match us, hl with
  | [_, _], _ => rfl
theorem hb__law_mixed (kV doc pm : Value) (an : Option Addr) (cdv ct : Value) (us : List Value) (hl : us.length = pr__law_mixed.length) : bindArgs (PySem.W.fnOf "_law_mixed" "_law_mixed" (defArgs s__law_mixed) (defBody s__law_mixed) (defScope s__law_mixed) .none kV doc pm an cdv ct) ⟨us, []⟩ = pure (pr__law_mixed.zip us) :=
  match us, hl with
  | [_, _], _ => rfl
theorem hb__law_begin (kV doc pm : Value) (an : Option Addr) (cdv ct : Value) (us : List Value) (hl : us.length = pr__law_begin.length) : bindArgs (PySem.W.fnOf "_law_begin" "_law_begin" (defArgs s__law_begin) (defBody s__law_begin) (defScope s__law_begin) .none kV doc pm an cdv ct) ⟨us, []⟩ = pure (pr__law_begin.zip us) :=
  match us, hl with
  | [_], _ => rfl
theorem hb__law_draw (kV doc pm : Value) (an : Option Addr) (cdv ct : Value) (us : List Value) (hl : us.length = pr__law_draw.length) : bindArgs (PySem.W.fnOf "_law_draw" "_law_draw" (defArgs s__law_draw) (defBody s__law_draw) (defScope s__law_draw) .none kV doc pm an cdv ct) ⟨us, []⟩ = pure (pr__law_draw.zip us) :=
  match us, hl with
  | [_, _], _ => rfl
theorem hb__law_row (kV doc pm : Value) (an : Option Addr) (cdv ct : Value) (us : List Value) (hl : us.length = pr__law_row.length) : bindArgs (PySem.W.fnOf "_law_row" "_law_row" (defArgs s__law_row) (defBody s__law_row) (defScope s__law_row) .none kV doc pm an cdv ct) ⟨us, []⟩ = pure (pr__law_row.zip us) :=
  match us, hl with
  | [_, _, _], _ => rfl
theorem hb__law_fills (kV doc pm : Value) (an : Option Addr) (cdv ct : Value) (us : List Value) (hl : us.length = pr__law_fills.length) : bindArgs (PySem.W.fnOf "_law_fills" "_law_fills" (defArgs s__law_fills) (defBody s__law_fills) (defScope s__law_fills) .none kV doc pm an cdv ct) ⟨us, []⟩ = pure (pr__law_fills.zip us) :=
  match us, hl with
  | [_, _], _ => rfl
theorem hb__law_like (kV doc pm : Value) (an : Option Addr) (cdv ct : Value) (us : List Value) (hl : us.length = pr__law_like.length) : bindArgs (PySem.W.fnOf "_law_like" "_law_like" (defArgs s__law_like) (defBody s__law_like) (defScope s__law_like) .none kV doc pm an cdv ct) ⟨us, []⟩ = pure (pr__law_like.zip us) :=
  match us, hl with
  | [_, _], _ => rfl
theorem hb__law_free (kV doc pm : Value) (an : Option Addr) (cdv ct : Value) (us : List Value) (hl : us.length = pr__law_free.length) : bindArgs (PySem.W.fnOf "_law_free" "_law_free" (defArgs s__law_free) (defBody s__law_free) (defScope s__law_free) .none kV doc pm an cdv ct) ⟨us, []⟩ = pure (pr__law_free.zip us) :=
  match us, hl with
  | [_], _ => rfl
theorem hb__law_free_set (kV doc pm : Value) (an : Option Addr) (cdv ct : Value) (us : List Value) (hl : us.length = pr__law_free_set.length) : bindArgs (PySem.W.fnOf "_law_free_set" "_law_free_set" (defArgs s__law_free_set) (defBody s__law_free_set) (defScope s__law_free_set) .none kV doc pm an cdv ct) ⟨us, []⟩ = pure (pr__law_free_set.zip us) :=
  match us, hl with
  | [_, _], _ => rfl
theorem hb__law_made_row (kV doc pm : Value) (an : Option Addr) (cdv ct : Value) (us : List Value) (hl : us.length = pr__law_made_row.length) : bindArgs (PySem.W.fnOf "_law_made_row" "_law_made_row" (defArgs s__law_made_row) (defBody s__law_made_row) (defScope s__law_made_row) .none kV doc pm an cdv ct) ⟨us, []⟩ = pure (pr__law_made_row.zip us) :=
  match us, hl with
  | [_, _], _ => rfl
theorem hb__law_minus (kV doc pm : Value) (an : Option Addr) (cdv ct : Value) (us : List Value) (hl : us.length = pr__law_minus.length) : bindArgs (PySem.W.fnOf "_law_minus" "_law_minus" (defArgs s__law_minus) (defBody s__law_minus) (defScope s__law_minus) .none kV doc pm an cdv ct) ⟨us, []⟩ = pure (pr__law_minus.zip us) :=
  match us, hl with
  | [_, _], _ => rfl
theorem hb__law_whole (kV doc pm : Value) (an : Option Addr) (cdv ct : Value) (us : List Value) (hl : us.length = pr__law_whole.length) : bindArgs (PySem.W.fnOf "_law_whole" "_law_whole" (defArgs s__law_whole) (defBody s__law_whole) (defScope s__law_whole) .none kV doc pm an cdv ct) ⟨us, []⟩ = pure (pr__law_whole.zip us) :=
  match us, hl with
  | [_], _ => rfl
theorem hb__law_sum (kV doc pm : Value) (an : Option Addr) (cdv ct : Value) (us : List Value) (hl : us.length = pr__law_sum.length) : bindArgs (PySem.W.fnOf "_law_sum" "_law_sum" (defArgs s__law_sum) (defBody s__law_sum) (defScope s__law_sum) .none kV doc pm an cdv ct) ⟨us, []⟩ = pure (pr__law_sum.zip us) :=
  match us, hl with
  | [_, _], _ => rfl
theorem hb__law_bar_right (kV doc pm : Value) (an : Option Addr) (cdv ct : Value) (us : List Value) (hl : us.length = pr__law_bar_right.length) : bindArgs (PySem.W.fnOf "_law_bar_right" "_law_bar_right" (defArgs s__law_bar_right) (defBody s__law_bar_right) (defScope s__law_bar_right) .none kV doc pm an cdv ct) ⟨us, []⟩ = pure (pr__law_bar_right.zip us) :=
  match us, hl with
  | [_, _, _], _ => rfl
theorem hb__law_turns_right (kV doc pm : Value) (an : Option Addr) (cdv ct : Value) (us : List Value) (hl : us.length = pr__law_turns_right.length) : bindArgs (PySem.W.fnOf "_law_turns_right" "_law_turns_right" (defArgs s__law_turns_right) (defBody s__law_turns_right) (defScope s__law_turns_right) .none kV doc pm an cdv ct) ⟨us, []⟩ = pure (pr__law_turns_right.zip us) :=
  match us, hl with
  | [_, _, _], _ => rfl
theorem hb__law_row_right (kV doc pm : Value) (an : Option Addr) (cdv ct : Value) (us : List Value) (hl : us.length = pr__law_row_right.length) : bindArgs (PySem.W.fnOf "_law_row_right" "_law_row_right" (defArgs s__law_row_right) (defBody s__law_row_right) (defScope s__law_row_right) .none kV doc pm an cdv ct) ⟨us, []⟩ = pure (pr__law_row_right.zip us) :=
  match us, hl with
  | [_, _], _ => rfl
theorem hb_law (kV doc pm : Value) (an : Option Addr) (cdv ct : Value) (us : List Value) (hl : us.length = pr_law.length) : bindArgs (PySem.W.fnOf "law" "law" (defArgs s_law) (defBody s_law) (defScope s_law) .none kV doc pm an cdv ct) ⟨us, []⟩ = pure (pr_law.zip us) :=
  match us, hl with
  | [_], _ => rfl
abbrev s_BR : Stmt := inClass (top 3) 0
theorem sc_BR : FnScope ["self", "value"] ["self", "value"] (defScope s_BR) := ⟨rfl, rfl, rfl, by decide +kernel, rfl, by decide +kernel, by decide +kernel⟩
theorem hb_BR (kV doc pm : Value) (an : Option Addr) (cdv ct : Value) (us : List Value) (hl : us.length = (["self", "value"] : List Str).length) : bindArgs (PySem.W.fnOf "__init__" "BadRow.__init__" (defArgs s_BR) (defBody s_BR) (defScope s_BR) .none kV doc pm an cdv ct) ⟨us, []⟩ = pure ((["self", "value"] : List Str).zip us) :=
  match us, hl with
  | [_, _], _ => rfl
abbrev s_BS : Stmt := inClass (top 4) 0
theorem sc_BS : FnScope ["self", "place"] ["self", "place"] (defScope s_BS) := ⟨rfl, rfl, rfl, by decide +kernel, rfl, by decide +kernel, by decide +kernel⟩
theorem hb_BS (kV doc pm : Value) (an : Option Addr) (cdv ct : Value) (us : List Value) (hl : us.length = (["self", "place"] : List Str).length) : bindArgs (PySem.W.fnOf "__init__" "BadSet.__init__" (defArgs s_BS) (defBody s_BS) (defScope s_BS) .none kV doc pm an cdv ct) ⟨us, []⟩ = pure ((["self", "place"] : List Str).zip us) :=
  match us, hl with
  | [_, _], _ => rfl
abbrev s_BI : Stmt := inClass (top 5) 0
theorem sc_BI : FnScope ["self", "value"] ["self", "value"] (defScope s_BI) := ⟨rfl, rfl, rfl, by decide +kernel, rfl, by decide +kernel, by decide +kernel⟩
theorem hb_BI (kV doc pm : Value) (an : Option Addr) (cdv ct : Value) (us : List Value) (hl : us.length = (["self", "value"] : List Str).length) : bindArgs (PySem.W.fnOf "__init__" "BadIndex.__init__" (defArgs s_BI) (defBody s_BI) (defScope s_BI) .none kV doc pm an cdv ct) ⟨us, []⟩ = pure ((["self", "value"] : List Str).zip us) :=
  match us, hl with
  | [_, _], _ => rfl
abbrev s_TG : Stmt := inClass (top 6) 0
theorem sc_TG : FnScope ["self", "most"] ["self", "most"] (defScope s_TG) := ⟨rfl, rfl, rfl, by decide +kernel, rfl, by decide +kernel, by decide +kernel⟩
theorem hb_TG (kV doc pm : Value) (an : Option Addr) (cdv ct : Value) (us : List Value) (hl : us.length = (["self", "most"] : List Str).length) : bindArgs (PySem.W.fnOf "__init__" "TooGreat.__init__" (defArgs s_TG) (defBody s_TG) (defScope s_TG) .none kV doc pm an cdv ct) ⟨us, []⟩ = pure ((["self", "most"] : List Str).zip us) :=
  match us, hl with
  | [_, _], _ => rfl
section
variable {P : Program} {w : World} {K : PySem.W.Frag} {mg : Str → Option Value} {base : Heap} {BS TG BR BI : Addr}
theorem ok_BR {fI : Addr} {fd : FuncData} (T : ErT K mg "BadRow" "value" "BadRow.__init__" s_BR BR fI fd) : ErC P w K mg base "BadRow" "value" BR := T.ok sc_BR fun cdv A outer s H E => pss_one (ps_ost (pv 0) (pv 1))
theorem ok_BS {fI : Addr} {fd : FuncData} (T : ErT K mg "BadSet" "place" "BadSet.__init__" s_BS BS fI fd) : ErC P w K mg base "BadSet" "place" BS := T.ok sc_BS fun cdv A outer s H E => pss_one (ps_ost (pv 0) (pv 1))
theorem ok_BI {fI : Addr} {fd : FuncData} (T : ErT K mg "BadIndex" "value" "BadIndex.__init__" s_BI BI fI fd) : ErC P w K mg base "BadIndex" "value" BI := T.ok sc_BI fun cdv A outer s H E => pss_one (ps_ost (pv 0) (pv 1))
theorem ok_TG {fI : Addr} {fd : FuncData} (T : ErT K mg "TooGreat" "most" "TooGreat.__init__" s_TG TG fI fd) : ErC P w K mg base "TooGreat" "most" TG := T.ok sc_TG fun cdv A outer s H E => pss_one (ps_ost (pv 0) (pv 1))
structure DAll (K : PySem.W.Frag) (mg : Str → Option Value) : Prop where
  is_integer : Dt K mg "is_integer" s_is_integer pr_is_integer
  is_between : Dt K mg "is_between" s_is_between pr_is_between
  is_tuple_of : Dt K mg "is_tuple_of" s_is_tuple_of pr_is_tuple_of
  are_between : Dt K mg "are_between" s_are_between pr_are_between
  is_row : Dt K mg "is_row" s_is_row pr_is_row
  added : Dt K mg "added" s_added pr_added
  weighed : Dt K mg "weighed" s_weighed pr_weighed
  determinant : Dt K mg "determinant" s_determinant pr_determinant
  cofactor : Dt K mg "cofactor" s_cofactor pr_cofactor
  choices_of : Dt K mg "choices_of" s_choices_of pr_choices_of
  square_of : Dt K mg "square_of" s_square_of pr_square_of
  weights_for : Dt K mg "weights_for" s_weights_for pr_weights_for
  apart_at : Dt K mg "apart_at" s_apart_at pr_apart_at
  turns_of : Dt K mg "turns_of" s_turns_of pr_turns_of
  row_at : Dt K mg "row_at" s_row_at pr_row_at
  is_entry : Dt K mg "is_entry" s_is_entry pr_is_entry
  is_line : Dt K mg "is_line" s_is_line pr_is_line
  need_set : Dt K mg "need_set" s_need_set pr_need_set
  need_row_of : Dt K mg "need_row_of" s_need_row_of pr_need_row_of
  need_free : Dt K mg "need_free" s_need_free pr_need_free
  turns : Dt K mg "turns" s_turns pr_turns
  bars : Dt K mg "bars" s_bars pr_bars
  bar_of : Dt K mg "bar_of" s_bar_of pr_bar_of
  is_bar : Dt K mg "is_bar" s_is_bar pr_is_bar
  is_weights : Dt K mg "is_weights" s_is_weights pr_is_weights
  tie_of : Dt K mg "tie_of" s_tie_of pr_tie_of
  is_inside : Dt K mg "is_inside" s_is_inside pr_is_inside
  inner_lines : Dt K mg "inner_lines" s_inner_lines pr_inner_lines
  put_in_order : Dt K mg "put_in_order" s_put_in_order pr_put_in_order
  has : Dt K mg "has" s_has pr_has
  _law_mixed : Dt K mg "_law_mixed" s__law_mixed pr__law_mixed
  _law_begin : Dt K mg "_law_begin" s__law_begin pr__law_begin
  _law_draw : Dt K mg "_law_draw" s__law_draw pr__law_draw
  _law_row : Dt K mg "_law_row" s__law_row pr__law_row
  _law_fills : Dt K mg "_law_fills" s__law_fills pr__law_fills
  _law_like : Dt K mg "_law_like" s__law_like pr__law_like
  _law_free : Dt K mg "_law_free" s__law_free pr__law_free
  _law_free_set : Dt K mg "_law_free_set" s__law_free_set pr__law_free_set
  _law_made_row : Dt K mg "_law_made_row" s__law_made_row pr__law_made_row
  _law_minus : Dt K mg "_law_minus" s__law_minus pr__law_minus
  _law_whole : Dt K mg "_law_whole" s__law_whole pr__law_whole
  _law_sum : Dt K mg "_law_sum" s__law_sum pr__law_sum
  _law_bar_right : Dt K mg "_law_bar_right" s__law_bar_right pr__law_bar_right
  _law_turns_right : Dt K mg "_law_turns_right" s__law_turns_right pr__law_turns_right
  _law_row_right : Dt K mg "_law_row_right" s__law_row_right pr__law_row_right
theorem all_ok (B : Bl mg) (C : Cs0 mg) (C2 : CsL mg) (T : ErS P w K mg base BS TG BR BI) (D : DAll K mg) {f : Addr} {fd : FuncData} (F : Fun K "law" "law" s_law f fd) : FnOkG P w K mg base CX0 16 f fd pr_law (spLaw K) := by
  have is_integer : Df P w K mg base CX0 1 "is_integer" pr_is_integer (spIsInteger K) := ok_is_integer B D.is_integer
  have is_between : Df P w K mg base CX0 2 "is_between" pr_is_between (spIsBetween K) := ok_is_between B is_integer D.is_between
  have is_tuple_of : Df P w K mg base CX0 1 "is_tuple_of" pr_is_tuple_of (spIsTupleOf K) := ok_is_tuple_of B D.is_tuple_of
  have are_between : Df P w K mg base CX0 3 "are_between" pr_are_between (spAreBetween K) := ok_are_between B is_between D.are_between
  have is_row : Df P w K mg base CX0 4 "is_row" pr_is_row (spIsRow K) := ok_is_row C is_tuple_of are_between D.is_row
  have added : Df P w K mg base CX0 1 "added" pr_added (spAdded K) := ok_added B D.added
  have weighed : Df P w K mg base CX0 1 "weighed" pr_weighed (spWeighed K) := ok_weighed B D.weighed
  have det3 := (all_det (P := P) (w := w) (base := base) B D.determinant D.cofactor 3).2
  have cof3 := (all_det (P := P) (w := w) (base := base) B D.determinant D.cofactor 3).1
  have chs : Df P w K mg base CX0 1 "choices_of" pr_choices_of (spChs K) := ok_chs B D.choices_of
  have wfor : Df P w K mg base CX0 8 "weights_for" pr_weights_for (spWFor K 3) := ok_wfor B cof3 D.weights_for
  have square : Df P w K mg base CX0 9 "square_of" pr_square_of (spSq K) := ok_square (d := 0) B chs det3 wfor D.square_of
  have row_at : Df P w K mg base CX0 2 "row_at" pr_row_at (spRowAt K) := ok_row_at B added D.row_at
  have apart : Df P w K mg base CX0 2 "apart_at" pr_apart_at (spApart K) := ok_apart B added D.apart_at
  have turns_of : Df P w K mg base CX0 3 "turns_of" pr_turns_of (spTurnsOf K) := ok_turns_of B added weighed row_at D.turns_of
  have bar_of : Df P w K mg base CX0 3 "bar_of" pr_bar_of (spBarOf K) := ok_bar_of B added weighed apart D.bar_of
  have is_entry : Df P w K mg base CX0 4 "is_entry" pr_is_entry (spIsEntry K) := ok_is_entry C2 is_tuple_of are_between D.is_entry
  have is_line : Df P w K mg base CX0 5 "is_line" pr_is_line (spIsLine K) := ok_is_line B C2 is_tuple_of is_entry D.is_line
  have need_set : Df P w K mg base (L2.CX P w) 6 "need_set" pr_need_set (spNeedSet K BS TG) := ok_need_set B C2 T is_tuple_of is_between is_line D.need_set
  have need_row : Df P w K mg base (L2.CX P w) 5 "need_row_of" pr_need_row_of (spNeedRow K BR) := ok_need_row B T is_row D.need_row_of
  have is_weights : Df P w K mg base CX0 2 "is_weights" pr_is_weights (spIsW K) := ok_is_weights B is_tuple_of is_integer D.is_weights
  have need_free : Df P w K mg base (L2.CX P w) 10 "need_free" pr_need_free (spNeedFree K BS TG) := ok_need_free B T need_set square D.need_free
  have turns := ok_turns B need_free need_row turns_of D.turns
  have bars := ok_bars B need_free need_row bar_of D.bars
  have is_bar : Df P w K mg base (L2.CX P w) 7 "is_bar" pr_is_bar (spIsBar K BS BR BI) := ok_is_bar B T need_set need_row is_between is_weights weighed added is_integer D.is_bar
  have tie : Df P w K mg base CX0 10 "tie_of" pr_tie_of (spTie K) := ok_tie B square weighed D.tie_of
  have inside : Df P w K mg base CX0 4 "is_inside" pr_is_inside (spInside K) := ok_inside B turns_of D.is_inside
  have inner : Df P w K mg base CX0 10 "inner_lines" pr_inner_lines (spInner K) := ok_inner B square inside D.inner_lines
  have put : Df P w K mg base CX0 11 "put_in_order" pr_put_in_order (spPut K) := ok_put B tie inner D.put_in_order
  have has_ : Df P w K mg base (L2.CX P w) 12 "has" pr_has (spHas7 K) := ok_has7 B T need_set need_row put turns_of square D.has
  have mixed : Df P w K mg base CX0 1 "_law_mixed" pr__law_mixed spMixed := ok_mixed B D._law_mixed
  have draw : Df P w K mg base CX0 2 "_law_draw" pr__law_draw spDrawW := ok_draw B mixed D._law_draw
  have like : DfG P w K mg base CX0 1 "_law_like" pr__law_like (spLike K) := ok_like B D._law_like
  have begin_ : Df P w K mg base CX0 1 "_law_begin" pr__law_begin (spBegin K) := ok_begin B D._law_begin
  have rowL : Df P w K mg base CX0 3 "_law_row" pr__law_row (spRowL K) := ok_rowL B draw D._law_row
  have minus : Df P w K mg base CX0 1 "_law_minus" pr__law_minus (spMinus K) := ok_minus B D._law_minus
  have whole : Df P w K mg base CX0 1 "_law_whole" pr__law_whole (spWhole K) := ok_whole B D._law_whole
  have sumL : Df P w K mg base CX0 1 "_law_sum" pr__law_sum (spSumL K) := ok_sumL B D._law_sum
  have fills : Df P w K mg base CX0 5 "_law_fills" pr__law_fills (spFills K 4) := ok_fills B (ok_fills B (ok_fills B (ok_fills B (fills0 D._law_fills) D._law_fills) D._law_fills) D._law_fills) D._law_fills
  have free : Df P w K mg base CX0 1 "_law_free" pr__law_free (spFree1 K) := ok_free B D._law_free
  have bar_right : Df P w K mg base CX0 2 "_law_bar_right" pr__law_bar_right (spBarRight K) := ok_bar_right B whole sumL minus D._law_bar_right
  have free_set : Df P w K mg base CX0 4 "_law_free_set" pr__law_free_set (spFreeSet K) := ok_free_set B draw rowL free D._law_free_set
  have made_row : Df P w K mg base CX0 4 "_law_made_row" pr__law_made_row (spMadeRow K) := ok_made_row B draw rowL D._law_made_row
  have turnsR : Df P w K mg base CX0 2 "_law_turns_right" pr__law_turns_right (spTurnsR K) := ok_turnsR B whole D._law_turns_right
  have row_right : DfG P w K mg base CX0 13 "_law_row_right" pr__law_row_right (spRowR K) := ok_rowR B fills minus turns bars has_ like turnsR bar_right is_bar D._law_row_right
  exact ok_law B begin_ draw free_set row_right made_row F
/-! ### what the top has written -/
theorem lit_int {h : Heap} {x : Str} {i : Int} (y : ∃ v, mg x = some v ∧ PySem.W.ReadsLit h v (.int i) []) : ∃ t, mg x = some (.int i t) := by
  obtain ⟨v, e, r⟩ := y
  cases r
  exact ⟨_, e⟩
theorem Cs0.mk' {h : Heap} (y1 : ∃ v, mg "MOST_NUMBER" = some v ∧ PySem.W.ReadsLit h v (.int (10 ^ 60)) []) : Cs0 mg := ⟨lit_int y1⟩
theorem Bl.mk' {h : Heap} (X : K.In h) (G : h.Ns mainGlobals mg) (z1 : PySem.W.nsIn K mainGlobals "isinstance" = some none) (z2 : PySem.W.nsIn K mainGlobals "int" = some none) (z3 : PySem.W.nsIn K mainGlobals "bool" = some none) (z4 : PySem.W.nsIn K mainGlobals "tuple" = some none)
    (z5 : PySem.W.nsIn K mainGlobals "list" = some none) (z6 : PySem.W.nsIn K mainGlobals "str" = some none) (z7 : PySem.W.nsIn K mainGlobals "len" = some none) (z8 : PySem.W.nsIn K mainGlobals "all" = some none) (z9 : PySem.W.nsIn K mainGlobals "any" = some none) (z10 : PySem.W.nsIn K mainGlobals "sum" = some none)
    (z11 : PySem.W.nsIn K mainGlobals "max" = some none) (z12 : PySem.W.nsIn K mainGlobals "min" = some none) (z13 : PySem.W.nsIn K mainGlobals "range" = some none) (z14 : PySem.W.nsIn K mainGlobals "enumerate" = some none) (z15 : PySem.W.nsIn K mainGlobals "repr" = some none) (z16 : PySem.W.nsIn K mainGlobals "abs" = some none)
    (z17 : PySem.W.nsIn K mainGlobals "sorted" = some none) (z18 : PySem.W.nsIn K mainGlobals "zip" = some none) : Bl mg :=
  have m := fun {x : Str} (z : PySem.W.nsIn K mainGlobals x = some none) => PySem.W.mg_none_of X G z
  ⟨m z1, m z2, m z3, m z4, m z5, m z6, m z7, m z8, m z9, m z10, m z11, m z12, m z13, m z14, m z15, m z16, m z17, m z18⟩
theorem CsL.mk' {h : Heap} {t2 t3 : Tok} (X : K.In h) (G : h.Ns mainGlobals mg) (y1 : ∃ v, mg "MOST_FACTOR" = some v ∧ PySem.W.ReadsLit h v (.int (10 ^ 9)) [])
    (y2 : PySem.W.nsIn K mainGlobals "MOST_PERIODS" = some (some (.int 12 t2))) (y3 : PySem.W.nsIn K mainGlobals "MOST_LINES" = some (some (.int 400 t3))) : CsL mg :=
  ⟨lit_int y1, ⟨_, PySem.W.mg_of X G y2⟩, ⟨_, PySem.W.mg_of X G y3⟩⟩
theorem fin {l : PySem.W.OpenLaw} {h : Heap} {f fa fR fS fI fT : Addr} {fdR fdS fdI fdT : FuncData} {oc : Value} {od an : Option Addr} {osl : Array (Option Value)} {kV doc pm cdv ct : Value} (X : K.In h) (G : h.Ns mainGlobals mg) (hmg : mg "law" = some (.ref fa))
    (a : PySem.W.nsIn K mainGlobals "law" = some (some (.ref f))) (lk : K.lookup f = some ⟨oc, od, .func (PySem.W.fnOf "law" "law" (defArgs s_law) (defBody s_law) (defScope s_law) .none kV doc pm an cdv ct), osl⟩) (c : PySem.W.codeIn K cdv "law" = true) (kp : PySem.W.keepIn K (.ref f) = true)
    (B : Bl mg) (C : Cs0 mg) (C2 : CsL mg) (ER : ErT K mg "BadRow" "value" "BadRow.__init__" s_BR BR fR fdR) (ES : ErT K mg "BadSet" "place" "BadSet.__init__" s_BS BS fS fdS) (EI : ErT K mg "BadIndex" "value" "BadIndex.__init__" s_BI BI fI fdI) (ET : ErT K mg "TooGreat" "most" "TooGreat.__init__" s_TG TG fT fdT) (D : DAll K mg) :
    ∃ fd : FuncData, (∀ (s : Shared) (u : Value), BindsTo s fd ⟨[u], []⟩ [("script", u)]) ∧ ∀ base : Heap, FnOkG l.prog w K mg base CX0 16 fa fd ["script"] (spLaw K) := by
  cases hmg.symm.trans (PySem.W.mg_of X G a)
  exact ⟨_, fun s u => .of_eq (hb_law kV doc pm an cdv ct [u] rfl), fun base => all_ok B C C2 ⟨ok_BS ES, ok_TG ET, ok_BR ER, ok_BI EI⟩ D (fun_mk lk c kp)⟩
end
end Ws
open PySem PySem.W PyProof.Rows
set_option maxRecDepth 100000 in
set_option maxHeartbeats 0 in
theorem PySem.Challenge.cw_wholesay_k23_whole_turns_and_bars_holds : PySem.Challenge.rw_wholesay_k23_whole_turns_and_bars.Holds := by
  w_on; o_law; k_head; (case hw => w_witness2)
  k_fill
  refine Ws.walkG (l := PySem.Challenge.rw_wholesay_k23_whole_turns_and_bars) (n := 63) (k := 16) (x := "script") (sp := Ws.spLaw) rfl (by decide) rfl ⟨rfl, by decide, by decide⟩ (fun w h Y => PySem.W.kIn_of Y) ?F ?S
  case S => exact fun K H a ns hl _ hS => ⟨a, ns, rfl, hS, by omega, fun _ => rfl⟩
  case F =>
    intro w mg fa h KX G hX hmg
    refine' (fun D_is_integer => ?rD0) (Ws.Dt.mk' (x := "is_integer") (st := Ws.s_is_integer) (ps := Ws.pr_is_integer) KX G ?a0 ?l0 ?c0 ?k0 Ws.hb_is_integer)
    case' a0 => k_is
    case' l0 => k_is
    case' c0 => k_is
    case' k0 => k_is
    refine' (fun D_is_between => ?rD1) (Ws.Dt.mk' (x := "is_between") (st := Ws.s_is_between) (ps := Ws.pr_is_between) KX G ?a1 ?l1 ?c1 ?k1 Ws.hb_is_between)
    case' a1 => k_is
    case' l1 => k_is
    case' c1 => k_is
    case' k1 => k_is
    refine' (fun D_is_tuple_of => ?rD2) (Ws.Dt.mk' (x := "is_tuple_of") (st := Ws.s_is_tuple_of) (ps := Ws.pr_is_tuple_of) KX G ?a2 ?l2 ?c2 ?k2 Ws.hb_is_tuple_of)
    case' a2 => k_is
    case' l2 => k_is
    case' c2 => k_is
    case' k2 => k_is
    refine' (fun D_are_between => ?rD3) (Ws.Dt.mk' (x := "are_between") (st := Ws.s_are_between) (ps := Ws.pr_are_between) KX G ?a3 ?l3 ?c3 ?k3 Ws.hb_are_between)
    case' a3 => k_is
    case' l3 => k_is
    case' c3 => k_is
    case' k3 => k_is
    refine' (fun D_is_row => ?rD4) (Ws.Dt.mk' (x := "is_row") (st := Ws.s_is_row) (ps := Ws.pr_is_row) KX G ?a4 ?l4 ?c4 ?k4 Ws.hb_is_row)
    case' a4 => k_is
    case' l4 => k_is
    case' c4 => k_is
    case' k4 => k_is
    refine' (fun D_added => ?rD5) (Ws.Dt.mk' (x := "added") (st := Ws.s_added) (ps := Ws.pr_added) KX G ?a5 ?l5 ?c5 ?k5 Ws.hb_added)
    case' a5 => k_is
    case' l5 => k_is
    case' c5 => k_is
    case' k5 => k_is
    refine' (fun D_weighed => ?rD6) (Ws.Dt.mk' (x := "weighed") (st := Ws.s_weighed) (ps := Ws.pr_weighed) KX G ?a6 ?l6 ?c6 ?k6 Ws.hb_weighed)
    case' a6 => k_is
    case' l6 => k_is
    case' c6 => k_is
    case' k6 => k_is
    refine' (fun D_determinant => ?rD7) (Ws.Dt.mk' (x := "determinant") (st := Ws.s_determinant) (ps := Ws.pr_determinant) KX G ?a7 ?l7 ?c7 ?k7 Ws.hb_determinant)
    case' a7 => k_is
    case' l7 => k_is
    case' c7 => k_is
    case' k7 => k_is
    refine' (fun D_cofactor => ?rD8) (Ws.Dt.mk' (x := "cofactor") (st := Ws.s_cofactor) (ps := Ws.pr_cofactor) KX G ?a8 ?l8 ?c8 ?k8 Ws.hb_cofactor)
    case' a8 => k_is
    case' l8 => k_is
    case' c8 => k_is
    case' k8 => k_is
    refine' (fun D_choices_of => ?rD9) (Ws.Dt.mk' (x := "choices_of") (st := Ws.s_choices_of) (ps := Ws.pr_choices_of) KX G ?a9 ?l9 ?c9 ?k9 Ws.hb_choices_of)
    case' a9 => k_is
    case' l9 => k_is
    case' c9 => k_is
    case' k9 => k_is
    refine' (fun D_square_of => ?rD10) (Ws.Dt.mk' (x := "square_of") (st := Ws.s_square_of) (ps := Ws.pr_square_of) KX G ?a10 ?l10 ?c10 ?k10 Ws.hb_square_of)
    case' a10 => k_is
    case' l10 => k_is
    case' c10 => k_is
    case' k10 => k_is
    refine' (fun D_weights_for => ?rD11) (Ws.Dt.mk' (x := "weights_for") (st := Ws.s_weights_for) (ps := Ws.pr_weights_for) KX G ?a11 ?l11 ?c11 ?k11 Ws.hb_weights_for)
    case' a11 => k_is
    case' l11 => k_is
    case' c11 => k_is
    case' k11 => k_is
    refine' (fun D_apart_at => ?rD12) (Ws.Dt.mk' (x := "apart_at") (st := Ws.s_apart_at) (ps := Ws.pr_apart_at) KX G ?a12 ?l12 ?c12 ?k12 Ws.hb_apart_at)
    case' a12 => k_is
    case' l12 => k_is
    case' c12 => k_is
    case' k12 => k_is
    refine' (fun D_turns_of => ?rD13) (Ws.Dt.mk' (x := "turns_of") (st := Ws.s_turns_of) (ps := Ws.pr_turns_of) KX G ?a13 ?l13 ?c13 ?k13 Ws.hb_turns_of)
    case' a13 => k_is
    case' l13 => k_is
    case' c13 => k_is
    case' k13 => k_is
    refine' (fun D_row_at => ?rD14) (Ws.Dt.mk' (x := "row_at") (st := Ws.s_row_at) (ps := Ws.pr_row_at) KX G ?a14 ?l14 ?c14 ?k14 Ws.hb_row_at)
    case' a14 => k_is
    case' l14 => k_is
    case' c14 => k_is
    case' k14 => k_is
    refine' (fun D_is_entry => ?rD15) (Ws.Dt.mk' (x := "is_entry") (st := Ws.s_is_entry) (ps := Ws.pr_is_entry) KX G ?a15 ?l15 ?c15 ?k15 Ws.hb_is_entry)
    case' a15 => k_is
    case' l15 => k_is
    case' c15 => k_is
    case' k15 => k_is
    refine' (fun D_is_line => ?rD16) (Ws.Dt.mk' (x := "is_line") (st := Ws.s_is_line) (ps := Ws.pr_is_line) KX G ?a16 ?l16 ?c16 ?k16 Ws.hb_is_line)
    case' a16 => k_is
    case' l16 => k_is
    case' c16 => k_is
    case' k16 => k_is
    refine' (fun D_need_set => ?rD17) (Ws.Dt.mk' (x := "need_set") (st := Ws.s_need_set) (ps := Ws.pr_need_set) KX G ?a17 ?l17 ?c17 ?k17 Ws.hb_need_set)
    case' a17 => k_is
    case' l17 => k_is
    case' c17 => k_is
    case' k17 => k_is
    refine' (fun D_need_row_of => ?rD18) (Ws.Dt.mk' (x := "need_row_of") (st := Ws.s_need_row_of) (ps := Ws.pr_need_row_of) KX G ?a18 ?l18 ?c18 ?k18 Ws.hb_need_row_of)
    case' a18 => k_is
    case' l18 => k_is
    case' c18 => k_is
    case' k18 => k_is
    refine' (fun D_need_free => ?rD19) (Ws.Dt.mk' (x := "need_free") (st := Ws.s_need_free) (ps := Ws.pr_need_free) KX G ?a19 ?l19 ?c19 ?k19 Ws.hb_need_free)
    case' a19 => k_is
    case' l19 => k_is
    case' c19 => k_is
    case' k19 => k_is
    refine' (fun D_turns => ?rD20) (Ws.Dt.mk' (x := "turns") (st := Ws.s_turns) (ps := Ws.pr_turns) KX G ?a20 ?l20 ?c20 ?k20 Ws.hb_turns)
    case' a20 => k_is
    case' l20 => k_is
    case' c20 => k_is
    case' k20 => k_is
    refine' (fun D_bars => ?rD21) (Ws.Dt.mk' (x := "bars") (st := Ws.s_bars) (ps := Ws.pr_bars) KX G ?a21 ?l21 ?c21 ?k21 Ws.hb_bars)
    case' a21 => k_is
    case' l21 => k_is
    case' c21 => k_is
    case' k21 => k_is
    refine' (fun D_bar_of => ?rD22) (Ws.Dt.mk' (x := "bar_of") (st := Ws.s_bar_of) (ps := Ws.pr_bar_of) KX G ?a22 ?l22 ?c22 ?k22 Ws.hb_bar_of)
    case' a22 => k_is
    case' l22 => k_is
    case' c22 => k_is
    case' k22 => k_is
    refine' (fun D_is_bar => ?rD23) (Ws.Dt.mk' (x := "is_bar") (st := Ws.s_is_bar) (ps := Ws.pr_is_bar) KX G ?a23 ?l23 ?c23 ?k23 Ws.hb_is_bar)
    case' a23 => k_is
    case' l23 => k_is
    case' c23 => k_is
    case' k23 => k_is
    refine' (fun D_is_weights => ?rD24) (Ws.Dt.mk' (x := "is_weights") (st := Ws.s_is_weights) (ps := Ws.pr_is_weights) KX G ?a24 ?l24 ?c24 ?k24 Ws.hb_is_weights)
    case' a24 => k_is
    case' l24 => k_is
    case' c24 => k_is
    case' k24 => k_is
    refine' (fun D_tie_of => ?rD25) (Ws.Dt.mk' (x := "tie_of") (st := Ws.s_tie_of) (ps := Ws.pr_tie_of) KX G ?a25 ?l25 ?c25 ?k25 Ws.hb_tie_of)
    case' a25 => k_is
    case' l25 => k_is
    case' c25 => k_is
    case' k25 => k_is
    refine' (fun D_is_inside => ?rD26) (Ws.Dt.mk' (x := "is_inside") (st := Ws.s_is_inside) (ps := Ws.pr_is_inside) KX G ?a26 ?l26 ?c26 ?k26 Ws.hb_is_inside)
    case' a26 => k_is
    case' l26 => k_is
    case' c26 => k_is
    case' k26 => k_is
    refine' (fun D_inner_lines => ?rD27) (Ws.Dt.mk' (x := "inner_lines") (st := Ws.s_inner_lines) (ps := Ws.pr_inner_lines) KX G ?a27 ?l27 ?c27 ?k27 Ws.hb_inner_lines)
    case' a27 => k_is
    case' l27 => k_is
    case' c27 => k_is
    case' k27 => k_is
    refine' (fun D_put_in_order => ?rD28) (Ws.Dt.mk' (x := "put_in_order") (st := Ws.s_put_in_order) (ps := Ws.pr_put_in_order) KX G ?a28 ?l28 ?c28 ?k28 Ws.hb_put_in_order)
    case' a28 => k_is
    case' l28 => k_is
    case' c28 => k_is
    case' k28 => k_is
    refine' (fun D_has => ?rD29) (Ws.Dt.mk' (x := "has") (st := Ws.s_has) (ps := Ws.pr_has) KX G ?a29 ?l29 ?c29 ?k29 Ws.hb_has)
    case' a29 => k_is
    case' l29 => k_is
    case' c29 => k_is
    case' k29 => k_is
    refine' (fun D__law_mixed => ?rD30) (Ws.Dt.mk' (x := "_law_mixed") (st := Ws.s__law_mixed) (ps := Ws.pr__law_mixed) KX G ?a30 ?l30 ?c30 ?k30 Ws.hb__law_mixed)
    case' a30 => k_is
    case' l30 => k_is
    case' c30 => k_is
    case' k30 => k_is
    refine' (fun D__law_begin => ?rD31) (Ws.Dt.mk' (x := "_law_begin") (st := Ws.s__law_begin) (ps := Ws.pr__law_begin) KX G ?a31 ?l31 ?c31 ?k31 Ws.hb__law_begin)
    case' a31 => k_is
    case' l31 => k_is
    case' c31 => k_is
    case' k31 => k_is
    refine' (fun D__law_draw => ?rD32) (Ws.Dt.mk' (x := "_law_draw") (st := Ws.s__law_draw) (ps := Ws.pr__law_draw) KX G ?a32 ?l32 ?c32 ?k32 Ws.hb__law_draw)
    case' a32 => k_is
    case' l32 => k_is
    case' c32 => k_is
    case' k32 => k_is
    refine' (fun D__law_row => ?rD33) (Ws.Dt.mk' (x := "_law_row") (st := Ws.s__law_row) (ps := Ws.pr__law_row) KX G ?a33 ?l33 ?c33 ?k33 Ws.hb__law_row)
    case' a33 => k_is
    case' l33 => k_is
    case' c33 => k_is
    case' k33 => k_is
    refine' (fun D__law_fills => ?rD34) (Ws.Dt.mk' (x := "_law_fills") (st := Ws.s__law_fills) (ps := Ws.pr__law_fills) KX G ?a34 ?l34 ?c34 ?k34 Ws.hb__law_fills)
    case' a34 => k_is
    case' l34 => k_is
    case' c34 => k_is
    case' k34 => k_is
    refine' (fun D__law_like => ?rD35) (Ws.Dt.mk' (x := "_law_like") (st := Ws.s__law_like) (ps := Ws.pr__law_like) KX G ?a35 ?l35 ?c35 ?k35 Ws.hb__law_like)
    case' a35 => k_is
    case' l35 => k_is
    case' c35 => k_is
    case' k35 => k_is
    refine' (fun D__law_free => ?rD36) (Ws.Dt.mk' (x := "_law_free") (st := Ws.s__law_free) (ps := Ws.pr__law_free) KX G ?a36 ?l36 ?c36 ?k36 Ws.hb__law_free)
    case' a36 => k_is
    case' l36 => k_is
    case' c36 => k_is
    case' k36 => k_is
    refine' (fun D__law_free_set => ?rD37) (Ws.Dt.mk' (x := "_law_free_set") (st := Ws.s__law_free_set) (ps := Ws.pr__law_free_set) KX G ?a37 ?l37 ?c37 ?k37 Ws.hb__law_free_set)
    case' a37 => k_is
    case' l37 => k_is
    case' c37 => k_is
    case' k37 => k_is
    refine' (fun D__law_made_row => ?rD38) (Ws.Dt.mk' (x := "_law_made_row") (st := Ws.s__law_made_row) (ps := Ws.pr__law_made_row) KX G ?a38 ?l38 ?c38 ?k38 Ws.hb__law_made_row)
    case' a38 => k_is
    case' l38 => k_is
    case' c38 => k_is
    case' k38 => k_is
    refine' (fun D__law_minus => ?rD39) (Ws.Dt.mk' (x := "_law_minus") (st := Ws.s__law_minus) (ps := Ws.pr__law_minus) KX G ?a39 ?l39 ?c39 ?k39 Ws.hb__law_minus)
    case' a39 => k_is
    case' l39 => k_is
    case' c39 => k_is
    case' k39 => k_is
    refine' (fun D__law_whole => ?rD40) (Ws.Dt.mk' (x := "_law_whole") (st := Ws.s__law_whole) (ps := Ws.pr__law_whole) KX G ?a40 ?l40 ?c40 ?k40 Ws.hb__law_whole)
    case' a40 => k_is
    case' l40 => k_is
    case' c40 => k_is
    case' k40 => k_is
    refine' (fun D__law_sum => ?rD41) (Ws.Dt.mk' (x := "_law_sum") (st := Ws.s__law_sum) (ps := Ws.pr__law_sum) KX G ?a41 ?l41 ?c41 ?k41 Ws.hb__law_sum)
    case' a41 => k_is
    case' l41 => k_is
    case' c41 => k_is
    case' k41 => k_is
    refine' (fun D__law_bar_right => ?rD42) (Ws.Dt.mk' (x := "_law_bar_right") (st := Ws.s__law_bar_right) (ps := Ws.pr__law_bar_right) KX G ?a42 ?l42 ?c42 ?k42 Ws.hb__law_bar_right)
    case' a42 => k_is
    case' l42 => k_is
    case' c42 => k_is
    case' k42 => k_is
    refine' (fun D__law_turns_right => ?rD43) (Ws.Dt.mk' (x := "_law_turns_right") (st := Ws.s__law_turns_right) (ps := Ws.pr__law_turns_right) KX G ?a43 ?l43 ?c43 ?k43 Ws.hb__law_turns_right)
    case' a43 => k_is
    case' l43 => k_is
    case' c43 => k_is
    case' k43 => k_is
    refine' (fun D__law_row_right => ?rD44) (Ws.Dt.mk' (x := "_law_row_right") (st := Ws.s__law_row_right) (ps := Ws.pr__law_row_right) KX G ?a44 ?l44 ?c44 ?k44 Ws.hb__law_row_right)
    case' a44 => k_is
    case' l44 => k_is
    case' c44 => k_is
    case' k44 => k_is
    refine' (fun E_BR => ?rEBR) (Ws.ErT.mk' (x := "BadRow") (f := "value") (q := "BadRow.__init__") (st := Ws.s_BR) KX G ?eaCBR ?exLBR ?ervBR ?esaBR ?egaBR ?eggBR ?enbBR ?ea1BR ?et1BR ?el1BR ?ec1BR ?ek1BR ?ekCBR ?eeCBR ?etCBR ?ehCBR Ws.hb_BR)
    case' eaCBR => k_is
    case' exLBR => k_is
    case' ervBR => decide +kernel
    case' esaBR => k_is
    case' egaBR => k_is
    case' eggBR => k_is
    case' enbBR => k_is
    case' ea1BR => k_is
    case' et1BR => k_is
    case' el1BR => k_is
    case' ec1BR => k_is
    case' ek1BR => k_is
    case' ekCBR => k_is
    case' eeCBR => k_is
    case' etCBR => k_is
    case' ehCBR => k_is
    refine' (fun E_BS => ?rEBS) (Ws.ErT.mk' (x := "BadSet") (f := "place") (q := "BadSet.__init__") (st := Ws.s_BS) KX G ?eaCBS ?exLBS ?ervBS ?esaBS ?egaBS ?eggBS ?enbBS ?ea1BS ?et1BS ?el1BS ?ec1BS ?ek1BS ?ekCBS ?eeCBS ?etCBS ?ehCBS Ws.hb_BS)
    case' eaCBS => k_is
    case' exLBS => k_is
    case' ervBS => decide +kernel
    case' esaBS => k_is
    case' egaBS => k_is
    case' eggBS => k_is
    case' enbBS => k_is
    case' ea1BS => k_is
    case' et1BS => k_is
    case' el1BS => k_is
    case' ec1BS => k_is
    case' ek1BS => k_is
    case' ekCBS => k_is
    case' eeCBS => k_is
    case' etCBS => k_is
    case' ehCBS => k_is
    refine' (fun E_BI => ?rEBI) (Ws.ErT.mk' (x := "BadIndex") (f := "value") (q := "BadIndex.__init__") (st := Ws.s_BI) KX G ?eaCBI ?exLBI ?ervBI ?esaBI ?egaBI ?eggBI ?enbBI ?ea1BI ?et1BI ?el1BI ?ec1BI ?ek1BI ?ekCBI ?eeCBI ?etCBI ?ehCBI Ws.hb_BI)
    case' eaCBI => k_is
    case' exLBI => k_is
    case' ervBI => decide +kernel
    case' esaBI => k_is
    case' egaBI => k_is
    case' eggBI => k_is
    case' enbBI => k_is
    case' ea1BI => k_is
    case' et1BI => k_is
    case' el1BI => k_is
    case' ec1BI => k_is
    case' ek1BI => k_is
    case' ekCBI => k_is
    case' eeCBI => k_is
    case' etCBI => k_is
    case' ehCBI => k_is
    refine' (fun E_TG => ?rETG) (Ws.ErT.mk' (x := "TooGreat") (f := "most") (q := "TooGreat.__init__") (st := Ws.s_TG) KX G ?eaCTG ?exLTG ?ervTG ?esaTG ?egaTG ?eggTG ?enbTG ?ea1TG ?et1TG ?el1TG ?ec1TG ?ek1TG ?ekCTG ?eeCTG ?etCTG ?ehCTG Ws.hb_TG)
    case' eaCTG => k_is
    case' exLTG => k_is
    case' ervTG => decide +kernel
    case' esaTG => k_is
    case' egaTG => k_is
    case' eggTG => k_is
    case' enbTG => k_is
    case' ea1TG => k_is
    case' et1TG => k_is
    case' el1TG => k_is
    case' ec1TG => k_is
    case' ek1TG => k_is
    case' ekCTG => k_is
    case' eeCTG => k_is
    case' etCTG => k_is
    case' ehCTG => k_is
    refine' (fun B_ => ?rB) (Ws.Bl.mk' KX G ?z1 ?z2 ?z3 ?z4 ?z5 ?z6 ?z7 ?z8 ?z9 ?z10 ?z11 ?z12 ?z13 ?z14 ?z15 ?z16 ?z17 ?z18)
    case' z1 => k_is
    case' z2 => k_is
    case' z3 => k_is
    case' z4 => k_is
    case' z5 => k_is
    case' z6 => k_is
    case' z7 => k_is
    case' z8 => k_is
    case' z9 => k_is
    case' z10 => k_is
    case' z11 => k_is
    case' z12 => k_is
    case' z13 => k_is
    case' z14 => k_is
    case' z15 => k_is
    case' z16 => k_is
    case' z17 => k_is
    case' z18 => k_is
    refine' (fun C_ => ?rC) (Ws.Cs0.mk' (h := h) ?y0)
    case' y0 => exact hX.2.val _ (List.mem_cons_self ..)
    refine' (fun C2_ => ?rC2) (Ws.CsL.mk' KX G ?y1 ?y2 ?y3)
    case' y1 => exact hX.2.val _ (List.mem_cons_of_mem _ (List.mem_cons_self ..))
    case' y2 => k_is
    case' y3 => k_is
    refine' Ws.fin KX G hmg ?wa ?wl ?wc ?wk B_ C_ C2_ E_BR E_BS E_BI E_TG ⟨D_is_integer, D_is_between, D_is_tuple_of, D_are_between, D_is_row, D_added, D_weighed, D_determinant, D_cofactor, D_choices_of, D_square_of, D_weights_for, D_apart_at, D_turns_of, D_row_at, D_is_entry, D_is_line, D_need_set, D_need_row_of, D_need_free, D_turns, D_bars, D_bar_of, D_is_bar, D_is_weights, D_tie_of, D_is_inside, D_inner_lines, D_put_in_order, D_has, D__law_mixed, D__law_begin, D__law_draw, D__law_row, D__law_fills, D__law_like, D__law_free, D__law_free_set, D__law_made_row, D__law_minus, D__law_whole, D__law_sum, D__law_bar_right, D__law_turns_right, D__law_row_right⟩
    case' wa => k_is
    case' wl => k_is
    case' wc => k_is
    case' wk => k_is
