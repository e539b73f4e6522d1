import PyProof.Rows.All
import Wide.All
import OpenK.AllK
import Wide.FinOn
import KE.GoesMore
import HandS.ForExc
import HandS.ForMost
import HandS.IsInst
import HandS.Walk
import HandS.TupMul
import HandS.TupAny
import HandS.Style
import HandS.ExcInit
import HandS.ExcField
import HandS.TryMany
import HandS.Wide
import HandS.WideBits
import HandS.SortKw
import KE.DataMinMax
import HandS.ExcIs
import HandS.TryOnly
import HandS.WordsExc
import HandS.ExcOwn
import HandS.Ends
import HandS.Lambda
import HandS.Deep
import HandS.SetFor
import HandS.DictComp
import HandS.Conv
import KE.DataAny
import KE.DataFind
import KE.DataEq
import KE.KTupSum
import KE.SortData
import KE.DataCmp
import PyProof.TupleOfSeq
import HandS.ExcValue
import HandS.Zip
import HandS.More
import HandS.Defaults
import HandS.EndOwn
import HandS.EndTab
import KE.KIsAll
import KE.KNestM
import PySem.Challenge.RW_wholesay_k03_nots_driven_inward
set_option Elab.async false
set_option linter.all false
set_option maxRecDepth 100000
set_option maxHeartbeats 2000000
/-! ## Wa -/
/-! enumerate over a tuple -/
namespace Ws
open PySem PySem.Spec PyProof.Rows L2
open AutoSeq1 (wpAny_loadPart')
theorem meets_enum_newT (l : Addr) (items : Array Value) (n : Nat) (dct : Option Addr) (sl : Array (Option Value)) :
    Meets (Builtin.«enumerate.__new__» ⟨[.type "enumerate", .ref l], []⟩) (fun _ R s => s.heap.get? l = some { cls := .type "tuple", dict := dct, data := .seq items n, slots := sl } ∧
      R (.ok (.ret (.ref (s.heap.push { cls := .type "tuple_iterator", data := .fields #[.ref l, .int 0 0] }).objs.size)))
        { s with heap := (s.heap.push { cls := .type "tuple_iterator", data := .fields #[.ref l, .int 0 0] }).push { cls := .type "enumerate", data := .fields #[.none, .bool false, .ref s.heap.objs.size, rawInt 0, .none, .none] } }) :=
  .of_wp fun prog w A R s h => by
    obtain ⟨hp, g, d, tk, os⟩ := s; obtain ⟨hl, h⟩ := h
    have hsub := sub_enumerate
    have hL : Heap.IsTuple (Shared.heap ⟨hp, g, d, tk, os⟩) l items := ⟨_, hl, rfl, n, rfl⟩
    wp_walk using wpAny_loadPart' hl
    refine wpAny_stack_any fun st => wpAny_pure ?_
    split
    · rename_i c _ _ _ _ _
      cases (c == Value.type "enumerate")
      · wp_walk using wpAny_loadPart' hl, wpAny_pyIter_tuple hL
        exact ⟨_, rfl, h⟩
      · wp_walk using wpAny_loadPart' hl, wpAny_pyIter_tuple hL
        exact ⟨_, rfl, h⟩
    · wp_walk using wpAny_loadPart' hl, wpAny_pyIter_tuple hL
      exact ⟨_, rfl, h⟩
section
variable {prog : Program} {w : World} {A : Around} {E : Value → Shared → Prop} {s : Shared}
theorem call_enum_tup {l : Addr} {items : Array Value} {Q : Value → Shared → Prop} (hL : s.heap.IsTuple l items)
    (h : ∀ h', IsEnum h' (s.heap.objs.size + 1) s.heap.objs.size 0 .none → h'.IsTupleIter s.heap.objs.size l 0 → h'.objs.size = s.heap.objs.size + 2 →
      (∀ b o, s.heap.get? b = some o → h'.get? b = some o) → Q (.ref (s.heap.objs.size + 1)) { s with heap := h' }) :
    wpAny (model prog w) A (call (.type "enumerate") [.ref l]) Q E s := by
  obtain ⟨⟨c, dct, dt, sl⟩, hl, hc, n, hd⟩ := hL
  replace hc : c = .type "tuple" := hc
  replace hd : dt = .seq items n := hd
  subst hc hd
  refine callType_new F.called_enumerate (by decide) (F.typeCall_enumerate_1 _) (F.newCall_enumerate_1 _) (fun obj => F.args_object_init_2 obj _) F.entry_enumerate_new
    (meets_enum_newT l items n dct sl) ⟨hl, ?_⟩
  have hz : (s.heap.push { cls := .type "tuple_iterator", data := .fields #[.ref l, .int 0 0] }).objs.size = s.heap.objs.size + 1 := Heap.size_push ..
  show _ ∧ _
  rw [hz]
  have he : IsEnum ((s.heap.push { cls := .type "tuple_iterator", data := .fields #[.ref l, .int 0 0] }).push
      { cls := .type "enumerate", data := .fields #[.none, .bool false, .ref s.heap.objs.size, rawInt 0, .none, .none] }) (s.heap.objs.size + 1) s.heap.objs.size 0 .none := by
    have := Heap.get?_push_size (s.heap.push { cls := .type "tuple_iterator", data := .fields #[.ref l, .int 0 0] })
      (o := { cls := .type "enumerate", data := .fields #[.none, .bool false, .ref s.heap.objs.size, rawInt 0, .none, .none] }) rfl
    rw [hz] at this; exact this
  refine ⟨⟨_, he, rfl⟩, h _ he ⟨_, Heap.get?_push_of_some _ (Heap.get?_push_size _ rfl), rfl, rfl⟩ (by rw [Heap.size_push, hz]) fun b o x => Heap.get?_push_of_some _ (Heap.get?_push_of_some _ x)⟩
end
/-- the tuple at a as it stands at each turn, each item in a new pair -/
def Iteu (K : PySem.W.Frag) (a : Addr) : It :=
  ⟨fun i H => ∃ (xs : List V) (x : V), SqT K H a xs ∧ xs[i]? = some x, fun i H v H' => ∃ T x, v = .ref T ∧ H T = none ∧ H' = upd H T (.tup [.int (i : Nat), x]) ∧ ∀ xs, SqT K H a xs → xs[i]? = some x, fun i H => ∃ xs : List V, SqT K H a xs ∧ xs.length ≤ i⟩
theorem turn_enumT {P : Program} {w : World} {K : PySem.W.Frag} {elts : List Expr} {kk : Nat} {tpos : Pos} (a e it : Addr) :
    Turn P w K (.Tuple elts kk tpos) (Iteu K a) [e, it] e (fun i h => (∃ old, IsEnum h e it ((i : Nat) : Int) old) ∧ h.IsTupleIter it a i ∧ e ≠ it) where
  mem := by simp
  obj := fun i h st b hb => by
    obtain ⟨⟨old, he⟩, ⟨o, ho, hc, hd⟩, _⟩ := st
    have e' : b = e ∨ b = it := by simpa using hb
    rcases e' with z | z
    · rw [z]; exact ⟨_, he, fun v q => nomatch q⟩
    · rw [z]; exact ⟨o, ho, fun v q => by rw [hd] at q; cases q⟩
  keep := fun i h h' st k => let ⟨⟨old, he⟩, hi, hne⟩ := st; ⟨⟨old, k e (by simp) _ he⟩, hi.at fun o q => k it (by simp) o q, hne⟩
  item := by
    intro X hP hw hK hc i pins s σ H E I hf st hg
    subst hP hw hK
    obtain ⟨⟨old, he⟩, hit, hne⟩ := st
    obtain ⟨xs, x, hq, hx⟩ := hg
    obtain ⟨its, rv, p, hz⟩ := I.tuple hq
    obtain ⟨u, hu, ru⟩ := rv.get hx
    have hel : e < s.heap.objs.size := Heap.lt_size he
    have hil : it < s.heap.objs.size := by obtain ⟨_, q, _⟩ := hit; exact Heap.lt_size q
    have hae : a ≠ e := fun z => by
      obtain ⟨o, q, _, n, d⟩ := p
      rw [z, he] at q; cases q; cases d
    have hai : a ≠ it := fun z => by
      obtain ⟨o, q, _, n, d⟩ := p
      obtain ⟨o2, q2, _, d2⟩ := hit
      rw [z, q2] at q; cases q; rw [d2] at d; cases d
    have hlen : i < its.toArray.size := by
      have := (List.getElem?_eq_some_iff.mp hu).1
      simpa using this
    refine wpAny_pyNext_enum_itemD (Draws.tuple (A := X.A.in1) (I.ok.hd hc) it a hai its.toArray) he ⟨hit, p⟩ hlen hne (by simp only [List.mem_cons, List.not_mem_nil, or_false, not_or]; exact ⟨hne, Ne.symm hae⟩) fun x' h' tk hP ho hit' hT hsz hk => ?_
    have ex : x' = u := by
      have q : its.toArray[i]? = some x' := hP
      have q2 : its.toArray[i]? = some u := by simpa using hu
      rw [q2] at q
      exact (Option.some.inj q).symm
    subst ex
    refine ⟨_, rfl, wpAny_letOwnedTupleGo_enum (s := { s with heap := h', toks := tk + 1 }) ho fun h'' he' sb => ?_⟩
    have hT2 : h''.get? s.heap.objs.size = some { cls := .type "tuple", data := .seq #[.int i tk, x'] } := (sb.2 _ (Nat.ne_of_gt hel)).trans hT
    have new : ObjOk X.prog X.w (upd H s.heap.objs.size (.tup [.int (i : Nat), x])) h'' s.heap.objs.size (.tup [.int (i : Nat), x]) :=
      ⟨by show 2 ≤ sizeLine; decide, [.int i tk, x'], .cons ⟨_, rfl⟩ (.cons ru .nil), ⟨_, hT2, rfl, _, rfl⟩⟩
    have I1 : Inv X pins σ (upd H s.heap.objs.size (.tup [.int (i : Nat), x])) { s with heap := h'', toks := tk + 1 } :=
      I.turnedNew (ch := [e, it]) (fun b ob hb q => (sb.2 b (fun z => hb (by simp [z]))).trans (hk b ob (fun z => hb (by simp [z])) (fun z => hb (by simp [z])) q)) hf (Nat.le_refl _) new
    refine ⟨.ref s.heap.objs.size, _, I1, rfl, ⟨_, x, rfl, I.hok.fresh (Nat.le_refl _), rfl, fun ys hy => by rw [I.tuple_inj hy hq]; exact hx⟩, ⟨⟨x', ?_⟩, hit'.1.at fun o q => (sb.2 it (Ne.symm hne)).trans q, hne⟩, fun b hb => ?_⟩
    · have e1 : ((i + 1 : Nat) : Int) = (i : Int) + 1 := by omega
      rw [e1]; exact he'
    · have hb' : b < s.heap.objs.size := by
        have e' : b = e ∨ b = it := by simpa using hb
        rcases e' with z | z
        · rw [z]; exact hel
        · rw [z]; exact hil
      rw [upd_ne (Nat.ne_of_lt hb')]
      exact (hf b hb).1
  done := by
    intro X hP hw hK hc i pins s σ H E I hf st hg
    subst hP hw hK
    obtain ⟨⟨old, he⟩, hit, hne⟩ := st
    obtain ⟨xs, hq, hx⟩ := hg
    obtain ⟨its, rv, p, hz⟩ := I.tuple hq
    obtain ⟨f0, f1, f2, f3, f4, f5⟩ := hf it (by simp)
    have hl := rv.length
    have hai : a ≠ it := fun z => by
      obtain ⟨o, q, _, n, d⟩ := p
      obtain ⟨o2, q2, _, d2⟩ := hit
      rw [z, q2] at q; cases q; rw [d2] at d; cases d
    have hT : s.TypeIs (.ref e) "enumerate" := ⟨_, he, rfl⟩
    unfold pyNext
    refine wpAny_bind (wpAny_attempt (wpAny_callSpecial?_slot (name := Str.ofString "__next__") hT F.slot_enumerate_next
      (wpAny_call_entry F.slot_enumerate_next hT F.entry_enumerate_next ?_ (F.args_enumerate_next_1 _))))
    show wpAny _ _ (field (.ref e) 2 >>= _) _ _ _
    refine wpAny_bind (wpAny_field he rfl (x := .ref it) rfl ?_)
    refine wpAny_bind (wpAny_nextOf_tuple_end (A := X.A.in1) (I.ok.hd hc) hit p (by simp; omega) fun h' x he' hx' => ?_)
    obtain ⟨o, ho, hc'⟩ := hx'
    refine wpAny_bind (wpAny_isInstance (T := "StopIteration") (b := true) ⟨o, ho, hc'⟩ isSubtype_stop ?_)
    exact wpAny_pure ⟨rfl, I.turned (t' := s.toks) (fun b o hb q => he' b o hb q) f0 f1 f3 f4 f5⟩
  self := fun A i s Q E st h => let ⟨⟨_, he⟩, _⟩ := st; wpAny_pyIter_enum he h
def iEnumT (K : PySem.W.Frag) (ta : TA) : TI := fun σ H R => ta σ H fun vs H1 => ∃ a xs, vs = [.ref a] ∧ SqT K H1 a xs ∧ R (Iteu K a) H1
theorem pi_enumT {X : Cx} {e : Expr} {ta : TA} {p pos tpos : Pos} {elts : List Expr} {kk : Nat} (hg : Gl X "enumerate") (hm : X.mg "enumerate" = none) (ha : PA X [e] ta) (hs : starEach [e] X.env = [(false, eval e X.env)] := by rfl) :
    PI X (.Tuple elts kk tpos) (.Call (.Name "enumerate" p) [e] [] pos) (iEnumT X.K ta) := by
  refine ⟨fun pins s σ H R I h => ?_⟩
  refine Call_ (ld_blt I hg hm boot_enumerate (PyProof.Rows.callWith_type1 (thn (ha.run pos pins s σ H _ I h) fun us s1 ⟨vs, H1, I1, r1, q1⟩ => ?_) hs rfl))
  obtain ⟨a, xs, ex, hq, q⟩ := q1
  subst ex
  cases r1 with
  | cons r rr =>
    cases rr
    cases r
    obtain ⟨its, rv, p', hz⟩ := I1.tuple hq
    refine call_enum_tup p' fun h' he hit hsz hk => wpAny_pyIter_enum he ?_
    have I2 : Inv X pins σ H1 { s1 with heap := h' } := I1.kept (t' := s1.toks) hk
    refine ⟨s1.heap.objs.size + 1, [s1.heap.objs.size + 1, s1.heap.objs.size], _, _, H1, rfl, I2, turn_enumT a (s1.heap.objs.size + 1) s1.heap.objs.size, ⟨⟨.none, he⟩, hit, Nat.succ_ne_self _⟩, fun b hb => ?_, q⟩
    have e' : b = s1.heap.objs.size + 1 ∨ b = s1.heap.objs.size := by simpa using hb
    have hle : s1.heap.objs.size ≤ b := by
      rcases e' with z | z
      · rw [z]; exact Nat.le_add_right _ _
      · rw [z]; exact Nat.le_refl _
    exact I1.fpOk hle (I1.hok.fresh hle)
theorem walk_enumT {K : PySem.W.Frag} {a : Addr} {xs : List V} : Walk (Iteu K a) xs.length (fun H => SqT K H a xs) (YPair (fun i => some (.int (i : Nat))) (fun i => xs[i]?)) := by
  refine ⟨fun i _ hi q => ⟨xs, xs[i], q, by simp [hi]⟩, fun _ q => ⟨xs, q, Nat.le_refl _⟩, fun i H v H' _ q y => ?_⟩
  obtain ⟨T, x, h1, h2, h3, h4⟩ := y
  exact ⟨T, .int (i : Nat), x, h1, h2, h3, rfl, h4 xs q⟩
end Ws
/-! ## Wb -/
namespace Ws
open PySem PySem.Spec PyProof.Rows L2
/-! ### defs that know that no guard runs around them (for repr) -/
structure FnOkG (P : Program) (w : World) (K : PySem.W.Frag) (mg : Str → Option Value) (base : Heap) (CX : CXT) (k : Nat) (f : Addr) (fd : FuncData) (ps : List Str) (sp : Sp) : Prop where
  len : ∀ vs H Q E, sp vs H Q E → vs.length = ps.length
  run : ∀ (A : Around) (outer : List Env) (s : Shared) (H : Hp) (args : Args) (us : List Value) (vs : List V) (Q : VK) (E : XK), A.guards = some [] → Room k A → Env0 P w K mg base A outer s H → BindsTo s fd args (ps.zip us) → Vals vs us → sp vs H Q E →
    codeAny (model P w) A (.call (.ref f) args) (CR CX outer P w H s Q E) s
theorem FnOkG.of {P : Program} {w : World} {K : PySem.W.Frag} {mg : Str → Option Value} {base : Heap} {CX : CXT} {k : Nat} {f : Addr} {fd : FuncData} {ps : List Str} {sp : Sp} (F : FnOk P w K mg base CX k f fd ps sp) : FnOkG P w K mg base CX k f fd ps sp :=
  ⟨F.len, fun A outer s H args us vs Q E _ hr he hb hv hs => F.run A outer s H args us vs Q E hr he hb hv hs⟩
theorem fn_ofG {CX : CXT} {P : Program} {w : World} {K : PySem.W.Frag} {mg : Str → Option Value} {base : Heap} {k : Nat} {f : Addr} {name qual : Str} {params : Arguments} {body : List Stmt} {scope : Scope} {dV kV doc pm cdv ct oc : Value} {an od : Option Addr}
    {osl : Array (Option Value)} {N ps : List Str} {sp : Sp} (lk : K.lookup f = some ⟨oc, od, .func (PySem.W.fnOf name qual params body scope dV kV doc pm an cdv ct), osl⟩) (hcd : PySem.W.codeIn K cdv qual = true) (S : FnScope N ps scope)
    (len : ∀ vs H Q E, sp vs H Q E → vs.length = ps.length)
    (hbody : ∀ (A : Around) (outer : List Env) (s : Shared) (H : Hp) (vs : List V) (Q : VK) (E : XK), A.guards = some [] → Room k (A.deeper (envOfC qual scope s.heap.objs.size f cdv)) → sp vs H Q E →
      ∃ t, PSs (cxOf CX P w K mg base N qual scope f cdv A outer s H E) body t ∧ t { nx := fun _ H' => Q .non H', rt := Q } (start N vs) H) :
    FnOkG P w K mg base CX (k + 1) f (PySem.W.fnOf name qual params body scope dV kV doc pm an cdv ct) ps sp := by
  refine ⟨len, fun A outer s H args us vs Q E hG hr e0 hb r hsp => ?_⟩
  have hl := len _ _ _ _ hsp
  have KX : K.In s.heap := e0.mod.kin.keeps fun b o e => (e0.bs b o e).1
  have lim : s.heap.NoLimit := e0.mod.nolimit.keeps fun b o e => (e0.bs b o e).1
  have hkind : ∀ y ∈ ps.zip us, scope.names.lookup y.1 = some .local ∨ (scope.names.lookup y.1 = some .cell ∧ ((cellsFrom (s.heap.objs.size + 1) scope.names []).lookup y.1).isSome = true) := fun ⟨n, v⟩ hy => by
    rcases S.par n (List.of_mem_zip hy).1 with q | q
    · exact .inl q
    · exact .inr ⟨q, PySem.W.cellsFrom_some _ _ _ (.inl q)⟩
  refine codeAny_call_function hr.depth (KX _ _ lk) rfl S.co S.gen rfl (PySem.W.codeRec_of KX hcd) (hb _ _ _ _ ?_)
  refine wpAny_newFunctionEnv_cells S.kind hkind fun env he s1 x => ?_
  subst he
  refine ⟨lim.keeps x.toInCall.keep, codeAny_func ?_⟩
  obtain ⟨t, ht, hq⟩ := hbody A outer s H vs Q E hG (hr.deeper _) hsp
  have I : Inv (cxOf CX P w K mg base N qual scope f cdv A outer s H E) [] (start N vs) H s1 := inv_start S hr.hd e0 hl r x
  refine wpAny_mono (ht.run [] s1 (start N vs) H _ I hq) (fun fl s' hs => ?_) fun e s' hs => hs
  have fin : ∀ {σ' : L2.St} {H' : Hp} {v : V} {u : Value}, Inv (cxOf CX P w K mg base N qual scope f cdv A outer s H E) [] σ' H' s' → RelV v u → Q v H' → CE outer P w H s Q u s' :=
    fun {σ' H' v u} J rv q => ⟨v, H', J.os, J.bare, J.base, J.hok, rv, q⟩
  cases fl with
  | ret u =>
    obtain ⟨v, σ', H', J, rv, q⟩ := hs
    exact fin J rv q
  | next =>
    obtain ⟨σ', H', J, q⟩ := hs
    exact fin (v := V.non) (u := Value.none) J rfl q
  | brk =>
    obtain ⟨_, _, _, q⟩ := hs
    exact False.elim q
  | cont =>
    obtain ⟨_, _, _, q⟩ := hs
    exact False.elim q
section
variable {X : Cx} {CX : CXT} {k : Nat} {f : Addr} {fd : FuncData} {ps : List Str} {sp : Sp} {E : XK} {x : Str} {p pos : Pos} {e : Expr} {es : List Expr} {t : TA}
theorem run_fnG {pins : List (Addr × Obj)} {σ : L2.St} {H : Hp} {s : Shared} {Q : VK} {us : List Value} {vs : List V} (F : FnOkG X.prog X.w X.K X.mg X.base CX k f fd ps sp) (hG : X.A.guards = some []) (hr : Room k X.A) (hb : Binds X.K fd ps []) (hx : Passes CX X E)
    (I : Inv X pins σ H s) (r : Vals vs us) (h : sp vs H Q E) : wpAny (model X.prog X.w) X.A (call (.ref f) us) (EP X pins σ Q) X.xe s := by
  have hl : (us ++ []).length = ps.length := by rw [List.append_nil, ← r.length]; exact F.len _ _ _ _ h
  refine wpAny_call (codeAny_mono (F.run X.A X.stack s H ⟨us, []⟩ us vs Q E hG hr I.env0 (by have := hb s us I.kIn hl; rw [List.append_nil] at this; exact this) r h) fun r s' hq => ?_)
  cases r with
  | error e => exact hx pins σ H s e s' I hq
  | ok fl =>
    cases fl with
    | ret u => exact I.after hq
    | next => exact False.elim hq
    | brk => exact False.elim hq
    | cont => exact False.elim hq
/-- f(..) without defaults -/
def tCa (sp : Sp) (E : XK) (t : TA) : TE := fun σ H Q => t σ H fun vs H1 => sp vs H1 Q E
theorem pe_callG (F : FnOkG X.prog X.w X.K X.mg X.base CX k f fd ps sp) (hG : X.A.guards = some []) (hr : Room k X.A) (hg : Gl X x) (hm : X.mg x = some (.ref f)) (hk : PySem.W.keepIn X.K (.ref f) = true) (hb : Binds X.K fd ps []) (hx : Passes CX X E)
    (ha : PA X (e :: es) t) (hdb : (x == ("__debug__" : Str)) = false := by decide) (he : starEach (e :: es) X.env = (false, eval e X.env) :: starEach es X.env := by rfl) (hpl : (backTo pos (starEach es X.env)).any (·.1) = false := by rfl) :
    PE X (.Call (.Name x p) (e :: es) [] pos) (tCa sp E t) := by
  refine ⟨fun pins s σ H Q I h => ?_⟩
  refine wpAny_Call_Name_kw (ld_glob I hg hm ?_ hdb)
  refine PySem.W.callWith_K (h₀ := X.base) I.ok.mod.kin hk (thn (ha.run pos pins s σ H _ I h) fun us s1 ⟨vs, H1, I1, r, q⟩ => ⟨I1.kIn, ?_⟩) he hpl
  exact run_fnG F hG hr hb hx I1 r q
end
/-! ### repr of data -/
theorem call_reprD {X : Cx} (hG : X.A.guards = some []) (hu : X.A.units + 64 < cLine) : CallR X (.builtin "repr") (fun xs H Q => ∃ v d, xs = [v] ∧ Dp X.K H v d ∧ d.showable = true ∧ d.hasDict = false ∧ d.depth ≤ 60 ∧ d.shown.length ≤ sizeLine ∧ Q (.str d.shown) H) := by
  intro pins s σ H xs us Q I r h
  obtain ⟨v, d, rfl, hd, h1, h2, h3, h4, q⟩ := h
  obtain ⟨u, rfl, ru⟩ := vals1 r
  cases hd with
  | non =>
    cases ru
    exact PySem.P.repr_of_none ⟨.str _, H, I.tok _, ⟨_, rfl⟩, q⟩
  | bl b =>
    cases ru
    exact PySem.P.repr_of_bool ⟨.str _, H, I.tok _, ⟨_, rfl⟩, q⟩
  | int i =>
    obtain ⟨t, rfl⟩ := ru
    exact PySem.P.repr_of_int (by simpa [PyData.showable] using h1) ⟨.str _, H, I.tok _, ⟨_, rfl⟩, q⟩
  | str x =>
    obtain ⟨t, rfl⟩ := ru
    exact PySem.P.repr_of_str ⟨.str _, H, I.tok _, ⟨_, rfl⟩, q⟩ h4
  | lst hs ha =>
    obtain ⟨as, rd⟩ := Dp.reads I _ _ u (.lst hs ha) ru
    cases ru
    exact repr_of_reads' rd h1 (PyData.noDict_hsm h2) hG (by omega) (fun _ _ e => e) (fun h' u tk hk => ⟨.str _, H, I.kept hk, ⟨_, rfl⟩, q⟩) h4
  | tup hs ha =>
    obtain ⟨as, rd⟩ := Dp.reads I _ _ u (.tup hs ha) ru
    cases ru
    exact repr_of_reads' rd h1 (PyData.noDict_hsm h2) hG (by omega) (fun _ _ e => e) (fun h' u tk hk => ⟨.str _, H, I.kept hk, ⟨_, rfl⟩, q⟩) h4
end Ws
/-! ## Wc -/
namespace Ws
open PySem PySem.Spec PyProof.Rows L2
/-! ### several except clauses that name their error, by one name in slot i -/
def suiteEnds (D : Ends) (i : Nat) : Ends := { nx := fun σ' H' => D.nx (σ'.set i none) H', rt := D.rt, bk := fun σ' H' => D.bk (σ'.set i none) H', ct := fun σ' H' => D.ct (σ'.set i none) H' }
def wManyA (K : PySem.W.Frag) (i : Nat) (Wout : WX) (D : Ends) : List (Value × (Addr → Value → Option Addr → TS)) → WX
  | [] => Wout
  | (c, ts) :: r => fun cls d σ H => ∃ b, PySem.W.exmOne K cls c = some b ∧ (b = true → ∀ a, H a = none → ts a cls d (suiteEnds D i) (σ.set i (some (.ref a))) H) ∧ (b = false → wManyA K i Wout D r cls d σ H)
inductive HdsA (X : Cx) (n : Str) : List ExceptHandler → List (Value × (Addr → Value → Option Addr → TS)) → Prop
  | nil : HdsA X n [] []
  | cons {x : Str} {c : Value} {ts : Addr → Value → Option Addr → TS} {b₀ : Stmt} {suite : List Stmt} {np pos' : Pos} {hds : List ExceptHandler} {l : List (Value × (Addr → Value → Option Addr → TS))} (hc : Names X x c)
      (hsu : ∀ (a : Addr) (oe : Obj) (cls : Value) (d : Option Addr) (pn : List (Addr × Obj)), Zc cls d oe → (∃ vs, oe.data = .fields vs) → PSs (X.suite a ((a, oe) :: pn)) (b₀ :: suite) (ts a cls d)) (r : HdsA X n hds l) :
      HdsA X n (.ExceptHandler (some (.Name x np)) (some n) (b₀ :: suite) pos' :: hds) ((c, ts) :: l)
section
variable {X : Cx} {n : Str} {i : Nat} {body : List Stmt} {h₀ : ExceptHandler} {hds : List ExceptHandler} {l : List (Value × (Addr → Value → Option Addr → TS))} {pos : Pos} {tb : WX → TS} {Wout : WX}
theorem ps_try_manyA (hs : X.stack = X.env :: X.outer) (hf : X.env.frame = some X.env.locals) (hN : X.N.Nodup) (hi : X.N[i]? = some n) (hln : X.env.kindOf n = some .local) (tk : Takes X Wout)
    (hb : ∀ (W : WX) (pn : List (Addr × Obj)) (xe : Value → Shared → Prop), Takes (X.tr pn xe) W → PassesOwn (model X.prog X.w) X.A X.env xe → PSs (X.tr pn xe) body (tb W))
    (hh : HdsA X n (h₀ :: hds) l) : PS X (.Try body (h₀ :: hds) [] [] pos) (fun D σ H => tb (wManyA X.K i Wout D l) D σ H) := by
  refine ⟨fun pins s σ H D I h => ?_⟩
  have ok := I.ok
  have hfr : X.A.frames = some (X.env :: X.outer) := by rw [ok.frames, hs]
  have hloc : Loc X.env.scope n := .inl hln
  refine wpAny_Try_except ?_
  refine wpAny_mono ((hb (wManyA X.K i Wout D l) (X.pn ++ pins) (fun e s₁ => wpAny (model X.prog X.w) X.A (noteFrame e X.env) (fun _ s₂ => wpAny (model X.prog X.w) X.A (setFlight e none) (fun _ s₃ =>
    wpAny (model X.prog X.w) X.A (handleBy e X.env (h₀ :: hds)) (SP X pins D) X.xe s₃) X.xe s₂) X.xe s₁) (fun u s' xx => ?_) PassesOwn.looking).run [] s σ H D (I.toTry _) h) (fun f s1 hsp => ?_) (fun e s1 he => he)
  · -- the catch
    obtain ⟨a, B, sI, pins', σ', H', cls, d, rfl, J', nb, up, sky, na, os, ag, w⟩ := xx
    have J : Inv X pins σ' H' sI := J'.ofTry ok
    have sky' : Sky B (X.env :: X.outer) a (Zc cls d) X.env.locals s'.heap := by rw [← hs]; exact sky
    show wpAny (model X.prog X.w) X.A (noteFrame (.ref a) X.env) _ _ _
    refine Sky.land Zc.steady hfr hf sky' fun h3 fl3 up3 => ?_
    have J3 : Inv X pins σ' H' { s' with heap := h3 } := J.landed nb fl3.1 (up.trans up3) os ag
    obtain ⟨oe3, vs3, he3, hz3, hd3⟩ := fl3.there
    have notFr : ∀ {h : Heap} {o : Obj} {vs : Array Value}, h.FunFrames B (X.env :: X.outer) → h.get? a = some o → o.data = .fields vs → a ∉ frs (X.env :: X.outer) := fun {h o vs} ff e dd hm => by
      obtain ⟨_, o', e', hnf⟩ := ff.mem hm
      rw [e] at e'; cases e'
      exact hnf _ dd
    have nfr := notFr fl3.2.2.1 he3 hd3
    have nL : a ≠ X.env.locals := fun z => nfr (List.mem_filterMap.mpr ⟨X.env, List.mem_cons_self, by rw [hf, z]⟩)
    have nF : a ∉ X.fs := fun hm => by
      obtain ⟨e, he, q⟩ := List.mem_filterMap.mp hm
      exact nfr (List.mem_filterMap.mpr ⟨e, List.mem_cons_of_mem _ he, q⟩)
    have S3 := J3.suite he3 hd3 na nL nF
    have go : ∀ {hds' : List ExceptHandler} {l' : List (Value × (Addr → Value → Option Addr → TS))}, HdsA X n hds' l' → wManyA X.K i Wout D l' cls d σ' H' →
        wpAny (model X.prog X.w) X.A (handleBy (.ref a) X.env hds') (SP X pins D) X.xe { s' with heap := h3 } := by
      intro hds' l' hk
      induction hk with
      | nil =>
        intro w
        refine wpAny_handleBy_nil ?_
        obtain ⟨k1, k2, k3, oe, vs, T, oT, ts', he, hz, hd, h1, hr⟩ := id fl3
        unfold PySem.passOn
        refine wpAny_bind (wpAny_field he hd h1 ?_)
        rw [if_neg (show ¬ ((Value.ref T == Value.none) = true) from by simp)]
        have fin : wpAny (model X.prog X.w) X.A (setFlight (.ref a) X.env.frame) (fun _ s4 => wpAny (model X.prog X.w) X.A (throw (.ref a) : Sem Flow) (SP X pins D) X.xe s4) X.xe { s' with heap := h3 } := by
          rw [hf]
          refine HandSPX.setFlight_upZ fl3 fun h4 hh4 up4 => wpAny_throw (tk _ _ ?_)
          exact ⟨a, B, sI, pins, σ', H', cls, d, rfl, J, nb, (up.trans up3).trans up4, .inr (.inr (by rw [hs]; exact hh4)), na, os, ag, w⟩
        first
          | exact wpAny_bind (wpAny_pure (wpAny_bind fin))
          | exact wpAny_bind fin
      | @cons x c ts b₀ suite np pos' hds2 l2 hc hsu r ih =>
        intro w
        obtain ⟨b, hb1, hyes, hno⟩ := w
        refine wpAny_handleBy_cons (codeAny_handlers_test ?_) (by intro q; cases q)
        have LT : PySem.W.Looks (model X.prog X.w) h3 (typeOf (.ref a)) cls := fun A Q E s k q => wpAny_typeOf_ref (k _ _ he3) (by rw [hz3.1]; exact q)
        have LM := PySem.W.exm_one (M := model X.prog X.w) (J3.kIn) LT hb1
        have test : ∀ {Q : Value → Shared → Prop} {E : Value → Shared → Prop}, Q c { s' with heap := h3 } → wpAny (model X.prog X.w) (X.A.mark (some (.ref a))) (eval (.Name x np) X.env) Q E { s' with heap := h3 } := fun {Q E} q => by
          obtain ⟨hg, hdbg, hm | ⟨hm, hv, hnn⟩⟩ := hc
          · exact ld_glob (X := X.suite a ((a, oe3) :: (X.pn ++ pins))) S3 hg hm q hdbg
          · exact ld_blt (X := X.suite a ((a, oe3) :: (X.pn ++ pins))) S3 hg hm hv q hnn hdbg
        refine test (LM.here ?_)
        cases b with
        | true =>
          refine codeAny_handlers_suite_as ?_
          refine HandSPX.lands_againZ fl3 fun h4 fl4 up4 => ?_
          have J4 : Inv X pins σ' H' { s' with heap := h4 } := J.landed nb fl4.1 ((up.trans up3).trans up4) os ag
          obtain ⟨oe4, vs4, he4, hz4, hd4⟩ := fl4.there
          have S4 := J4.suite he4 hd4 na nL nF
          refine store_ok (X := X.suite a ((a, oe4) :: (X.pn ++ pins))) (v := .ref a) S4 hN hi hloc rfl (fun s5 S5 => ?_) (.inr hln)
          refine wpAny_mono ((hsu a oe4 cls d (X.pn ++ pins) hz4 ⟨_, hd4⟩).run [] s5 _ H' _ S5 (hyes rfl a na)) (fun f s6 hsp => ?_) (fun _ _ z => False.elim z)
          have end_ : ∀ {σ6 : L2.St} {H6 : Hp} {Q : Shared → Prop}, Inv (X.suite a ((a, oe4) :: (X.pn ++ pins))) [] σ6 H6 s6 → (∀ s7, Inv X pins (σ6.set i none) H6 s7 → Q s7) →
              wpAny (model X.prog X.w) X.A (do bindName X.env n .none; unbindBehindTheSuite X.env n pos') (fun _ s7 => Q s7) X.xe s6 := fun {σ6 H6 Q} S6 hq => gone_ok (S6.unsuite ok) hN hi hln hq
          cases f with
          | next =>
            obtain ⟨σ6, H6, S6, q6⟩ := hsp
            exact end_ S6 fun s7 J7 => ⟨_, _, J7, q6⟩
          | brk =>
            obtain ⟨σ6, H6, S6, q6⟩ := hsp
            exact end_ S6 fun s7 J7 => ⟨_, _, J7, q6⟩
          | cont =>
            obtain ⟨σ6, H6, S6, q6⟩ := hsp
            exact end_ S6 fun s7 J7 => ⟨_, _, J7, q6⟩
          | ret u =>
            obtain ⟨v6, σ6, H6, S6, r6, q6⟩ := hsp
            exact end_ S6 fun s7 J7 => ⟨_, _, _, J7, r6, q6⟩
        | false =>
          show wpAny _ X.A (handleBy (.ref a) X.env hds2) _ _ _
          exact ih (hno rfl)
    exact go hh w
  · cases f with
    | next =>
      obtain ⟨σ', H', J', q⟩ := hsp
      exact wpAny_execs_nil ⟨σ', H', J'.ofTry ok, q⟩
    | brk =>
      obtain ⟨σ', H', J', q⟩ := hsp
      exact ⟨σ', H', J'.ofTry ok, q⟩
    | cont =>
      obtain ⟨σ', H', J', q⟩ := hsp
      exact ⟨σ', H', J'.ofTry ok, q⟩
    | ret u =>
      obtain ⟨v, σ', H', J', r, q⟩ := hsp
      exact ⟨v, σ', H', J'.ofTry ok, r, q⟩
end
end Ws
/-! ## Wd -/
namespace L2
open PySem PySem.Spec PyProof.Rows
/-! ### data and heaps -/
theorem Same.seqT {K : PySem.W.Frag} {H H' : Hp} {a : Addr} {xs : List V} (e : Same H H') (h : SqT K H a xs) : SqT K H' a xs := by
  rcases h with (h | ⟨o, h⟩) | h
  · exact .inl (.inl (e _ _ h))
  · exact .inl (.inr ⟨o, e _ _ h⟩)
  · exact .inr h
theorem Same.new {H : Hp} {p : Addr} {o : HO} (h : H p = none) : Same H (upd H p o) := fun b u e => by
  rw [upd_ne (ne_of_none e h)]
  exact e
/-- what H does not know may change -/
theorem Same.mut {H H' : Hp} {p : Addr} {o : HO} (e : Same H H') (h : H p = none) : Same H (upd H' p o) := fun b u hb => by
  rw [upd_ne (ne_of_none hb h)]
  exact e b u hb
theorem Same.then_new {H H' : Hp} {p : Addr} {o : HO} (e : Same H H') (h : H' p = none) : Same H (upd H' p o) := Same.trans e (Same.new h)
section
variable {K : PySem.W.Frag} {H H' : Hp}
mutual
theorem Dp.same (e : Same H H') : ∀ (d : PyData) (v : V), Dp K H v d → Dp K H' v d
  | .none, _, h => by cases h; exact .non
  | .bool b, _, h => by cases h; exact .bl b
  | .int i, _, h => by cases h; exact .int i
  | .str x, _, h => by cases h; exact .str x
  | .list ds, _, h => by
    cases h with
    | lst hs ha => exact .lst (e.seq hs) (Dp.sameAll e ds _ ha)
  | .tuple ds, _, h => by
    cases h with
    | tup hs ha => exact .tup (Same.seqT e hs) (Dp.sameAll e ds _ ha)
  | .dict _, _, h => by cases h
theorem Dp.sameAll (e : Same H H') : ∀ (ds : List PyData) (vs : List V), DpAll K H vs ds → DpAll K H' vs ds
  | [], _, h => by cases h; exact .nil
  | d :: ds, _, h => by
    cases h with
    | cons h1 h2 => exact .cons (Dp.same e d _ h1) (Dp.sameAll e ds _ h2)
end
theorem Dp.to {v : V} {d : PyData} (h : Dp K H v d) (e : Same H H') : Dp K H' v d := Dp.same e d v h
theorem DpAll.to {vs : List V} {ds : List PyData} (h : DpAll K H vs ds) (e : Same H H') : DpAll K H' vs ds := Dp.sameAll e ds vs h
theorem DpAll.length : ∀ {ds : List PyData} {vs : List V}, DpAll K H vs ds → vs.length = ds.length
  | [], _, h => by cases h; rfl
  | d :: ds, _, h => by
    cases h with
    | cons h1 h2 => simp [DpAll.length h2]
theorem DpAll.get : ∀ {ds : List PyData} {vs : List V} {i : Nat} {d : PyData}, DpAll K H vs ds → ds[i]? = some d → ∃ v, vs[i]? = some v ∧ Dp K H v d
  | [], _, i, d, h, e => by simp at e
  | d' :: ds, _, 0, d, h, e => by
    cases h with
    | cons h1 h2 =>
      have e' : d' = d := by simpa using e
      subst e'
      exact ⟨_, rfl, h1⟩
  | d' :: ds, _, i + 1, d, h, e => by
    cases h with
    | cons h1 h2 =>
      obtain ⟨v, a, b⟩ := DpAll.get h2 (by simpa using e)
      exact ⟨v, by simpa using a, b⟩
theorem DpAll.getV : ∀ {ds : List PyData} {vs : List V} {i : Nat} {v : V}, DpAll K H vs ds → vs[i]? = some v → ∃ d, ds[i]? = some d ∧ Dp K H v d
  | [], _, i, d, h, e => by cases h; simp at e
  | d' :: ds, _, 0, d, h, e => by
    cases h with
    | cons h1 h2 =>
      simp at e
      subst e
      exact ⟨_, rfl, h1⟩
  | d' :: ds, _, i + 1, d, h, e => by
    cases h with
    | cons h1 h2 =>
      obtain ⟨v, a, b⟩ := DpAll.getV h2 (by simpa using e)
      exact ⟨v, by simpa using a, b⟩
theorem DpAll.append : ∀ {ds es : List PyData} {vs ws : List V}, DpAll K H vs ds → DpAll K H ws es → DpAll K H (vs ++ ws) (ds ++ es)
  | [], _, _, _, h, h' => by cases h; exact h'
  | d :: ds, _, _, _, h, h' => by
    cases h with
    | cons h1 h2 => exact .cons h1 (DpAll.append h2 h')
theorem DpAll.snoc {ds : List PyData} {vs : List V} {v : V} {d : PyData} (h : DpAll K H vs ds) (h1 : Dp K H v d) : DpAll K H (vs ++ [v]) (ds ++ [d]) := h.append (.cons h1 .nil)
theorem DpAll.take : ∀ {ds : List PyData} {vs : List V} (n : Nat), DpAll K H vs ds → DpAll K H (vs.take n) (ds.take n)
  | [], _, n, h => by cases h; simp; exact .nil
  | d :: ds, _, 0, h => .nil
  | d :: ds, _, n + 1, h => by
    cases h with
    | cons h1 h2 => exact .cons h1 (DpAll.take n h2)
theorem DpAll.drop : ∀ {ds : List PyData} {vs : List V} (n : Nat), DpAll K H vs ds → DpAll K H (vs.drop n) (ds.drop n)
  | [], _, n, h => by cases h; simp; exact .nil
  | d :: ds, _, 0, h => h
  | d :: ds, _, n + 1, h => by
    cases h with
    | cons h1 h2 => exact DpAll.drop n h2
theorem DpAll.set {v : V} {d : PyData} (h1 : Dp K H v d) : ∀ {ds : List PyData} {vs : List V} (n : Nat), DpAll K H vs ds → DpAll K H (vs.set n v) (ds.set n d)
  | [], _, n, h => by cases h; exact .nil
  | _ :: ds, _, 0, h => by
    cases h with
    | cons h0 h2 => exact .cons h1 h2
  | _ :: ds, _, n + 1, h => by
    cases h with
    | cons h0 h2 => exact .cons h0 (DpAll.set h1 n h2)
theorem DpAll.ints : ∀ (ns : List Int), DpAll K H (ns.map V.int) (ns.map PyData.int)
  | [] => .nil
  | n :: ns => .cons (.int n) (DpAll.ints ns)
theorem DpAll.ints_inv : ∀ {ns : List Int} {vs : List V}, DpAll K H vs (ns.map PyData.int) → vs = ns.map V.int
  | [], _, h => by cases h; rfl
  | n :: ns, _, h => by
    cases h with
    | cons h1 h2 =>
      cases h1
      rw [DpAll.ints_inv h2]
      rfl
theorem Dp.int_inv {v : V} {i : Int} (h : Dp K H v (.int i)) : v = .int i := by cases h; rfl
theorem Dp.bl_inv {v : V} {b : Bool} (h : Dp K H v (.bool b)) : v = .bl b := by cases h; rfl
theorem Dp.tup_inv {v : V} {ds : List PyData} (h : Dp K H v (.tuple ds)) : ∃ a xs, v = .ref a ∧ SqT K H a xs ∧ DpAll K H xs ds := by
  cases h with
  | tup hs ha => exact ⟨_, _, rfl, hs, ha⟩
theorem Dp.lst_inv {v : V} {ds : List PyData} (h : Dp K H v (.list ds)) : ∃ a xs, v = .ref a ∧ SqL K H a xs ∧ DpAll K H xs ds := by
  cases h with
  | lst hs ha => exact ⟨_, _, rfl, hs, ha⟩
theorem Dp.ints_tup {v : V} {ns : List Int} (h : Dp K H v (.tuple (ns.map PyData.int))) : ∃ a, v = .ref a ∧ SqT K H a (ns.map V.int) := by
  obtain ⟨a, xs, rfl, hs, ha⟩ := h.tup_inv
  rw [ha.ints_inv] at hs
  exact ⟨a, rfl, hs⟩
theorem Dp.tup_ints {a : Addr} {ns : List Int} (h : SqT K H a (ns.map V.int)) : Dp K H (.ref a) (.tuple (ns.map PyData.int)) := .tup h (DpAll.ints ns)
end
end L2
namespace Ws
open PySem PySem.Spec PyProof.Rows L2
/-! ### max(ints, default=d) -/
theorem fold_max (n : Int) : ∀ ns : List Int, (ns.foldl max n = n ∨ ns.foldl max n ∈ ns) ∧ n ≤ ns.foldl max n ∧ ∀ y ∈ ns, y ≤ ns.foldl max n := by
  intro ns
  induction ns generalizing n with
  | nil => exact ⟨.inl rfl, Int.le_refl _, fun y hy => absurd hy (by simp)⟩
  | cons a r ih =>
    obtain ⟨h1, h2, h3⟩ := ih (max n a)
    simp only [List.foldl_cons]
    refine ⟨?_, by omega, fun y hy => ?_⟩
    · rcases h1 with h1 | h1
      · rw [h1]
        rcases Int.le_total n a with z | z
        · right; rw [Int.max_eq_right z]; exact List.mem_cons_self ..
        · left; exact Int.max_eq_left z
      · right; exact List.mem_cons_of_mem _ h1
    · rcases List.mem_cons.mp hy with e | hy
      · rw [e]; omega
      · exact h3 y hy
theorem alike_ints (ns : List Int) : PySem.W.AlikeAll (ns.map PyData.int) := by
  refine ⟨fun x hx y hy => ?_, fun x hx => ?_⟩
  · obtain ⟨a, _, rfl⟩ := List.mem_map.mp hx
    obtain ⟨b, _, rfl⟩ := List.mem_map.mp hy
    simp [PySem.W.alike]
  · obtain ⟨a, _, rfl⟩ := List.mem_map.mp hx
    intro z
    cases z
theorem depth_ints : ∀ ns : List Int, PyData.depthAll (ns.map PyData.int) = 0
  | [] => rfl
  | n :: ns => by
    show max 0 (PyData.depthAll (ns.map PyData.int)) = 0
    rw [depth_ints ns]
    rfl
def rMaxD (K : PySem.W.Frag) : List V → List V → Hp → VK → Prop := fun xs zs H Q => ∃ (a : Addr) (ns : List Int) (d : V), xs = [.ref a] ∧ zs = [d] ∧ SqL K H a (ns.map V.int) ∧ (ns = [] → Q d H) ∧ ∀ m, m ∈ ns → (∀ y ∈ ns, y ≤ m) → Q (.int m) H
theorem call_maxD {X : Cx} (hc : X.calm = true) (hu : X.A.units + 64 < cLine) : CallRK X (.builtin "max") ["default"] (rMaxD X.K) := by
  intro pins s σ H xs zs us ws Q I r1 r2 h
  obtain ⟨a, ns, d, rfl, rfl, hs, h0, h1⟩ := h
  obtain ⟨u, rfl, ru⟩ := vals1 r1
  obtain ⟨u', rfl, ru'⟩ := vals1 r2
  cases ru
  obtain ⟨its, rv, p, hz⟩ := I.list hs
  obtain ⟨as, hr⟩ := Dp.readsAll I (ns.map PyData.int) (ns.map V.int) its (DpAll.ints ns) rv
  show wpAny _ _ (call (.builtin "max") [.ref a] [(Str.ofString "default", u')]) _ _ _
  refine PySem.W.max_list_default (xs := ns.map PyData.int) (I.ok.hd hc) p.isList (by simpa using hr) (alike_ints ns) (by rw [depth_ints]; omega) (fun e h' tk hk => ?_) (fun y ys i v h' tk bs e hv hR hk => ?_)
  · exact ⟨d, H, I.kept hk, ru', h0 (by simpa using e)⟩
  · cases ns with
    | nil => cases e
    | cons n r =>
      have e1 : PyData.int n = y := by
        simp only [List.map_cons, List.cons.injEq] at e
        exact e.1
      have e2 : r.map PyData.int = ys := by
        simp only [List.map_cons, List.cons.injEq] at e
        exact e.2
      subst e1 e2
      rw [PySem.W.maxD_ints] at hR
      cases hR with
      | int i t =>
        obtain ⟨g1, g2, g3⟩ := fold_max n r
        refine ⟨.int (r.foldl max n), H, I.kept hk, ⟨_, rfl⟩, h1 _ ?_ fun y hy => ?_⟩
        · rcases g1 with g1 | g1
          · rw [g1]; exact List.mem_cons_self ..
          · exact List.mem_cons_of_mem _ g1
        · rcases List.mem_cons.mp hy with e | hy
          · rw [e]; exact g2
          · exact g3 y hy
/-! ### a def as a fact of the module -/
structure Dt (K : PySem.W.Frag) (mg : Str → Option Value) (x : Str) (st : Stmt) (ps : List Str) : Prop where
  ex : ∃ (f : Addr) (fd : FuncData), Fun K x x st f fd ∧ mg x = some (.ref f) ∧ Binds K fd ps []
structure Df (P : Program) (w : World) (K : PySem.W.Frag) (mg : Str → Option Value) (base : Heap) (CX : CXT) (k : Nat) (x : Str) (ps : List Str) (sp : Sp) : Prop where
  ex : ∃ (f : Addr) (fd : FuncData), FnOk P w K mg base CX k f fd ps sp ∧ mg x = some (.ref f) ∧ PySem.W.keepIn K (.ref f) = true ∧ Binds K fd ps []
structure DfG (P : Program) (w : World) (K : PySem.W.Frag) (mg : Str → Option Value) (base : Heap) (CX : CXT) (k : Nat) (x : Str) (ps : List Str) (sp : Sp) : Prop where
  ex : ∃ (f : Addr) (fd : FuncData), FnOkG P w K mg base CX k f fd ps sp ∧ mg x = some (.ref f) ∧ PySem.W.keepIn K (.ref f) = true ∧ Binds K fd ps []
section
variable {P : Program} {w : World} {K : PySem.W.Frag} {mg : Str → Option Value} {base : Heap} {x : Str} {st : Stmt} {N ps : List Str} {k : Nat} {sp : Sp}
theorem Dt.mk' {h : Heap} {f : Addr} {oc : Value} {od an : Option Addr} {osl : Array (Option Value)} {kV doc pm cdv ct : Value} (X : K.In h) (G : h.Ns mainGlobals mg) (a : PySem.W.nsIn K mainGlobals x = some (some (.ref f)))
    (l : K.lookup f = some ⟨oc, od, .func (PySem.W.fnOf x x (defArgs st) (defBody st) (defScope st) .none kV doc pm an cdv ct), osl⟩) (c : PySem.W.codeIn K cdv x = true) (kp : PySem.W.keepIn K (.ref f) = true)
    (hb : ∀ (kV doc pm : Value) (an : Option Addr) (cdv ct : Value) (us : List Value), us.length = ps.length → bindArgs (PySem.W.fnOf x x (defArgs st) (defBody st) (defScope st) .none kV doc pm an cdv ct) ⟨us, []⟩ = pure (ps.zip us)) : Dt K mg x st ps :=
  ⟨f, _, fun_mk l c kp, PySem.W.mg_of X G a, (fun_mk l c kp).binds hb⟩
theorem Dt.ok (D : Dt K mg x st ps) (S : FnScope N ps (defScope st)) (len : ∀ vs H Q E, sp vs H Q E → vs.length = ps.length)
    (hbody : ∀ (f : Addr) (cdv : Value) (A : Around) (outer : List Env) (s : Shared) (H : Hp) (vs : List V) (Q : VK) (E : XK), Room k (A.deeper (envOfC x (defScope st) s.heap.objs.size f cdv)) → sp vs H Q E →
      ∃ t, PSs (cxOf CX0 P w K mg base N x (defScope st) f cdv A outer s H E).nox (defBody st) t ∧ t { nx := fun _ H' => Q .non H', rt := Q } (start N vs) H) : Df P w K mg base CX0 (k + 1) x ps sp := by
  obtain ⟨f, fd, F, m, b⟩ := D.ex
  exact ⟨f, fd, F.ok S len (hbody f), m, F.kp, b⟩
theorem Dt.okX (D : Dt K mg x st ps) (S : FnScope N ps (defScope st)) (len : ∀ vs H Q E, sp vs H Q E → vs.length = ps.length)
    (hbody : ∀ (f : Addr) (cdv : Value) (A : Around) (outer : List Env) (s : Shared) (H : Hp) (vs : List V) (Q : VK) (E : XK), Room k (A.deeper (envOfC x (defScope st) s.heap.objs.size f cdv)) → sp vs H Q E →
      ∃ t, PSs (cxOf (L2.CX P w) P w K mg base N x (defScope st) f cdv A outer s H E) (defBody st) t ∧ t { nx := fun _ H' => Q .non H', rt := Q } (start N vs) H) : Df P w K mg base (L2.CX P w) (k + 1) x ps sp := by
  obtain ⟨f, fd, F, m, b⟩ := D.ex
  exact ⟨f, fd, F.okX S len (hbody f), m, F.kp, b⟩
theorem Dt.okG (D : Dt K mg x st ps) (S : FnScope N ps (defScope st)) (len : ∀ vs H Q E, sp vs H Q E → vs.length = ps.length)
    (hbody : ∀ (f : Addr) (cdv : Value) (A : Around) (outer : List Env) (s : Shared) (H : Hp) (vs : List V) (Q : VK) (E : XK), A.guards = some [] → Room k (A.deeper (envOfC x (defScope st) s.heap.objs.size f cdv)) → sp vs H Q E →
      ∃ t, PSs (cxOf CX0 P w K mg base N x (defScope st) f cdv A outer s H E).nox (defBody st) t ∧ t { nx := fun _ H' => Q .non H', rt := Q } (start N vs) H) : DfG P w K mg base CX0 (k + 1) x ps sp := by
  obtain ⟨f, fd, F, m, b⟩ := D.ex
  obtain ⟨oc, od, kV, doc, pm, an, cdv, ct, osl, rfl, lk, hcd⟩ := F.ex
  refine ⟨f, _, fn_ofG lk hcd S len fun A outer s H vs Q E hg hr hsp => ?_, m, F.kp, b⟩
  obtain ⟨t, h, q⟩ := hbody f cdv A outer s H vs Q E hg hr hsp
  exact ⟨t, h.nox, q⟩
theorem Df.g {CX : CXT} (D : Df P w K mg base CX k x ps sp) : DfG P w K mg base CX k x ps sp := let ⟨f, fd, a, b, c, d⟩ := D.ex; ⟨f, fd, .of a, b, c, d⟩
end
section
variable {X : Cx} {CX : CXT} {k : Nat} {ps : List Str} {sp : Sp} {E : XK} {x : Str} {p pos : Pos} {e : Expr} {es : List Expr} {t : TA}
theorem pe_f (D : Df X.prog X.w X.K X.mg X.base CX k x ps sp) (hr : Room k X.A) (hx : Passes CX X E)
    (ha : PA X (e :: es) t) (hg : Gl X x := by rfl) (hdb : (x == ("__debug__" : Str)) = false := by decide) (he : starEach (e :: es) X.env = (false, eval e X.env) :: starEach es X.env := by rfl) (hpl : (backTo pos (starEach es X.env)).any (·.1) = false := by rfl) :
    PE X (.Call (.Name x p) (e :: es) [] pos) (tCa sp E t) := by
  obtain ⟨f, fd, F, m, kp, b⟩ := D.ex
  refine ⟨fun pins s σ H Q I h => ?_⟩
  refine (pe_call (dvs := []) F hr hg m kp b .nil hx ha hdb he hpl).run pins s σ H Q I ?_
  have e1 : tCall sp [] E t = tCa sp E t := by
    unfold tCall tCa
    simp only [List.append_nil]
  rw [e1]
  exact h
theorem pe_fG (D : DfG X.prog X.w X.K X.mg X.base CX k x ps sp) (hG : X.A.guards = some []) (hr : Room k X.A) (hx : Passes CX X E)
    (ha : PA X (e :: es) t) (hg : Gl X x := by rfl) (hdb : (x == ("__debug__" : Str)) = false := by decide) (he : starEach (e :: es) X.env = (false, eval e X.env) :: starEach es X.env := by rfl) (hpl : (backTo pos (starEach es X.env)).any (·.1) = false := by rfl) :
    PE X (.Call (.Name x p) (e :: es) [] pos) (tCa sp E t) := by
  obtain ⟨f, fd, F, m, kp, b⟩ := D.ex
  exact pe_callG F hG hr hg m kp b hx ha hdb he hpl
theorem pe_fS {E : L2.St → XK} (D : Df X.prog X.w X.K X.mg X.base CX k x ps sp) (hr : Room k X.A) (hx : ∀ σ, PassesAt CX X σ (E σ))
    (ha : PA X (e :: es) t) (hg : Gl X x := by rfl) (hdb : (x == ("__debug__" : Str)) = false := by decide) (he : starEach (e :: es) X.env = (false, eval e X.env) :: starEach es X.env := by rfl) (hpl : (backTo pos (starEach es X.env)).any (·.1) = false := by rfl) :
    PE X (.Call (.Name x p) (e :: es) [] pos) (tCallS sp E t) := by
  obtain ⟨f, fd, F, m, kp, b⟩ := D.ex
  exact pe_callS F hr hg m kp b hx ha hdb he hpl
end
end Ws
/-! ## X03 -/
/-! a comprehension whose element may raise -/
namespace Ws
open PySem PySem.Spec PyProof.Rows L2
theorem note_same {v : Value} {one two : Env} (h : one.frame = two.frame) : noteFrame v one = noteFrame v two := by
  unfold noteFrame PySem.frameOf
  rw [h]
/-- how a block of a comprehension ends: its names let go, then the list, or the error passed on -/
def endX (M : Model) (A : Around) (E : Value → Shared → Prop) (Q : Value → Shared → Prop) (acc : Value) (ce : Env) : Result → Shared → Prop
  | .ok _, z => ∃ m, z.heap.Ns ce.locals m ∧ ∀ g, Heap.SameBut ce.locals z.heap g → Q acc { z with heap := g }
  | .error x, z => ∃ m, z.heap.Ns ce.locals m ∧ ∀ g, Heap.SameBut ce.locals z.heap g → wpAny M A (PySem.passOn "comprehension.variables-let-go" x ce : Sem Value) (fun _ _ => False) E { z with heap := g }
theorem compX {M : Model} {A : Around} {E Q : Value → Shared → Prop} {s : Shared} {env : Env} {e : Expr} {scope : Scope} {pos : Pos} {newAcc first : Sem Value} {g : Comprehension} {gs : List Comprehension} {cl : List (Str × Addr)}
    (h1 : clausesOf e = g :: gs) (h2 : ∀ x, foldedSetIterable g.iter env x = pure x) (h3 : closureFor scope env = pure cl) (h4 : scope.kind = .function) (h5 : ∀ y ∈ scope.names, y.2 = .local → scope.names.lookup y.1 = some .local)
    (go : wpAny M A first (fun x a1 => wpAny M A (pyIter x) (fun it a2 => wpAny M A newAcc (fun acc a3 => wpAny M A (newFunctionEnv scope env.globals cl [] env.qual none .none (some env)) (fun ce a4 =>
      codeAny M A (.compStart e 0 it acc { ce with scope := relabel scope env }) (endX M A E Q acc { ce with scope := relabel scope env }) a4) E a3) E a2) E a1) E s) :
    wpAny M A (comprehension e scope env pos newAcc false first none) Q E s := by
  unfold comprehension
  rw [h3, h1]
  have same : ∀ (x : Value) (z : Shared), E x z → E x z := fun _ _ q => q
  refine wpAny_bind (wpAny_mono go (fun x a1 b1 => ?_) same)
  refine wpAny_bind (wpAny_standAt (wpAny_bind (wpAny_of_eq (h2 x) (wpAny_bind (wpAny_holding (wpAny_mono b1 (fun it a2 b2 => ?_) same))))))
  refine wpAny_standIf (wpAny_bind (wpAny_mono b2 (fun acc a3 b3 => ?_) same))
  refine wpAny_bind (wpAny_pure (wpAny_bind (wpAny_mono b3 (fun ce a4 b4 => ?_) same)))
  dsimp only
  have loc : ∀ y ∈ (scope.names.filter fun y => (y.2 == .local || y.2 == .cell) && y.1 != (".0" : Str)).reverse, y.2 = .local → Env.kindOf { ce with scope := relabel scope env } y.1 = some .local := fun y my l =>
    lookup_relabel_local (h5 y (List.mem_filter.mp (List.mem_reverse.mp my)).1 l)
  refine wpAny_holding (wpAny_bind (wpAny_attempt (wpAny_holding (wpAny_run (codeAny_mono b4 fun r z hr => ?_)))))
  cases r with
  | ok f =>
    obtain ⟨m, n, q⟩ := hr
    refine wpAny_bind (wpAny_holding (wpAny_comp_letGo (cenv := { ce with scope := relabel scope env }) h4 _ z m loc n fun g m' _ sb => ?_))
    exact wpAny_pure (q g sb)
  | error x =>
    obtain ⟨m, n, q⟩ := hr
    refine wpAny_bind (wpAny_holding (wpAny_comp_letGo (cenv := { ce with scope := relabel scope env }) h4 _ z m loc n fun g m' _ sb => ?_))
    exact wpAny_mono (q g sb) (fun _ _ f => f.elim) same
section
variable {X : Cx} {pins : List (Addr × Obj)} {σ : L2.St} {H : Hp} {s s' : Shared} {B : Heap} {W : WX}
/-- an error that the frame holds in its own hand -/
theorem xe_held {a : Addr} {H' : Hp} {cls : Value} {d : Option Addr} (I : Inv X pins σ H s) (hd : HandSPX.HeldZ B X.stack a (Zc cls d) X.env.locals s'.heap) (hok : HOk X.prog X.w H' B) (ub : UB (frs X.stack) H H' s.heap B s'.heap) (na : H' a = none)
    (os : s'.os = s.os) (ag : AllBare s'.gens) (w : W cls d σ H') : XE X W (.ref a) s' := by
  obtain ⟨G, g1, g2⟩ := restrict s'.heap fun b => decide (b ∈ frs X.stack) || (B.get? b).isSome
  have fromB : ∀ b o, B.get? b = some o → G.get? b = some o := fun b o e => (g1 b (by rw [e]; simp)).trans (hd.1 b o e)
  have fromF : ∀ b ∈ frs X.stack, G.get? b = s'.heap.get? b := fun b m => g1 b (by simp [m])
  have inG : ∀ b o, G.get? b = some o → s'.heap.get? b = some o ∧ (b ∉ frs X.stack → B.get? b = some o) := fun b o e => by
    cases t : (decide (b ∈ frs X.stack) || (B.get? b).isSome) with
    | false => rw [g2 b t] at e; cases e
    | true =>
      rw [g1 b t] at e
      refine ⟨e, fun nm => ?_⟩
      have t' : (B.get? b).isSome = true := by simpa [nm] using t
      obtain ⟨o', q⟩ := Option.isSome_iff_exists.mp t'
      have := hd.1 b o' q
      rw [e] at this
      cases this
      exact q
  have u : Un (frs X.stack) [] H H' s.heap G :=
    { keep := fun b o e n nf _ => fromB b o (ub.keep b o e n nf)
      slot := fun b o e _ m _ => (ub.slot b o e m).elim fun sl q => ⟨sl, (fromF b m).trans q⟩
      free := fun b o e n _ => ub.free b o e n
      there := fun b o e _ => by
        by_cases m : b ∈ frs X.stack
        · exact (ub.slot b o e m).elim fun sl q => ⟨_, (fromF b m).trans q⟩
        · exact (ub.there b o e m).elim fun o' q => ⟨o', fromB b o' q⟩
      tups := ub.tups
      frzs := ub.frzs
      tbls := ub.tbls }
  have J : Inv X pins σ H' { s with heap := G, gens := s'.gens, drawn := s'.drawn, toks := s'.toks } := I.call (ch := []) u (hok.kept fromB) ag (fun _ z => nomatch z)
  exact ⟨a, B, { s with heap := G, gens := s'.gens, drawn := s'.drawn, toks := s'.toks }, pins, σ, H', cls, d, rfl, J, fun b o e nm => (inG b o e).2 nm, Heap.UpToSlots.of_keeps fun b o e => (inG b o e).1, .inr (.inr hd), na, os, ag, w⟩
theorem frames_but {C : Addr} {h g base : Heap} (k : ∀ b, b ≠ C → g.get? b = h.get? b) : ∀ {l : List Env}, (∀ L ∈ frs l, L ≠ C) → h.FunFrames base l → g.FunFrames base l
  | [], _, _ => trivial
  | env :: l, nc, x => by
    obtain ⟨x1, ⟨L, o, x2, x3, x4, x5⟩, x6⟩ := x
    have e : L ≠ C := nc L (List.mem_filterMap.mpr ⟨env, List.mem_cons_self, x2⟩)
    refine ⟨x1, ⟨L, o, x2, x3, (k L e).trans x4, x5⟩, frames_but k (fun L' m => nc L' ?_) x6⟩
    obtain ⟨v, mv, q⟩ := List.mem_filterMap.mp m
    exact List.mem_filterMap.mpr ⟨v, List.mem_cons_of_mem _ mv, q⟩
/-- an error of a call in the block: noted, the block's names let go, passed on -/
theorem block_err {E : XK} {Q : Value → Shared → Prop} {acc : Value} {ce : Env} {C : Addr} {u : Value} (hst : X.stack = X.env :: X.outer) (hfr : X.env.frame = some X.env.locals) (tk : Takes X (fun cls d _ H => E cls d H)) (cf : ce.frame = X.env.frame) (cl : ce.locals = C)
    (I : Inv X pins σ H s) (hC : FpOk X pins H C) {m : Str → Option Value} (hn : s.heap.Ns C m) (c : L2.CX X.prog X.w X.stack H s E u s') :
    notedBy (model X.prog X.w) X.A ce (fun x z => endX (model X.prog X.w) X.A X.xe Q acc ce (.error x) z) u s' := by
  obtain ⟨a, B, H', cls, d, rfl, fl, hok, ub, na, os, ag, hE⟩ := c
  have hA : X.A.frames = some (X.env :: X.outer) := by rw [I.ok.frames, hst]
  obtain ⟨cn, cL, cF, c4, c5, c6⟩ := hC
  have notF : C ∉ frs X.stack := fun z => by
    rcases List.mem_cons.mp (I.stkSub C z) with q | q
    · exact cL q
    · exact cF q
  have nC : ∀ L ∈ frs X.stack, L ≠ C := fun L mL z => notF (z ▸ mL)
  obtain ⟨oC, es, ep, e1, e2, e3⟩ := hn
  have nfC : ∀ vs, oC.data ≠ .fields vs := fun vs z => by rw [e2] at z; cases z
  have eB : B.get? C = some oC := ub.keep C oC e1 cn notF
  have hC' : H' C = none := ub.free C oC e1 cn
  show wpAny _ _ (noteFrame (.ref a) ce) _ _ _
  rw [note_same cf]
  rw [hst] at fl
  refine HandSPX.looks_onZ Zc.steady hA hfr fl fun h4 hd up4 => ?_
  rw [← hst] at hd
  -- the names let go
  refine ⟨m, by rw [cl]; exact ⟨oC, es, ep, hd.1 C oC eB, e2, e3⟩, fun g sb => ?_⟩
  rw [cl] at sb
  have other : ∀ b, b ≠ C → g.get? b = h4.get? b := sb.2
  have hideC : ∀ b o, (PySem.W.hideAll B [C]).get? b = some o → B.get? b = some o ∧ b ≠ C := fun b o e => ⟨PySem.W.of_hideAll _ e, fun z => by
    rw [z, PySem.W.hideAll_none [C] (List.mem_singleton.mpr rfl)] at e
    cases e⟩
  have toHide : ∀ b o, B.get? b = some o → b ≠ C → (PySem.W.hideAll B [C]).get? b = some o := fun b o e n => PySem.W.hideAll_get _ e fun z => n (List.mem_singleton.mp z)
  have noneHide : ∀ b, B.get? b = none → (PySem.W.hideAll B [C]).get? b = none := fun b e => by
    cases q : (PySem.W.hideAll B [C]).get? b with
    | none => rfl
    | some o => rw [(hideC b o q).1] at e; cases e
  obtain ⟨k1, k2, k3, oe, vs, T, oT, ts, t1, t2, t3, t4, t5, t6, t7, t8, t9⟩ := id hd
  have naC : a ≠ C := fun z => by rw [z, eB] at k2; cases k2
  have nTC : T ≠ C := fun z => by rw [z, eB] at t5; cases t5
  have hd5 : HandSPX.HeldZ (PySem.W.hideAll B [C]) X.stack a (Zc cls d) X.env.locals g := by
    refine ⟨fun b o e => (other b (hideC b o e).2).trans (k1 b o (hideC b o e).1), noneHide a k2, ?_, oe, vs, T, oT, ts, (other a naC).trans t1, t2, t3, t4, noneHide T t5, t6, (other T nTC).trans t7, t8, t9⟩
    exact frames_but other nC (funFrames_none k3 fun b hb => noneHide b (k3.mem hb).1)
  unfold PySem.passOn
  refine wpAny_bind (wpAny_field ((other a naC).trans t1) t3 t4 ?_)
  rw [if_neg (show ¬ ((Value.ref T == Value.none) = true) from by simp)]
  have last : wpAny (model X.prog X.w) X.A (setFlight (.ref a) ce.frame) (fun _ z => wpAny (model X.prog X.w) X.A (throw (.ref a) : Sem Value) (fun _ _ => False) X.xe z) X.xe { s' with heap := g } := by
    rw [cf, hfr]
    refine HandSPX.setFlight_onZ hd5 fun h6 hd6 up6 => wpAny_throw (tk _ _ ?_)
    have I' : Inv X pins σ H { s with heap := PySem.W.hideAll s.heap [C], toks := s.toks } := I.turned (it := C) (fun b o n e => PySem.W.hideAll_get _ e fun z => n (List.mem_singleton.mp z)) cn cL c4 c5 c6
    have inS : ∀ b o, (PySem.W.hideAll s.heap [C]).get? b = some o → s.heap.get? b = some o ∧ b ≠ C := fun b o e => ⟨PySem.W.of_hideAll _ e, fun z => by
      rw [z, PySem.W.hideAll_none [C] (List.mem_singleton.mpr rfl)] at e
      cases e⟩
    refine xe_held (W := fun cls d _ H => E cls d H) I' hd6 (fun b o q => ?_) ?_ na os ag hE
    · refine (hok b o q).stay (fun x v hx r => toHide x v r fun z => ?_) (fun _ r => r) fun _ _ r => r
      rcases hx with hx | hx
      · rw [← hx, z, hC'] at q; cases q
      · rw [z, hC'] at hx; cases hx
    · refine { keep := fun b o e n nf => toHide b o (ub.keep b o (inS b o e).1 n nf) (inS b o e).2, slot := fun b o e mb => ?_, free := fun b o e n => ub.free b o (inS b o e).1 n, there := fun b o e mb => (ub.there b o (inS b o e).1 mb).elim fun o' q => ⟨o', toHide b o' q (inS b o e).2⟩, tups := ub.tups, frzs := ub.frzs, tbls := ub.tbls }
      obtain ⟨_, o0, q0, nf0⟩ := k3.mem mb
      obtain ⟨sl, q1⟩ := ub.slot b o (inS b o e).1 mb
      have nfo : ∀ vs, o.data ≠ .fields vs := fun vs z => by
        obtain ⟨_, o9, q9, nf9⟩ := fl.2.2.1.mem (by rw [← hst]; exact mb)
        rw [q1] at q9
        cases q9
        exact nf9 vs z
      obtain ⟨sl2, q2⟩ := up4 b _ q1 nfo
      obtain ⟨sl3, q3⟩ := up6 b _ ((other b (inS b o e).2).trans q2) nfo
      exact ⟨sl3, q3⟩
  first
    | exact wpAny_bind (wpAny_pure (wpAny_bind last))
    | exact wpAny_bind last
end
/-- the comprehension of a def whose error is the def's -/
theorem pe_lcX {X : Cx} {E : XK} {elt tg iter : Expr} {ifs : List Expr} {scope : Scope} {own : List (Str × Nat)} {pos : Pos} {wi : L2.TI} {g : TG} {tt : TT} {te : TE} (hst : X.stack = X.env :: X.outer) (hfr : X.env.frame = some X.env.locals)
    (tk : Takes X (fun cls d _ H => E cls d H)) (hc : X.calm = true) (hN : X.N.Nodup) (hi : PI X tg iter wi) (ok : BlkOk X.N X.env.scope scope own)
    (hg : ∀ (s : Shared) (H : Hp) (C : Addr) (cl : List (Str × Addr)) (fp : List Addr), PG (X.blk s H scope (compEnvC scope cl C X.env) fp) tg g)
    (ht : ∀ (s : Shared) (H : Hp) (C : Addr) (cl : List (Str × Addr)) (fp : List Addr), PTs (X.blk s H scope (compEnvC scope cl C X.env) fp) ifs tt)
    (he : ∀ (s : Shared) (H : Hp) (C : Addr) (cl : List (Str × Addr)) (fp : List Addr) (pn : List (Addr × Obj)) (xe : Value → Shared → Prop), Passes (L2.CX X.prog X.w) ((X.blk s H scope (compEnvC scope cl C X.env) fp).tr pn xe) E →
      PE ((X.blk s H scope (compEnvC scope cl C X.env) fp).tr pn xe) elt te) (hs : ∀ x, foldedSetIterable iter X.env x = pure x := by intro _; rfl) :
    PE X (.ListComp elt [⟨tg, iter, ifs, 0⟩] scope pos) (tLc wi g tt te (own.map (·.2))) := by
  refine ⟨fun pins s σ H Q I h => ?_⟩
  rw [eval_ListComp]
  have hfree : ∀ y ∈ scope.names, y.2 = .free → ∃ c, X.env.cells.lookup y.1 = some c := fun y hy e => (ok.free y hy e).elim (fun k => I.ok.has _ (.inl k)) (fun k => I.ok.has _ (.inr k))
  have first := hi.run pins s σ H _ I h
  refine compX rfl hs (closure_ok hfree) ok.kind (fun y hy e => (ok.uniq y hy).trans (congrArg some e)) (thn first fun xv s1 hx => thn hx fun itv s2 got => ?_)
  obtain ⟨it, fp, tn, J, H2, rfl, I2, T, st2, f2, q⟩ := got
  refine wpAny_newObj_type (newEnv_comp ?_) (by show 0 ≤ sizeLine; decide)
  obtain ⟨D, hD⟩ : ∃ D, s2.heap.objs.size = D := ⟨_, rfl⟩
  rw [hD]
  have hDn : H2 D = none := I2.hok.fresh (Nat.le_of_eq hD)
  obtain ⟨Wm, ⟨m0, w0⟩, turn⟩ := q D hDn
  generalize hs3 : ({ s2 with heap := s2.heap.push { cls := .type "list", data := .seq ([] : List Value).toArray } } : Shared) = s3
  have h3 : s3.heap = s2.heap.push { cls := .type "list", data := .seq ([] : List Value).toArray } := by rw [← hs3]
  have kp3 : ∀ b o, s2.heap.get? b = some o → s3.heap.get? b = some o := fun b o e => by rw [h3]; exact Heap.get?_push_of_some _ e
  have I3 : Inv X pins σ (upd H2 D (.lst [])) s3 := by
    have fresh : (s2.heap.push { cls := .type "list", data := .seq ([] : List Value).toArray }).get? D = some { cls := .type "list", data := .seq ([] : List Value).toArray } := by
      rw [← hD]
      exact Heap.get?_push_size _ rfl
    rw [← hs3]
    exact I2.laid (t' := s2.toks) (fun b o e => Heap.get?_push_of_some _ e) (Nat.le_of_eq hD) ⟨Nat.zero_le _, [], 0, .nil, fresh⟩
  have lt2 : ∀ b ∈ fp, b < D := fun b hb => by
    obtain ⟨o, e, _⟩ := T.obj _ _ st2 b hb
    rw [← hD]
    exact Heap.lt_size e
  have size3 : s3.heap.objs.size = D + 1 := by rw [h3, Heap.size_push, hD]
  have f3 : ∀ b ∈ fp, FpOk X pins (upd H2 D (.lst [])) b ∧ b < s3.heap.objs.size := fun b hb => by
    have l := lt2 b hb
    refine ⟨⟨(upd_ne (Nat.ne_of_lt l)).trans (f2 b hb).1, (f2 b hb).2⟩, ?_⟩
    rw [size3]
    exact Nat.lt_succ_of_lt l
  have st3 : tn 0 s3.heap := T.keep _ _ _ st2 fun b _ o e => kp3 b o e
  have I4 := block_start I3 ok hN f3
  have pg := hg s3 (upd H2 D (.lst [])) s3.heap.objs.size (cellsFrom (s3.heap.objs.size + 1) scope.names (cloFrom X.env.cells scope.names [])) fp
  have pt := ht s3 (upd H2 D (.lst [])) s3.heap.objs.size (cellsFrom (s3.heap.objs.size + 1) scope.names (cloFrom X.env.cells scope.names [])) fp
  have pe := he s3 (upd H2 D (.lst [])) s3.heap.objs.size (cellsFrom (s3.heap.objs.size + 1) scope.names (cloFrom X.env.cells scope.names [])) fp
  have I4f : ∀ b ∈ fp, (upd H2 D (.lst [])) b = none := fun b hb => (f3 b hb).1.1
  have cfr : (compEnvC scope (cellsFrom (s3.heap.objs.size + 1) scope.names (cloFrom X.env.cells scope.names [])) s3.heap.objs.size X.env).frame = X.env.frame := rfl
  have cL : (compEnvC scope (cellsFrom (s3.heap.objs.size + 1) scope.names (cloFrom X.env.cells scope.names [])) s3.heap.objs.size X.env).locals = s3.heap.objs.size := rfl
  show codeAny _ _ (.compStart (.ListComp elt [⟨tg, iter, ifs, 0⟩] scope pos) 0 (.ref it) (.ref D) (compEnvC scope (cellsFrom (s3.heap.objs.size + 1) scope.names (cloFrom X.env.cells scope.names [])) s3.heap.objs.size X.env))
    (endX (model X.prog X.w) X.A X.xe (EP X pins σ Q) (.ref D) (compEnvC scope (cellsFrom (s3.heap.objs.size + 1) scope.names (cloFrom X.env.cells scope.names [])) s3.heap.objs.size X.env)) { s3 with heap := pushCells (s3.heap.push { cls := .type "dict", data := .dict #[] }) scope.names }
  generalize compEnvC scope (cellsFrom (s3.heap.objs.size + 1) scope.names (cloFrom X.env.cells scope.names [])) s3.heap.objs.size X.env = ce at I4 pg pt pe cfr cL ⊢
  generalize hH3 : upd H2 D (.lst []) = H3 at I3 I4 pg pt pe w0 I4f f3
  have kp4 : ∀ b o, s3.heap.get? b = some o → (pushCells (s3.heap.push { cls := .type "dict", data := .dict #[] }) scope.names).get? b = some o := fun b o e => pushCells_keeps _ _ _ _ (Heap.get?_push_of_some _ e)
  generalize hs4 : ({ s3 with heap := pushCells (s3.heap.push { cls := .type "dict", data := .dict #[] }) scope.names } : Shared) = s4 at I4 ⊢
  have st4 : tn 0 s4.heap := T.keep _ _ _ st3 fun b _ o e => by rw [← hs4]; exact kp4 b o e
  have foot : ∀ {τ : L2.St} {G : Hp} {z : Shared}, Inv (X.blk s3 H3 scope ce fp) [] τ G z → (∀ b ∈ fp, G b = none) → ∀ b ∈ fp, FpOk (X.blk s3 H3 scope ce fp) [] G b := fun {τ G z} V n b hb =>
    ⟨n b hb, (V.ok.exf b hb).1, V.ok.exfs b hb, .inl hb, fun x c e => (V.ok.exf b hb).2 x c e, fun p hp => absurd (show p ∈ ([] : List (Addr × Obj)) ++ [] from hp) (by simp)⟩
  -- seen from the def
  have outer : ∀ {pn : List (Addr × Obj)} {τ : L2.St} {G : Hp} {z : Shared}, Inv (X.blk s3 H3 scope ce fp) pn τ G z → Inv X pins σ G z ∧ FpOk X pins G s3.heap.objs.size ∧ ∃ m, z.heap.Ns s3.heap.objs.size m := fun {pn τ G z} V => by
    have nC : G s3.heap.objs.size = none := by
      have e : G ce.locals = none := V.free
      rw [cL] at e
      exact e
    obtain ⟨m, hn, _⟩ := V.loc
    have hn : z.heap.Ns ce.locals m := hn
    rw [cL] at hn
    exact ⟨I3.call' (ch := fp) V.os V.base V.hok V.bare fun b hb => ⟨(f3 b hb).1.2.2.2.1, (f3 b hb).1.2.1, (f3 b hb).1.2.2.2.2.1, (f3 b hb).1.2.2.2.2.2⟩, I3.fpOk (Nat.le_refl _) nC, m, hn⟩
  have loop : codeAny (model X.prog X.w) X.A (.compLoop (.ListComp elt [⟨tg, iter, ifs, 0⟩] scope pos) 0 (.ref it) (.ref D) ce) (endX (model X.prog X.w) X.A X.xe (EP X pins σ Q) (.ref D) ce) s4 := by
    refine compLoop_any (fun n z => ∃ i G, Inv (X.blk s3 H3 scope ce fp) [] (wipe σ (own.map (·.2))) G z ∧ tn i z.heap ∧ (∀ b ∈ fp, G b = none) ∧ Wm i n G) (fun n s5 w => ?_) m0 ⟨0, H3, I4, st4, I4f, w0⟩
    obtain ⟨i, H5, I5, st5, n5, w5⟩ := w
    rcases turn i n H5 w5 with ⟨stop, fin⟩ | ⟨goes, Nx, less, step⟩
    · refine thnF (T.done (X.blk s3 H3 scope ce fp) rfl rfl rfl hc i [] s5 _ H5 (fun _ _ => False) I5 (foot I5 n5) st5 stop) fun r s6 hr => ?_
      obtain ⟨rfl, I6⟩ := hr
      obtain ⟨I7, fC, m, hn⟩ := outer I6
      refine ⟨m, by rw [cL]; exact hn, fun g sb => ?_⟩
      rw [cL] at sb
      obtain ⟨c0, c1, c2, c3, c4, c5⟩ := fC
      exact ⟨.ref D, H5, I7.turned (t' := s6.toks) (fun b o hb e => (sb.2 b hb).trans e) c0 c1 c3 c4 c5, rfl, fin⟩
    · refine thnF (T.item (X.blk s3 H3 scope ce fp) rfl rfl rfl hc i [] s5 _ H5 (fun _ _ => False) I5 (foot I5 n5) st5 goes) fun r s6 hr => ?_
      obtain ⟨u, rfl, h6⟩ := hr
      refine thnF h6 fun _ s7 w7 => ?_
      obtain ⟨x, H7, I7, r7, y7, st7, n7⟩ := w7
      have I7' := I7.pinned (foot I7 n7) (T.obj _ _ st7)
      refine thnF (pg.run _ s7 _ H7 x u _ I7' r7 (step x H7 y7)) fun _ s8 w8 => ?_
      obtain ⟨σ8, H8, I8, hw8, q8⟩ := w8
      refine thnF (pt.run _ s8 σ8 H8 _ I8 q8) fun b s9 w9 => ?_
      obtain ⟨H9, I9, q9⟩ := w9
      have back : ∀ {z : Shared} {G : Hp}, Inv (X.blk s3 H3 scope ce fp) ([] ++ pinsAt fp s7.heap) σ8 G z → Nx G → ∃ m, m < n ∧ ∃ i G, Inv (X.blk s3 H3 scope ce fp) [] (wipe σ (own.map (·.2))) G z ∧ tn i z.heap ∧ (∀ b ∈ fp, G b = none) ∧ Wm i m G := fun {z G} V nx => by
        obtain ⟨m', lt, w'⟩ := less G nx
        have held : ∀ b ∈ fp, ∀ o, s7.heap.get? b = some o → z.heap.get? b = some o ∧ G b = none := fun b hb o e =>
          have p := V.pin (b, o) (List.mem_append_right _ (List.mem_append_right _ (mem_pinsAt hb e)))
          ⟨p.1, p.2.1⟩
        have len : (wipe σ (own.map (·.2))).length = σ8.length := by rw [← hw8, wipe_length]
        refine ⟨m', lt, i + 1, G, (V.unpinned (pins := [])).weak len (fun j v e => ?_), T.keep _ _ _ st7 fun b hb o e => (held b hb o e).1, fun b hb => ?_, w'⟩
        · rw [← hw8] at e
          exact (wipe_some e).1
        · obtain ⟨o, e, _⟩ := T.obj _ _ st7 b hb
          exact (held b hb o e).2
      cases b with
      | false =>
        simp only [Bool.false_eq_true, if_false] at q9 ⊢
        exact back I9 q9
      | true =>
        simp only [if_true] at q9 ⊢
        have pq : Passes (L2.CX X.prog X.w) ((X.blk s3 H3 scope ce fp).tr ((X.blk s3 H3 scope ce fp).pn ++ ([] ++ pinsAt fp s7.heap)) (notedBy (model X.prog X.w) X.A ce fun x z => endX (model X.prog X.w) X.A X.xe (EP X pins σ Q) (.ref D) ce (.error x) z)) E := fun p1 τ G z e z' V c => by
          obtain ⟨V1, fC, m, hn⟩ := outer (V.ofTry I9.ok)
          exact block_err hst hfr tk cfr cL V1 fC hn c
        have got := (pe ((X.blk s3 H3 scope ce fp).pn ++ ([] ++ pinsAt fp s7.heap)) _ pq).run [] s9 σ8 H9 _ (I9.toTry _) q9
        refine wpAny_mono got (fun z s10 w10 => ?_) fun _ _ x => x
        obtain ⟨yv, H10, I10, r10, acc, hD10, hz10, nx⟩ := w10
        exact app_ok (X := X.blk s3 H3 scope ce fp) (I10.ofTry I9.ok) hD10 hz10 r10 fun s11 I11 => back I11 nx
  exact codeAny_compStart_list loop (T.self X.A 0 _ _ _ st4 loop)
end Ws
/-! ## We -/
/-! isinstance of a caught error that has fields -/
namespace Ws
open PySem PySem.Spec PySem.Calls PySem.W PyProof.Rows L2
section
variable {prog : Program} {w : World} {A : Around} {E : Value → Shared → Prop} {s : Shared} {K : Frag} {x D : Addr} {ox : Obj} {od : Option Obj}
theorem find_class {g a : Value} {name : Str} (C : ExcC K D) (ha : findIn K (.ref D) name = some (some a)) (hg : specialIn K a "__get__" = some (some g)) (ht : takesIn K a = some true) : findObj K D od name = some (.bind g a) := by
  obtain ⟨cd, hc, _⟩ := any_some C.hd
  have hc : clsIn K D = some cd := hc
  unfold findObj
  rw [hc, Option.bind_some, ha, Option.bind_some]
  simp [hg, ht]
theorem asked_class {Q : Option Value → Shared → Prop} (C : ExcC K D) (X : K.In s.heap) (I : InstAt s.heap x ox D od) (h : Q (some (.ref D)) { s with toks := s.toks + 1 }) : wpAny (model prog w) A (getAttr? (.ref x) "__class__") Q E s := by
  have hf : findObj K D od "__class__" = some (.bind (.builtin "getset_descriptor.__get__") (.builtin "object.__class__")) := find_class C C.ha C.hn C.ht
  obtain ⟨hp, g, d, t, os⟩ := s
  have l0 := I.type (M := model prog w)
  have l1 := looks_findIn (M := model prog w) X C.hg
  have l2 := looks_findIn (M := model prog w) X C.hk
  have l3 := looks_find (M := model prog w) X I hf
  have sub : Looks (model prog w) hp (isInstance (.ref x) (.type "BaseException")) true := l0.andThen (looks_subIn X C.hs)
  have n2 : (Value.builtin "BaseException.__getattribute__" == Value.builtin "object.__getattribute__") = false := by decide +kernel
  have n1 : (onTheHeap (Value.ref D) && Value.builtin "BaseException.__getattribute__" == Value.builtin "object.__getattribute__") = false := by rw [n2]; rfl
  have n0 : (false && onTheHeap (Value.builtin "BaseException.__getattribute__")) = false := rfl
  unfold getAttr? getAttrBy? getAttrBy
  refine wpAny_bind (wpAny_mkText (wpAny_bind (wpAny_attempt (wpAny_holding (wpAny_bind (l0.at (wpAny_bind (l1.at ?_))))))))
  show wpAny _ _ (if (onTheHeap (Value.ref D) && Value.builtin "BaseException.__getattribute__" == Value.builtin "object.__getattribute__") = true then _ else _) _ _ _
  rw [n1, if_neg Bool.false_ne_true]
  unfold getAttrByItsOwn hookBefore
  refine wpAny_bind ?_
  rw [if_pos (show onTheHeap (Value.ref D) = true from rfl)]
  refine l2.at (wpAny_bind (wpAny_attempt (wpAny_holding ?_)))
  unfold callGetattribute
  rw [n0, if_neg Bool.false_ne_true]
  unfold boundAndCalled
  rw [PySem.F.excAttr_ValueError.ga.bind (.ref x)]
  refine wpAny_bind (wpAny_pure ?_)
  show wpAny _ _ (call (.builtin "BaseException.__getattribute__") [.ref x, .str "__class__" t]) _ _ _
  refine wpAny_call (codeAny_call_builtin PySem.F.excAttr_ValueError.ga.plain PySem.F.entry_bexc_ga ?_)
  refine @check_slot (model prog w) _ _ ⟨hp, g, d, t + 1, os⟩ "BaseException.__getattribute__" "BaseException" "__getattribute__" (.ref x) [.str "__class__" t] [] _ (by decide +kernel) (by decide +kernel) sub (PySem.F.args_bexc_ga (.ref x) (.str "__class__" t)) ?_
  unfold Builtin.«object.__getattribute__»
  refine wpAny_bind (wpAny_of_eq (a := ((Value.ref x : Value), [Value.str "__class__" t])) (by first | rfl | (simp only [slotArgs]; rfl)) ?_)
  refine wpAny_bind (wpAny_pure (wpAny_bind (l0.at (wpAny_bind (l3.at ?_)))))
  show wpAny _ _ (holding [Value.builtin "object.__class__"] (call (.builtin "getset_descriptor.__get__") [.builtin "object.__class__", .ref x, .ref D]) >>= ret) _ _ _
  refine wpAny_bind (wpAny_holding (wpAny_call (class_get (s := ⟨hp, g, d, t + 1, os⟩) (ox := ox) (od := od) X I C.hm ?_)))
  refine wpAny_pure ?_
  show wpAny _ _ (handedOut (.ref D)) _ _ _
  rw [handedOut_of (v := .ref D) rfl]
  first
    | exact wpAny_pure (wpAny_pure h)
    | exact wpAny_pure h
    | exact wpAny_pure (wpAny_bind (wpAny_pure (wpAny_pure h)))
theorem kitx_err (C : ExcC K D) : KitX K (.ref x) (.ref D) (fun h => InstAt h x ox D od) where
  ty := fun _ _ _ I => I.type
  it := fun _ _ X _ => by
    obtain ⟨cd, hc, _⟩ := any_some C.hd
    unfold clsIn at hc
    split at hc
    · rename_i ho
      intro A' Q' E' s' k q
      unfold isType loadHead
      exact wpAny_bind (wpAny_loadPart (k _ _ (X _ _ ho)) (wpAny_pure q))
    · cases hc
  ne := fun h tp dd its n sl X htp => by
    obtain ⟨cd, hc, _⟩ := any_some C.hd
    refine Bool.eq_false_iff.mpr fun q => ?_
    have e : D = tp := Value.ref.inj (beq_iff_eq.mp q)
    subst e
    unfold clsIn at hc
    split at hc
    · rename_i ho
      have z := (X _ _ ho).symm.trans htp
      cases z
    · cases hc
  ca := fun X I k => asked_class C X I k
end
/-- isinstance(e, c), e the error of the suite, of the class cls, its fields in the dict d -/
def rIsX (K : Frag) (a : Addr) (cls : Value) (d : Option Addr) : List V → Hp → VK → Prop := fun xs H Q => ∃ (c : V) (cv : Value) (b : Bool) (D dd : Addr) (fs : List (Str × V)), xs = [.ref a, c] ∧ cls = .ref D ∧ ExcC K D ∧ d = some dd ∧ H dd = some (.xd fs) ∧ (∀ u, RelV c u → u = cv) ∧ kitOne K (.ref D) cv = some b ∧ Q (.bl b) H
theorem call_isX {X : Cx} {a : Addr} {cls : Value} {d : Option Addr} {oe : Obj} {pn : List (Addr × Obj)} (hz : Zc cls d oe) (hf : ∃ vs, oe.data = .fields vs) : CallR (X.suite a ((a, oe) :: pn)) (.builtin "isinstance") (rIsX X.K a cls d) := by
  intro pins s σ H xs us Q I r h
  obtain ⟨c, cv, b, D, dd, fs, rfl, rfl, C, rfl, hd, hcv, e, q⟩ := h
  cases r with
  | cons rx rr =>
    cases rr with
    | cons rt rr =>
      cases rr
      cases rx
      have ec := hcv _ rt
      subst ec
      obtain ⟨hget, _⟩ := I.pin (a, oe) (List.mem_append.mpr (.inl List.mem_cons_self))
      obtain ⟨vs, hv⟩ := hf
      have hx : ObjOk X.prog X.w H s.heap dd (.xd fs) := I.hok dd _ hd
      obtain ⟨mA, hns, hr⟩ := hx
      obtain ⟨od, ho, hl⟩ := lookIn_ns hns
      have J : PySem.W.InstAt s.heap a oe D (some od) := ⟨hget, hz.1, by unfold PySem.W.notCls; rw [hv] <;> rfl, by rw [hz.2]; exact ho⟩
      exact PySem.W.kia_one (kitx_err C) I.kIn J e (fun z => nomatch z) fun tk => ⟨.bl b, H, I.kept (t' := tk) fun _ _ z => z, rfl, q⟩
end Ws
/-! ## Wf -/
/-! tuple * int, the empty tuple too -/
namespace Ws
open PySem PySem.Spec PyProof.Rows L2
theorem tuple_mul0 (l : Addr) (n : Nat) (dd : Option Addr) (sl : Array (Option Value)) (x : Int) (u : Tok) (c0 : (decide (x < -(2 ^ 63)) || decide (x ≥ 2 ^ 63)) = false) (c1 : ((#[] : Array Value).isEmpty || x == 1) = true) :
    Meets (Builtin.«tuple.__mul__» ⟨[.ref l, .int x u], []⟩) (fun _ R s => s.heap.get? l = some { cls := .type "tuple", dict := dd, data := .seq #[] n, slots := sl } ∧
      R (.ok (.ret (Value.ref l))) s) :=
  .of_wp fun prog w A R s h => by
    obtain ⟨hp, g, d, tk, os⟩ := s
    obtain ⟨hl, h⟩ := h
    have f1 := AutoSeq1.idx_int
    wp_walk using wpAny_loadPart' hl
    repeat (first
      | (refine wpAny_ite_false (decide_eq_false (by rw [c0]; exact Bool.false_ne_true)) ?_; wp_walk using wpAny_loadPart' hl)
      | (refine wpAny_ite_true (decide_eq_true c1) ?_; wp_walk using wpAny_loadPart' hl))
    exact ⟨_, rfl, h⟩
/-- t * k, k written: the empty tuple is handed back, of another one a new one is made -/
def rRepA (K : PySem.W.Frag) : R2 := fun x y H Q => ∃ l k xs, x = .ref l ∧ y = .int k ∧ SqT K H l xs ∧ 2 ≤ k ∧ k ≤ 1000 ∧ xs.length ≤ 1000 ∧ (xs = [] → Q (.ref l) H) ∧ (xs ≠ [] → ∀ p, H p = none → Q (.ref p) (upd H p (.tup (List.replicate k.toNat xs).flatten)))
theorem op_repA {X : Cx} : OpR X (binaryOp .Mult) (rRepA X.K) := by
  intro pins s σ H x y v u Q I rx ry h
  obtain ⟨l, k, xs, rfl, rfl, hT, h1, h2, hz, q0, q⟩ := h
  by_cases hx : xs = []
  · subst hx
    have rx2 := rx
    cases rx
    obtain ⟨t, rfl⟩ := ry
    obtain ⟨its, r, ⟨⟨cls, dd, data, sl⟩, ho, hc, n, hd⟩, hs⟩ := I.tuple hT
    simp only at hc hd
    subst hc hd
    cases r
    have c0 : (decide (k < -(2 ^ 63)) || decide (k ≥ 2 ^ 63)) = false := by
      rw [decide_eq_false (by omega), decide_eq_false (by omega)] <;> rfl
    refine wpAny_binaryOp_repeat_ref (T := "tuple") (U := "int") (by decide) ⟨_, ho, rfl⟩ (fun s' => typeIs_int s' k t) noFill_tuple_mul F.fills_int_mul F.slot_int_rmul repeat_tuple F.slot_int_index.lookup
      (call_meets F.slot_int_rmul (typeIs_int s k t) F.entry_int_rmul (F.args_int_rmul_2 _ _) (int_rmul_tuple k t l (#[] : Array Value) n dd sl)
        ⟨ho, rfl, ⟨_, ho, rfl⟩, call_meets F.slot_tuple_mul ⟨_, ho, rfl⟩ F.entry_tuple_mul (F.args_tuple_mul_2 _ _) (tuple_mul0 l n dd sl k t c0 rfl) ⟨ho, ?_⟩⟩)
    exact ⟨.ref l, H, I, rx2, q0 rfl⟩
  · exact op_repT pins s σ H _ _ v u Q I rx ry ⟨l, k, xs, rfl, rfl, hT, hx, h1, h2, hz, q hx⟩
theorem tuple_mul1 (l : Addr) (items : Array Value) (n : Nat) (dd : Option Addr) (sl : Array (Option Value)) (x : Int) (u : Tok) (c0 : (decide (x < -(2 ^ 63)) || decide (x ≥ 2 ^ 63)) = false) (c1 : (items.isEmpty || x == 1) = true) :
    Meets (Builtin.«tuple.__mul__» ⟨[.ref l, .int x u], []⟩) (fun _ R s => s.heap.get? l = some { cls := .type "tuple", dict := dd, data := .seq items n, slots := sl } ∧
      R (.ok (.ret (Value.ref l))) s) :=
  .of_wp fun prog w A R s h => by
    obtain ⟨hp, g, d, tk, os⟩ := s
    obtain ⟨hl, h⟩ := h
    have f1 := AutoSeq1.idx_int
    wp_walk using wpAny_loadPart' hl
    repeat (first
      | (refine wpAny_ite_false (decide_eq_false (by rw [c0]; exact Bool.false_ne_true)) ?_; wp_walk using wpAny_loadPart' hl)
      | (refine wpAny_ite_true (decide_eq_true c1) ?_; wp_walk using wpAny_loadPart' hl))
    exact ⟨_, rfl, h⟩
/-- t * k, k from 1 on -/
def rRepB (K : PySem.W.Frag) : R2 := fun x y H Q => ∃ l k xs, x = .ref l ∧ y = .int k ∧ SqT K H l xs ∧ 1 ≤ k ∧ k ≤ 1000 ∧ xs.length ≤ 1000 ∧ (xs = [] ∨ k = 1 → Q (.ref l) H) ∧ (xs ≠ [] → k ≠ 1 → ∀ p, H p = none → Q (.ref p) (upd H p (.tup (List.replicate k.toNat xs).flatten)))
theorem op_repB {X : Cx} : OpR X (binaryOp .Mult) (rRepB X.K) := by
  intro pins s σ H x y v u Q I rx ry h
  obtain ⟨l, k, xs, rfl, rfl, hT, h1, h2, hz, q0, q⟩ := h
  by_cases hx : k = 1
  · subst hx
    have rx2 := rx
    cases rx
    obtain ⟨t, rfl⟩ := ry
    obtain ⟨its, r, ⟨⟨cls, dd, data, sl⟩, ho, hc, n, hd⟩, hs⟩ := I.tuple hT
    simp only at hc hd
    subst hc hd
    have c0 : (decide ((1 : Int) < -(2 ^ 63)) || decide ((1 : Int) ≥ 2 ^ 63)) = false := by decide
    refine wpAny_binaryOp_repeat_ref (T := "tuple") (U := "int") (by decide) ⟨_, ho, rfl⟩ (fun s' => typeIs_int s' 1 t) noFill_tuple_mul F.fills_int_mul F.slot_int_rmul repeat_tuple F.slot_int_index.lookup
      (call_meets F.slot_int_rmul (typeIs_int s 1 t) F.entry_int_rmul (F.args_int_rmul_2 _ _) (int_rmul_tuple 1 t l its.toArray n dd sl)
        ⟨ho, rfl, ⟨_, ho, rfl⟩, call_meets F.slot_tuple_mul ⟨_, ho, rfl⟩ F.entry_tuple_mul (F.args_tuple_mul_2 _ _) (tuple_mul1 l its.toArray n dd sl 1 t c0 (by simp)) ⟨ho, ?_⟩⟩)
    exact ⟨.ref l, H, I, rx2, q0 (.inr rfl)⟩
  · exact op_repA pins s σ H _ _ v u Q I rx ry ⟨l, k, xs, rfl, rfl, hT, by omega, h2, hz, fun e => q0 (.inl e), fun e => q e hx⟩
end Ws
/-! ## T45 -/
namespace Ws
open PySem PySem.Spec PyProof.Rows L2
/-! ### several except clauses that name their error, by one name in slot i -/
def wManyB (K : PySem.W.Frag) (i : Nat) (Wout : WX) (D : Ends) : List (Bool × Value × (Addr → Value → Option Addr → TS)) → WX
  | [] => Wout
  | (m, c, ts) :: r => fun cls d σ H => ∃ b, PySem.W.exmOne K cls c = some b ∧ (b = true → ∀ a, H a = none → (if m = true then ts a cls d (suiteEnds D i) (σ.set i (some (.ref a))) H else ts a cls d D σ H)) ∧ (b = false → wManyB K i Wout D r cls d σ H)
inductive HdsB (X : Cx) (n : Str) : List ExceptHandler → List (Bool × Value × (Addr → Value → Option Addr → TS)) → Prop
  | nil : HdsB X n [] []
  | cons {m : Bool} {x : Str} {c : Value} {ts : Addr → Value → Option Addr → TS} {b₀ : Stmt} {suite : List Stmt} {np pos' : Pos} {hds : List ExceptHandler} {l : List (Bool × Value × (Addr → Value → Option Addr → TS))} (hc : Names X x c)
      (hsu : ∀ (a : Addr) (oe : Obj) (cls : Value) (d : Option Addr) (pn : List (Addr × Obj)), Zc cls d oe → (∃ vs, oe.data = .fields vs) → PSs (X.suite a ((a, oe) :: pn)) (b₀ :: suite) (ts a cls d)) (r : HdsB X n hds l) :
      HdsB X n (.ExceptHandler (some (.Name x np)) (if m = true then some n else none) (b₀ :: suite) pos' :: hds) ((m, c, ts) :: l)
section
variable {X : Cx} {n : Str} {i : Nat} {body : List Stmt} {h₀ : ExceptHandler} {hds : List ExceptHandler} {l : List (Bool × Value × (Addr → Value → Option Addr → TS))} {pos : Pos} {tb : WX → TS} {Wout : WX}
theorem ps_try_manyB (hs : X.stack = X.env :: X.outer) (hf : X.env.frame = some X.env.locals) (hN : X.N.Nodup) (hi : X.N[i]? = some n) (hln : X.env.kindOf n = some .local) (tk : Takes X Wout)
    (hb : ∀ (W : WX) (pn : List (Addr × Obj)) (xe : Value → Shared → Prop), Takes (X.tr pn xe) W → PassesOwn (model X.prog X.w) X.A X.env xe → PSs (X.tr pn xe) body (tb W))
    (hh : HdsB X n (h₀ :: hds) l) : PS X (.Try body (h₀ :: hds) [] [] pos) (fun D σ H => tb (wManyB X.K i Wout D l) D σ H) := by
  refine ⟨fun pins s σ H D I h => ?_⟩
  have ok := I.ok
  have hfr : X.A.frames = some (X.env :: X.outer) := by rw [ok.frames, hs]
  have hloc : Loc X.env.scope n := .inl hln
  refine wpAny_Try_except ?_
  refine wpAny_mono ((hb (wManyB X.K i Wout D l) (X.pn ++ pins) (fun e s₁ => wpAny (model X.prog X.w) X.A (noteFrame e X.env) (fun _ s₂ => wpAny (model X.prog X.w) X.A (setFlight e none) (fun _ s₃ =>
    wpAny (model X.prog X.w) X.A (handleBy e X.env (h₀ :: hds)) (SP X pins D) X.xe s₃) X.xe s₂) X.xe s₁) (fun u s' xx => ?_) PassesOwn.looking).run [] s σ H D (I.toTry _) h) (fun f s1 hsp => ?_) (fun e s1 he => he)
  · -- the catch
    obtain ⟨a, B, sI, pins', σ', H', cls, d, rfl, J', nb, up, sky, na, os, ag, w⟩ := xx
    have J : Inv X pins σ' H' sI := J'.ofTry ok
    have sky' : Sky B (X.env :: X.outer) a (Zc cls d) X.env.locals s'.heap := by rw [← hs]; exact sky
    show wpAny (model X.prog X.w) X.A (noteFrame (.ref a) X.env) _ _ _
    refine Sky.land Zc.steady hfr hf sky' fun h3 fl3 up3 => ?_
    have J3 : Inv X pins σ' H' { s' with heap := h3 } := J.landed nb fl3.1 (up.trans up3) os ag
    obtain ⟨oe3, vs3, he3, hz3, hd3⟩ := fl3.there
    have notFr : ∀ {h : Heap} {o : Obj} {vs : Array Value}, h.FunFrames B (X.env :: X.outer) → h.get? a = some o → o.data = .fields vs → a ∉ frs (X.env :: X.outer) := fun {h o vs} ff e dd hm => by
      obtain ⟨_, o', e', hnf⟩ := ff.mem hm
      rw [e] at e'; cases e'
      exact hnf _ dd
    have nfr := notFr fl3.2.2.1 he3 hd3
    have nL : a ≠ X.env.locals := fun z => nfr (List.mem_filterMap.mpr ⟨X.env, List.mem_cons_self, by rw [hf, z]⟩)
    have nF : a ∉ X.fs := fun hm => by
      obtain ⟨e, he, q⟩ := List.mem_filterMap.mp hm
      exact nfr (List.mem_filterMap.mpr ⟨e, List.mem_cons_of_mem _ he, q⟩)
    have S3 := J3.suite he3 hd3 na nL nF
    have go : ∀ {hds' : List ExceptHandler} {l' : List (Bool × Value × (Addr → Value → Option Addr → TS))}, HdsB X n hds' l' → wManyB X.K i Wout D l' cls d σ' H' →
        wpAny (model X.prog X.w) X.A (handleBy (.ref a) X.env hds') (SP X pins D) X.xe { s' with heap := h3 } := by
      intro hds' l' hk
      induction hk with
      | nil =>
        intro w
        refine wpAny_handleBy_nil ?_
        obtain ⟨k1, k2, k3, oe, vs, T, oT, ts', he, hz, hd, h1, hr⟩ := id fl3
        unfold PySem.passOn
        refine wpAny_bind (wpAny_field he hd h1 ?_)
        rw [if_neg (show ¬ ((Value.ref T == Value.none) = true) from by simp)]
        have fin : wpAny (model X.prog X.w) X.A (setFlight (.ref a) X.env.frame) (fun _ s4 => wpAny (model X.prog X.w) X.A (throw (.ref a) : Sem Flow) (SP X pins D) X.xe s4) X.xe { s' with heap := h3 } := by
          rw [hf]
          refine HandSPX.setFlight_upZ fl3 fun h4 hh4 up4 => wpAny_throw (tk _ _ ?_)
          exact ⟨a, B, sI, pins, σ', H', cls, d, rfl, J, nb, (up.trans up3).trans up4, .inr (.inr (by rw [hs]; exact hh4)), na, os, ag, w⟩
        first
          | exact wpAny_bind (wpAny_pure (wpAny_bind fin))
          | exact wpAny_bind fin
      | @cons m x c ts b₀ suite np pos' hds2 l2 hc hsu r ih =>
        intro w
        obtain ⟨b, hb1, hyes, hno⟩ := w
        refine wpAny_handleBy_cons (codeAny_handlers_test ?_) (by intro q; cases q)
        have LT : PySem.W.Looks (model X.prog X.w) h3 (typeOf (.ref a)) cls := fun A Q E s k q => wpAny_typeOf_ref (k _ _ he3) (by rw [hz3.1]; exact q)
        have LM := PySem.W.exm_one (M := model X.prog X.w) (J3.kIn) LT hb1
        have test : ∀ {Q : Value → Shared → Prop} {E : Value → Shared → Prop}, Q c { s' with heap := h3 } → wpAny (model X.prog X.w) (X.A.mark (some (.ref a))) (eval (.Name x np) X.env) Q E { s' with heap := h3 } := fun {Q E} q => by
          obtain ⟨hg, hdbg, hm | ⟨hm, hv, hnn⟩⟩ := hc
          · exact ld_glob (X := X.suite a ((a, oe3) :: (X.pn ++ pins))) S3 hg hm q hdbg
          · exact ld_blt (X := X.suite a ((a, oe3) :: (X.pn ++ pins))) S3 hg hm hv q hnn hdbg
        refine test (LM.here ?_)
        cases b with
        | true =>
          cases m with
          | true =>
            refine codeAny_handlers_suite_as ?_
            refine HandSPX.lands_againZ fl3 fun h4 fl4 up4 => ?_
            have J4 : Inv X pins σ' H' { s' with heap := h4 } := J.landed nb fl4.1 ((up.trans up3).trans up4) os ag
            obtain ⟨oe4, vs4, he4, hz4, hd4⟩ := fl4.there
            have S4 := J4.suite he4 hd4 na nL nF
            refine store_ok (X := X.suite a ((a, oe4) :: (X.pn ++ pins))) (v := .ref a) S4 hN hi hloc rfl (fun s5 S5 => ?_) (.inr hln)
            refine wpAny_mono ((hsu a oe4 cls d (X.pn ++ pins) hz4 ⟨_, hd4⟩).run [] s5 _ H' _ S5 (by have := hyes rfl a na; rwa [if_pos rfl] at this)) (fun f s6 hsp => ?_) (fun _ _ z => False.elim z)
            have end_ : ∀ {σ6 : L2.St} {H6 : Hp} {Q : Shared → Prop}, Inv (X.suite a ((a, oe4) :: (X.pn ++ pins))) [] σ6 H6 s6 → (∀ s7, Inv X pins (σ6.set i none) H6 s7 → Q s7) →
                wpAny (model X.prog X.w) X.A (do bindName X.env n .none; unbindBehindTheSuite X.env n pos') (fun _ s7 => Q s7) X.xe s6 := fun {σ6 H6 Q} S6 hq => gone_ok (S6.unsuite ok) hN hi hln hq
            cases f with
            | next =>
              obtain ⟨σ6, H6, S6, q6⟩ := hsp
              exact end_ S6 fun s7 J7 => ⟨_, _, J7, q6⟩
            | brk =>
              obtain ⟨σ6, H6, S6, q6⟩ := hsp
              exact end_ S6 fun s7 J7 => ⟨_, _, J7, q6⟩
            | cont =>
              obtain ⟨σ6, H6, S6, q6⟩ := hsp
              exact end_ S6 fun s7 J7 => ⟨_, _, J7, q6⟩
            | ret u =>
              obtain ⟨v6, σ6, H6, S6, r6, q6⟩ := hsp
              exact end_ S6 fun s7 J7 => ⟨_, _, _, J7, r6, q6⟩
          | false =>
            refine codeAny_handlers_suite ?_
            refine HandSPX.lands_againZ fl3 fun h4 fl4 up4 => ?_
            have J4 : Inv X pins σ' H' { s' with heap := h4 } := J.landed nb fl4.1 ((up.trans up3).trans up4) os ag
            obtain ⟨oe4, vs4, he4, hz4, hd4⟩ := fl4.there
            have S4 := J4.suite he4 hd4 na nL nF
            refine wpAny_mono ((hsu a oe4 cls d (X.pn ++ pins) hz4 ⟨_, hd4⟩).run [] _ _ H' _ S4 (by have := hyes rfl a na; rwa [if_neg (by decide)] at this)) (fun f s6 hsp => ?_) (fun _ _ z => False.elim z)
            cases f with
            | next =>
              obtain ⟨σ6, H6, S6, q6⟩ := hsp
              exact ⟨_, _, S6.unsuite ok, q6⟩
            | brk =>
              obtain ⟨σ6, H6, S6, q6⟩ := hsp
              exact ⟨_, _, S6.unsuite ok, q6⟩
            | cont =>
              obtain ⟨σ6, H6, S6, q6⟩ := hsp
              exact ⟨_, _, S6.unsuite ok, q6⟩
            | ret u =>
              obtain ⟨v6, σ6, H6, S6, r6, q6⟩ := hsp
              exact ⟨_, _, _, S6.unsuite ok, r6, q6⟩
        | false =>
          show wpAny _ X.A (handleBy (.ref a) X.env hds2) _ _ _
          exact ih (hno rfl)
    exact go hh w
  · cases f with
    | next =>
      obtain ⟨σ', H', J', q⟩ := hsp
      exact wpAny_execs_nil ⟨σ', H', J'.ofTry ok, q⟩
    | brk =>
      obtain ⟨σ', H', J', q⟩ := hsp
      exact ⟨σ', H', J'.ofTry ok, q⟩
    | cont =>
      obtain ⟨σ', H', J', q⟩ := hsp
      exact ⟨σ', H', J'.ofTry ok, q⟩
    | ret u =>
      obtain ⟨v, σ', H', J', r, q⟩ := hsp
      exact ⟨v, σ', H', J'.ofTry ok, r, q⟩
end
end Ws
/-! ## G0 -/
/-! what serves every law: data, errors, the law's state, small data, the end -/
namespace Ws
open PySem PySem.Spec PyProof.Rows L2

/-! ### what kind of data -/
def tyName : PyData → String
  | .none => "NoneType"
  | .bool _ => "bool"
  | .int _ => "int"
  | .str _ => "str"
  | .list _ => "list"
  | .tuple _ => "tuple"
  | .dict _ => "dict"
def isI : PyData → Bool
  | .int _ => true
  | _ => false
def isBo : PyData → Bool
  | .bool _ => true
  | _ => false
def isIB (d : PyData) : Bool := isI d || isBo d
def isT : PyData → Bool
  | .tuple _ => true
  | _ => false
def isBt (d : PyData) (lo hi : Int) : Bool := match d with
  | .int i => decide (lo ≤ i) && decide (i ≤ hi)
  | _ => false
def isTn (d : PyData) (n : Int) : Bool := match d with
  | .tuple xs => decide ((xs.length : Int) = n)
  | _ => false
def areB (d : PyData) (lo hi : Int) : Bool := match d with
  | .tuple xs => xs.all fun x => isBt x lo hi
  | _ => false
section
variable {K : PySem.W.Frag} {H : Hp} {v : V} {d : PyData}
theorem dp_ty (h : Dp K H v d) : TyX K H v (.type (tyName d)) := by
  cases h with
  | non => exact .base .non
  | bl b => exact .base (.bl b)
  | int i => exact .base (.int i)
  | str x => exact .base (.str x)
  | lst hs ha =>
    rcases hs with (hs | ⟨o, hs⟩) | ⟨o, its, n, hk, hc, _⟩
    · exact .base (.lst hs)
    · exact .base (.frz hs)
    · exact .kList hk hc
  | tup hs ha =>
    rcases hs with (hs | ⟨o, hs⟩) | ⟨o, its, n, hk, hc, _⟩
    · exact .base (.tup hs)
    · exact .fTuple hs
    · exact .kTuple hk hc
theorem kit_int : ∀ d : PyData, PySem.W.kitOne K (.type (tyName d)) (.type "int") = some (isIB d)
  | .none => kit_ty (by decide +kernel)
  | .bool _ => kit_ty (by show kitB "bool" "int" = some true; decide +kernel)
  | .int _ => kit_ty (by show kitB "int" "int" = some true; decide +kernel)
  | .str _ => kit_ty (by show kitB "str" "int" = some false; decide +kernel)
  | .list _ => kit_ty (by show kitB "list" "int" = some false; decide +kernel)
  | .tuple _ => kit_ty (by show kitB "tuple" "int" = some false; decide +kernel)
  | .dict _ => kit_ty (by show kitB "dict" "int" = some false; decide +kernel)
theorem kit_bool : ∀ d : PyData, PySem.W.kitOne K (.type (tyName d)) (.type "bool") = some (isBo d)
  | .none => kit_ty (by decide +kernel)
  | .bool _ => kit_ty (by show kitB "bool" "bool" = some true; decide +kernel)
  | .int _ => kit_ty (by show kitB "int" "bool" = some false; decide +kernel)
  | .str _ => kit_ty (by show kitB "str" "bool" = some false; decide +kernel)
  | .list _ => kit_ty (by show kitB "list" "bool" = some false; decide +kernel)
  | .tuple _ => kit_ty (by show kitB "tuple" "bool" = some false; decide +kernel)
  | .dict _ => kit_ty (by show kitB "dict" "bool" = some false; decide +kernel)
theorem kit_tuple : ∀ d : PyData, PySem.W.kitOne K (.type (tyName d)) (.type "tuple") = some (isT d)
  | .none => kit_ty (by decide +kernel)
  | .bool _ => kit_ty (by show kitB "bool" "tuple" = some false; decide +kernel)
  | .int _ => kit_ty (by show kitB "int" "tuple" = some false; decide +kernel)
  | .str _ => kit_ty (by show kitB "str" "tuple" = some false; decide +kernel)
  | .list _ => kit_ty (by show kitB "list" "tuple" = some false; decide +kernel)
  | .tuple _ => kit_ty (by show kitB "tuple" "tuple" = some true; decide +kernel)
  | .dict _ => kit_ty (by show kitB "dict" "tuple" = some false; decide +kernel)
/-- what isinstance(x, int) asks and gives | .. bool | .. tuple -/
theorem isi_int {Q : VK} (h : Dp K H v d) (q : Q (.bl (isIB d)) H) : rIsi K [v, .ty "int"] H Q := ⟨v, _, _, _, _, rfl, .ty _, dp_ty h, kit_int d, q⟩
theorem isi_bool {Q : VK} (h : Dp K H v d) (q : Q (.bl (isBo d)) H) : rIsi K [v, .ty "bool"] H Q := ⟨v, _, _, _, _, rfl, .ty _, dp_ty h, kit_bool d, q⟩
theorem isi_tuple {Q : VK} (h : Dp K H v d) (q : Q (.bl (isT d)) H) : rIsi K [v, .ty "tuple"] H Q := ⟨v, _, _, _, _, rfl, .ty _, dp_ty h, kit_tuple d, q⟩
end

theorem slt {n : Nat} (h : n < 100000) : n < sizeLine := Nat.lt_of_lt_of_le h (by decide)
/-- a comprehension of scalars that changes nothing but its own list -/
theorem lcS {J : It} {n : Nat} {G : Hp → Prop} {Y : Nat → Hp → V → Hp → Prop} (w : Walk J n G Y) {g : TG} {te : TE} {vs : List Nat} {σ : L2.St} {H1 : Hp} {D : Addr} {Qd : Hp → Prop} (hD : H1 D = none) (hn : n < sizeLine) (R : Nat → V → Prop)
    (hG : ∀ H, Same H1 H → G H)
    (hs : ∀ i x H H' (Q : VK), i < n → Same H1 H → Y i H x H' → (∀ y H4, R i y → Same H H4 → Q y H4) → g x (wipe σ vs) H' fun σ2 H2 => wipe σ2 vs = wipe σ vs ∧ te σ2 H2 Q)
    (hd : ∀ H ys, Same H1 H → H D = some (.lst ys) → ys.length = n → (∀ i y, ys[i]? = some y → R i y) → Qd H) :
    ∃ W : Nat → Nat → Hp → Prop, (∃ m, W 0 m (upd H1 D (.lst []))) ∧ ∀ i m H, W i m H →
      (J.stop i H ∧ Qd H) ∨ (J.go i H ∧ ∃ Nx : Hp → Prop, (∀ H', Nx H' → ∃ m', m' < m ∧ W (i + 1) m' H') ∧ ∀ x H', J.yld i H x H' → g x (wipe σ vs) H' fun σ2 H2 => wipe σ2 vs = wipe σ vs ∧ tYes σ2 H2 fun b H3 =>
        if b = true then te σ2 H3 fun y H4 => ∃ acc, H4 D = some (.lst acc) ∧ acc.length < sizeLine ∧ Nx (upd H4 D (.lst (acc ++ [y]))) else Nx H3) := by
  refine lc_it w (fun i H => Same H1 H ∧ ∃ ys, H D = some (.lst ys) ∧ ys.length = i ∧ ∀ j y, ys[j]? = some y → R j y) ⟨Same.new hD, [], upd_same, rfl, fun j y h => by simp at h⟩ (fun i H _ p => hG H p.1) (fun i x H H' hi p y => ?_) (fun H p => ?_)
  · obtain ⟨s, ys, hy, hl, hr⟩ := p
    have q := hs i x H H' (fun y H4 => ∃ acc, H4 D = some (.lst acc) ∧ acc.length < sizeLine ∧ Same H1 (upd H4 D (.lst (acc ++ [y]))) ∧ ∃ ys, (upd H4 D (.lst (acc ++ [y]))) D = some (.lst ys) ∧ ys.length = i + 1 ∧ ∀ j y, ys[j]? = some y → R j y) hi s y (fun v H4 r s4 => ?_)
    · have e : (fun σ2 H2 => wipe σ2 vs = wipe σ vs ∧ tYes σ2 H2 fun b H3 =>
        if b = true then te σ2 H3 fun y H4 => ∃ acc, H4 D = some (.lst acc) ∧ acc.length < sizeLine ∧ Same H1 (upd H4 D (.lst (acc ++ [y]))) ∧ ∃ ys, (upd H4 D (.lst (acc ++ [y]))) D = some (.lst ys) ∧ ys.length = i + 1 ∧ ∀ j y, ys[j]? = some y → R j y
        else Same H1 H3 ∧ ∃ ys, H3 D = some (.lst ys) ∧ ys.length = i + 1 ∧ ∀ j y, ys[j]? = some y → R j y) =
        (fun σ2 H2 => wipe σ2 vs = wipe σ vs ∧ te σ2 H2 fun y H4 => ∃ acc, H4 D = some (.lst acc) ∧ acc.length < sizeLine ∧ Same H1 (upd H4 D (.lst (acc ++ [y]))) ∧ ∃ ys, (upd H4 D (.lst (acc ++ [y]))) D = some (.lst ys) ∧ ys.length = i + 1 ∧ ∀ j y, ys[j]? = some y → R j y) := by
        funext σ2 H2
        simp only [tYes, if_true]
      rw [e]
      exact q
    · refine ⟨ys, s4 _ _ hy, by omega, (Same.trans s s4).mut hD, _, upd_same, by simp [hl], fun j z hz => ?_⟩
      by_cases hj : j < ys.length
      · rw [List.getElem?_append_left hj] at hz
        exact hr j z hz
      · rw [List.getElem?_append_right (by omega)] at hz
        have e : j = i := by
          have := (List.getElem?_eq_some_iff.mp hz).1
          simp at this
          omega
        subst e
        rw [hl, Nat.sub_self] at hz
        simp at hz
        rw [← hz]
        exact r
  · obtain ⟨s, ys, hy, hl, hr⟩ := p
    exact hd H ys s hy hl hr
theorem vals_bl {n : Nat} {ys : List V} {f : Nat → Bool} (hl : ys.length = n) (h : ∀ i y, ys[i]? = some y → y = V.bl (f i)) : ys = ((List.range n).map f).map V.bl := by
  refine List.ext_getElem? fun i => ?_
  by_cases hi : i < n
  · have hi' : i < ys.length := by omega
    have e := h i ys[i] (by simp [hi'])
    simp [hi, hi', e]
  · rw [List.getElem?_eq_none (by omega), List.getElem?_eq_none (by simp; omega)]
theorem vals_int {n : Nat} {ys : List V} {f : Nat → Int} (hl : ys.length = n) (h : ∀ i y, ys[i]? = some y → y = V.int (f i)) : ys = ((List.range n).map f).map V.int := by
  refine List.ext_getElem? fun i => ?_
  by_cases hi : i < n
  · have hi' : i < ys.length := by omega
    have e := h i ys[i] (by simp [hi'])
    simp [hi, hi', e]
  · rw [List.getElem?_eq_none (by omega), List.getElem?_eq_none (by simp; omega)]

def nI (ns : List Nat) : List Int := ns.map fun (n : Nat) => (n : Int)
theorem nI_length (ns : List Nat) : (nI ns).length = ns.length := by simp [nI]
/-- a row as data -/
def rowD (ns : List Nat) : PyData := .tuple ((nI ns).map PyData.int)

/-! ### errors with one field -/
def spErr (C : Addr) (f : Str) : Sp := fun vs H Q _ => ∃ (a : Addr) (y : V), vs = [.ref a, y] ∧ H a = some (exo a C none) ∧ ∀ dx, H dx = none → dx ≠ a → Q .non (upd (upd H dx (exd dx [(f, y)])) a (exo a C (some dx)))
structure ErT (K : PySem.W.Frag) (mg : Str → Option Value) (x f q : Str) (st : Stmt) (C fI : Addr) (fd : FuncData) : Prop where
  oex : OexC K C
  xf : XfC K C
  no : PySem.W.findIn K (.ref C) f = some none
  mgC : mg x = some (.ref C)
  iC : PySem.W.findIn K (.ref C) "__init__" = some (some (.ref fI))
  tI : PySem.W.typeIn K (.ref fI) = some (.type "function")
  fn : Fun K "__init__" q st fI fd
  b : Binds K fd ["self", f] []
structure ErC (P : Program) (w : World) (K : PySem.W.Frag) (mg : Str → Option Value) (base : Heap) (x f : Str) (C : Addr) : Prop where
  ex : ∃ (fI : Addr) (fd : FuncData), PySem.W.findIn K (.ref C) "__init__" = some (some (.ref fI)) ∧ PySem.W.typeIn K (.ref fI) = some (.type "function") ∧ Binds K fd ["self", f] [] ∧ FnOk P w K mg base CX0 1 fI fd ["self", f] (spErr C f)
  oex : OexC K C
  xf : XfC K C
  no : PySem.W.findIn K (.ref C) f = some none
  mgC : mg x = some (.ref C)
/-- raise X(e): what the making of the error asks of its argument's value -/
def rzQ (C : Addr) (f : Str) (W : WX) (σ : L2.St) (y : V) (H1 : Hp) : Prop := ([y] : List V).length ≤ 1000 ∧ ∀ a, H1 a = none → spErr C f (.ref a :: ([y] ++ [])) (upd H1 a (exo a C none))
  (fun v H2 => v = .non ∧ ∃ (d : Addr) (fs : List (Str × V)), H2 a = some (exo a C (some d)) ∧ H2 d = some (exd d fs) ∧ H1 d = none ∧ W (.ref C) (some d) σ (upd (del H2 a) d (.xd fs))) (fun _ _ _ => False)
def tRz (C : Addr) (f : Str) (W : WX) (te : TE) : TS := fun _ σ H => te σ H fun y H1 => rzQ C f W σ y H1
theorem rz_ok {C : Addr} {f : Str} {W : WX} {σ : L2.St} {y : V} {H1 : Hp} (h : ∀ d, H1 d = none → W (.ref C) (some d) σ (upd H1 d (.xd [(f, y)]))) : rzQ C f W σ y H1 := by
  refine ⟨(by show 1 ≤ 1000; omega), fun a ha => ⟨a, y, rfl, upd_same, fun dx hd hne => ⟨rfl, dx, [(f, y)], upd_same, ?_, ?_, ?_⟩⟩⟩
  · rw [upd_ne hne, upd_same]
  · rwa [upd_ne hne] at hd
  · have hd1 : H1 dx = none := by rwa [upd_ne hne] at hd
    have e : upd (del (upd (upd (upd H1 a (exo a C none)) dx (exd dx [(f, y)])) a (exo a C (some dx))) a) dx (.xd [(f, y)]) = upd H1 dx (.xd [(f, y)]) := by
      funext b
      by_cases h1 : b = dx
      · rw [h1, upd_same, upd_same]
      · rw [upd_ne h1, upd_ne h1]
        by_cases h2 : b = a
        · rw [h2, del_same, ha]
        · rw [del_ne h2, upd_ne h2, upd_ne h1, upd_ne h2]
    rw [e]
    exact h dx hd1
theorem ps_rz {X : Cx} {x f : Str} {C : Addr} {W : WX} {e : Expr} {te : TE} {p pos pos' : Pos} (hc : X.calm = true) (T : ErC X.prog X.w X.K X.mg X.base x f C) (hr : Room 2 X.A) (tk : Takes X W) (hg : Gl X x) (he : PE X e te)
    (hdb : (x == ("__debug__" : Str)) = false := by decide) (hse : starEach [e] X.env = (false, eval e X.env) :: starEach [] X.env := by rfl) :
    PS X (.Raise (some (.Call (.Name x p) [e] [] pos)) none pos') (tRz C f W te) := by
  obtain ⟨fI, fd, iC, tI, bI, F⟩ := T.ex
  refine ⟨fun pins s σ H D I h => ?_⟩
  exact (ps_raise hc tk (pmk_oex T.oex iC tI F hr bI .nil pass0 hg T.mgC (pa_cons (hs := hse) he pa_nil) hdb hse (by rfl))).run pins s σ H D I h
section
variable {P : Program} {w : World} {K : PySem.W.Frag} {mg : Str → Option Value} {base : Heap} {C fI : Addr} {fd : FuncData}
theorem ErT.ok {x f q : Str} {st : Stmt} (T : ErT K mg x f q st C fI fd) (S : FnScope ["self", f] ["self", f] (defScope st))
    (hb : ∀ (cdv : Value) (A : Around) (outer : List Env) (s : Shared) (H : Hp) (E : XK), PSs (cxOf CX0 P w K mg base ["self", f] q (defScope st) fI cdv A outer s H E).nox (defBody st) (tOst K f (tVar 0) (tVar 1))) :
    ErC P w K mg base x f C := by
  refine ⟨⟨fI, fd, T.iC, T.tI, T.b, ?_⟩, T.oex, T.xf, T.no, T.mgC⟩
  refine T.fn.ok S (fun vs H Q E h => ?_) (fun cdv A outer s H vs Q E hr h => ?_)
  · obtain ⟨a, y, rfl, _⟩ := h
    rfl
  · obtain ⟨a, y, rfl, ha, k⟩ := h
    exact ⟨_, hb cdv A outer s H E, _, rfl, _, rfl, a, C, rfl, T.oex, T.no, .inl ⟨ha, k⟩⟩
theorem ErT.mk' {h : Heap} {x f q : Str} {st : Stmt} {nm qc : Str} {N : Addr} {bs bm : List Value} {sn : List Str} {sub : List Value} {ab : Bool} {col : Option Bool} {dd : Option Addr} {k0 k1 k2 k3 k5 : Option Value} {oc : Value} {od an : Option Addr} {osl : Array (Option Value)} {kV doc pm cdv ct : Value}
    (X : K.In h) (G : h.Ns mainGlobals mg) (aC : PySem.W.nsIn K mainGlobals x = some (some (.ref C))) (xL : K.lookup C = some (excClassObj nm qc C N bs bm true sn sub ab col dd k0 k1 k2 k3 k5 "ValueError.__new__")) (rv : PySem.HandSPX.refsVE bm = true)
    (sa : PySem.W.findIn K (.ref C) "__setattr__" = some (some (.builtin "object.__setattr__"))) (ga : PySem.W.findIn K (.ref C) "__getattribute__" = some (some (.builtin "BaseException.__getattribute__"))) (gg : PySem.W.findIn K (.ref C) "__getattr__" = some none) (nb : PySem.W.findIn K (.ref C) f = some none)
    (a1 : PySem.W.findIn K (.ref C) "__init__" = some (some (.ref fI))) (t1 : PySem.W.typeIn K (.ref fI) = some (.type "function")) (l1 : K.lookup fI = some ⟨oc, od, .func (PySem.W.fnOf "__init__" q (defArgs st) (defBody st) (defScope st) .none kV doc pm an cdv ct), osl⟩) (c1 : PySem.W.codeIn K cdv q = true) (k1' : PySem.W.keepIn K (.ref fI) = true)
    (kC : PySem.W.keepIn K (.ref C) = true) (eC : PySem.W.subIn K (.ref C) (.type "BaseException") = some true) (tC : PySem.W.typeIn K (.ref C) = some (.type "type")) (hC : PySem.W.hasDictIn K C = true)
    (hb : ∀ (kV doc pm : Value) (an : Option Addr) (cdv ct : Value) (us : List Value), us.length = (["self", f] : List Str).length → bindArgs (PySem.W.fnOf "__init__" q (defArgs st) (defBody st) (defScope st) .none kV doc pm an cdv ct) ⟨us, []⟩ = pure ((["self", f] : List Str).zip us)) :
    ErT K mg x f q st C fI (PySem.W.fnOf "__init__" q (defArgs st) (defBody st) (defScope st) .none kV doc pm an cdv ct) :=
  ⟨⟨⟨nm, qc, N, bs, bm, sn, sub, ab, col, dd, k0, k1, k2, k3, k5, xL, rv⟩, sa, eC, tC, kC⟩, ⟨ga, gg, eC, hC⟩, nb, PySem.W.mg_of X G aC, a1, t1, fun_mk l1 c1 k1', (fun_mk l1 c1 k1').binds hb⟩

end

def itm : PyData → List PyData
  | .tuple xs => xs
  | _ => []
def boOf : PyData → Bool
  | .bool b => b
  | _ => false
def iOf : PyData → Int
  | .int i => i
  | _ => 0

section
variable {K : PySem.W.Frag} {H : Hp}
theorem _root_.L2.DpAll.at_ {xs : List V} {ds : List PyData} (h : DpAll K H xs ds) {i : Nat} (hi : i < ds.length) : ∃ x, xs[i]? = some x ∧ atI xs (i : Int) = some x ∧ Dp K H x (ds.getD i .none) := by
  obtain ⟨x, h1, h2⟩ := DpAll.get h (i := i) (d := ds.getD i .none) (by simp [hi])
  exact ⟨x, h1, atI_nat h1, h2⟩
theorem isTn_tup {d : PyData} {n : Int} (h : isTn d n = true) : ∃ ds, d = .tuple ds ∧ (ds.length : Int) = n := by
  cases d with
  | tuple ds => exact ⟨ds, rfl, by simpa [isTn] using h⟩
  | _ => cases h
end

/-- x is not b -/
def rNotBA : R2 := fun x y H Q => ∃ b : Bool, y = .bl b ∧ Q (.bl (!decide (x = .bl b))) H
theorem op_notBA {X : Cx} : OpR X (compareOp .IsNot) rNotBA := by
  intro pins s σ H x y v u Q I rx ry h
  obtain ⟨b, rfl, q⟩ := h
  cases (show u = Value.bool b from ry)
  have fin : ∀ c, (x = .bl b) = (c = true) → decide (x = .bl b) = c → EP X pins σ Q (.bool (!c)) s := fun c _ e => ⟨.bl (!c), H, I, rfl, by rw [← e]; exact q⟩
  by_cases e : x = .bl b
  · subst e
    cases (show v = Value.bool b from rx)
    exact wpAny_isNot_self rfl ⟨.bl false, H, I, rfl, by simpa using q⟩
  · have e2 : (!decide (x = .bl b)) = true := by simpa using e
    rw [e2] at q
    have go : plainIs v (.bool b) = true ∧ v ≠ .bool b := by
      cases x with
      | non => cases (show v = Value.none from rx); exact ⟨rfl, fun z => by cases z⟩
      | bl c => cases (show v = Value.bool c from rx); exact ⟨rfl, fun z => by cases z; exact e rfl⟩
      | int i => obtain ⟨t, rfl⟩ := rx; exact ⟨rfl, fun z => by cases z⟩
      | str i => obtain ⟨t, rfl⟩ := rx; exact ⟨rfl, fun z => by cases z⟩
      | byt i => obtain ⟨t, rfl⟩ := rx; exact ⟨rfl, fun z => by cases z⟩
      | flt i => obtain ⟨t, rfl⟩ := rx; exact ⟨rfl, fun z => by cases z⟩
      | ref i => cases (show v = Value.ref i from rx); exact ⟨rfl, fun z => by cases z⟩
      | ty i => cases (show v = Value.type i from rx); exact ⟨rfl, fun z => by cases z⟩
    exact wpAny_isNot_other go.1 go.2 ⟨.bl true, H, I, rfl, q⟩

theorem exm_of {K : PySem.W.Frag} {S c : Addr} {b : Bool} (h1 : PySem.W.subIn K (.ref S) (.type "BaseException") = some true) (h2 : PySem.W.isClsIn K S = true) (h3 : PySem.W.typeIn K (.ref S) = some (.type "type")) (h4 : PySem.W.subIn K (.ref c) (.ref S) = some b) :
    PySem.W.exmOne K (.ref c) (.ref S) = some b := by
  have e1 : (PySem.W.subIn K (.ref S) (.type "BaseException") == some true) = true := by rw [h1] <;> rfl
  have e2 : ((PySem.W.clsIn K S).isSome && PySem.W.typeIn K (.ref S) == some (.type "type")) = true := by
    have h2' : (PySem.W.clsIn K S).isSome = true := h2
    rw [h2', h3] <;> rfl
  show (if (PySem.W.subIn K (.ref S) (.type "BaseException") == some true) = true then (if ((PySem.W.clsIn K S).isSome && PySem.W.typeIn K (.ref S) == some (.type "type")) = true then PySem.W.subIn K (.ref c) (.ref S) else none) else none) = some b
  rw [if_pos e1, if_pos e2]
  exact h4

theorem getD_map {α β : Type} (f : α → β) (l : List α) (i : Nat) (d : α) (e : β) (h : i < l.length) : (l.map f).getD i e = f (l.getD i d) := by simp [h]

/-! ### repr of small data -/
structure Sm (N D : Nat) (d : PyData) : Prop where
  sh : d.showable = true
  lv : d.leavesShort 61 = true
  nd : d.hasDict = false
  bk : d.bulk ≤ N
  dp : d.depth ≤ D
structure SmA (N D : Nat) (xs : List PyData) : Prop where
  sh : PyData.showableAll xs = true
  lv : PyData.leavesShortAll 61 xs = true
  nd : PyData.hasDictAll xs = false
  bk : PyData.bulkAll xs ≤ N
  dp : PyData.depthAll xs ≤ D
theorem Sm.none' {N D : Nat} : Sm N D .none := ⟨rfl, rfl, rfl, Nat.zero_le _, Nat.zero_le _⟩
theorem Sm.bl' {N D : Nat} {b : Bool} : Sm N D (.bool b) := ⟨rfl, rfl, rfl, Nat.zero_le _, Nat.zero_le _⟩
theorem log_60 {n : Nat} (h : n < 10 ^ 60) : n.log2 < 1920 := by
  by_cases e : n = 0
  · subst e; decide
  · have : n.log2 < 200 := by
      rw [Nat.log2_lt e]
      exact Nat.lt_of_lt_of_le h (by decide)
    omega
theorem Sm.int' {N D : Nat} {i : Int} (h : i.natAbs < 10 ^ 60) : Sm N D (.int i) := by
  refine ⟨by simp only [PyData.showable, decide_eq_true_eq]; exact log_60 h, ?_, rfl, Nat.zero_le _, Nat.zero_le _⟩
  have e := int_text_length_le10 (k := 60) (by decide) h
  simp only [PyData.leavesShort, decide_eq_true_eq]
  show (Str.ofString (toString i)).length ≤ 61
  rw [PySem.ofString_length]; exact e
theorem SmA.nil' {N D : Nat} : SmA N D [] := ⟨rfl, rfl, rfl, Nat.zero_le _, Nat.zero_le _⟩
theorem SmA.cons' {N n m D : Nat} {x : PyData} {xs : List PyData} (h : Sm n D x) (r : SmA m D xs) (e : n + 1 + m ≤ N) : SmA N D (x :: xs) := by
  refine ⟨by simp only [PyData.showableAll, h.sh, r.sh, Bool.and_self], by simp only [PyData.leavesShortAll, h.lv, r.lv, Bool.and_self], by simp only [PyData.hasDictAll, h.nd, r.nd, Bool.or_self], ?_, ?_⟩
  · have := h.bk
    have := r.bk
    simp only [PyData.bulkAll]
    omega
  · have := h.dp
    have := r.dp
    simp only [PyData.depthAll]
    omega
theorem SmA.of_all {n D : Nat} : ∀ {xs : List PyData}, (∀ x ∈ xs, Sm n D x) → SmA ((n + 1) * xs.length) D xs
  | [], _ => SmA.nil'
  | x :: xs, h => SmA.cons' (h x (List.mem_cons_self ..)) (SmA.of_all fun y hy => h y (List.mem_cons_of_mem _ hy)) (by rw [List.length_cons, Nat.mul_succ]; omega)
theorem SmA.mono {N M D : Nat} {xs : List PyData} (h : SmA N D xs) (e : N ≤ M) : SmA M D xs := ⟨h.sh, h.lv, h.nd, Nat.le_trans h.bk e, h.dp⟩
theorem SmA.tup {N D : Nat} {xs : List PyData} (h : SmA N D xs) : Sm N (D + 1) (.tuple xs) :=
  ⟨by simpa only [PyData.showable] using h.sh, by simpa only [PyData.leavesShort] using h.lv, by simpa only [PyData.hasDict] using h.nd, by simpa only [PyData.bulk] using h.bk, by simp only [PyData.depth]; have := h.dp; omega⟩
theorem Sm.mono {N M D C : Nat} {d : PyData} (h : Sm N D d) (e : N ≤ M) (f : D ≤ C) : Sm M C d := ⟨h.sh, h.lv, h.nd, Nat.le_trans h.bk e, Nat.le_trans h.dp f⟩
theorem Sm.fits {N D : Nat} {d : PyData} (h : Sm N D d) (e : N ≤ 200000) : d.shown.length ≤ sizeLine := by
  have h1 := PyData.shown_le_bulk 61 (by decide) d h.lv
  have h2 := h.bk
  rw [sizeLine_eq]
  omega
theorem Sm.ints {N : Nat} {ns : List Nat} (h : ∀ n ∈ ns, n < 10 ^ 60) (e : ns.length ≤ N) : Sm N 1 (rowD ns) := by
  refine SmA.tup (SmA.mono (SmA.of_all (n := 0) fun x hx => ?_) (by rw [List.length_map, nI_length]; omega))
  obtain ⟨i, hi, rfl⟩ := List.mem_map.mp hx
  obtain ⟨n, hn, rfl⟩ := List.mem_map.mp hi
  exact Sm.int' (by have := h n hn; simpa using this)
def spLike (K : PySem.W.Frag) : Sp := fun vs H Q _ => ∃ (v u : V) (d : PyData) (N D : Nat), vs = [v, u] ∧ Dp K H v d ∧ Dp K H u d ∧ Sm N D d ∧ N ≤ 200000 ∧ D ≤ 60 ∧ Q (.bl true) H

/-! ### the law's state -/
/-- all but the dict at a and the list at l stands as before -/
def Sbt (a l : Addr) (H H' : Hp) : Prop := ∀ b o, H b = some o → b ≠ a → b ≠ l → H' b = some o
theorem Sbt.refl {a l : Addr} (H : Hp) : Sbt a l H H := fun _ _ e _ _ => e
theorem Sbt.trans {a l : Addr} {H H1 H2 : Hp} (h : Sbt a l H H1) (k : Sbt a l H1 H2) : Sbt a l H H2 := fun b o e h1 h2 => k b o (h b o e h1 h2) h1 h2
theorem Sbt.of {a l : Addr} {H H1 : Hp} (h : Same H H1) : Sbt a l H H1 := fun b o e _ _ => h b o e
theorem Sbt.same {a l : Addr} {H H1 H2 : Hp} (h : Sbt a l H H1) (k : Same H1 H2) : Sbt a l H H2 := fun b o e h1 h2 => k b o (h b o e h1 h2)
theorem Sbt.mut {a l p : Addr} {o : HO} {H H1 : Hp} (h : Sbt a l H H1) (n : H p = none) : Sbt a l H (upd H1 p o) := fun b u e h1 h2 => by
  rw [upd_ne (ne_of_none e n)]
  exact h b u e h1 h2
theorem Sbt.a {a l : Addr} {o : HO} {H H1 : Hp} (h : Sbt a l H H1) : Sbt a l H (upd H1 a o) := fun b u e h1 h2 => by
  rw [upd_ne h1]
  exact h b u e h1 h2
theorem Sbt.l {a l : Addr} {o : HO} {H H1 : Hp} (h : Sbt a l H H1) : Sbt a l H (upd H1 l o) := fun b u e h1 h2 => by
  rw [upd_ne h2]
  exact h b u e h1 h2
def stK (c l : Addr) (m : Nat) : List (Key × V) := [(.inr "cells", .ref c), (.inr "lefts", .ref l), (.inr "at", .int m)]
structure LStX (H : Hp) (a l : Addr) (n : Nat) (c : Addr) (cs ls : List Int) (m : Nat) : Prop where
  top : H a = some (.dK (stK c l m))
  cells : H c = some (.lst (cs.map V.int))
  lefts : H l = some (.lst (ls.map V.int))
  len : ls.length = cs.length
  pos : 0 < cs.length
  few : m ≤ n
  apart : c ≠ l
def LSt (H : Hp) (a l c : Addr) (n : Nat) : Prop := ∃ cs ls m, LStX H a l n c cs ls m
theorem LSt.same {H H' : Hp} {a l c : Addr} {n : Nat} (h : LSt H a l c n) (e : Same H H') : LSt H' a l c n := by
  obtain ⟨cs, ls, m, h⟩ := h
  exact ⟨cs, ls, m, e _ _ h.top, e _ _ h.cells, e _ _ h.lefts, h.len, h.pos, h.few, h.apart⟩
theorem LSt.mono {H : Hp} {a l c : Addr} {n k : Nat} (h : LSt H a l c n) (e : n ≤ k) : LSt H a l c k := by
  obtain ⟨cs, ls, m, h⟩ := h
  exact ⟨cs, ls, m, h.top, h.cells, h.lefts, h.len, h.pos, Nat.le_trans h.few e, h.apart⟩
/-- what is not the state's own may change -/
theorem LSt.put {H : Hp} {a l c p : Addr} {n : Nat} {o : HO} (h : LSt H a l c n) (e1 : p ≠ a) (e2 : p ≠ l) (e3 : p ≠ c) : LSt (upd H p o) a l c n := by
  obtain ⟨cs, ls, m, h⟩ := h
  exact ⟨cs, ls, m, by rw [upd_ne (Ne.symm e1)]; exact h.top, by rw [upd_ne (Ne.symm e3)]; exact h.cells, by rw [upd_ne (Ne.symm e2)]; exact h.lefts, h.len, h.pos, h.few, h.apart⟩
/-- what is none of the state's own -/
theorem LSt.off {H : Hp} {a l c p : Addr} {n : Nat} (h : LSt H a l c n) (e : H p = none) : p ≠ a ∧ p ≠ l ∧ p ≠ c := by
  obtain ⟨cs, ls, m, h⟩ := h
  exact ⟨Ne.symm (ne_of_none h.top e), Ne.symm (ne_of_none h.lefts e), Ne.symm (ne_of_none h.cells e)⟩
theorem LSt.new {H : Hp} {a l c p : Addr} {n : Nat} {o : HO} (h : LSt H a l c n) (e : H p = none) : LSt (upd H p o) a l c n := by
  obtain ⟨e1, e2, e3⟩ := h.off e
  exact h.put e1 e2 e3
section
variable {K : PySem.W.Frag}
mutual
def noList : PyData → Bool
  | .list _ => false
  | .tuple xs => noListAll xs
  | .dict _ => false
  | _ => true
def noListAll : List PyData → Bool
  | [] => true
  | x :: xs => noList x && noListAll xs
end
/-- at a stands no tuple -/
structure NoT (H : Hp) (a : Addr) : Prop where
  tup : ∀ xs, H a ≠ some (.tup xs)
  frz : ∀ o u, H a ≠ some (.frz o u)
theorem NoT.lst {H : Hp} {a : Addr} {xs : List V} (h : H a = some (.lst xs)) : NoT H a := ⟨(fun _ z => by rw [h] at z; cases z), (fun _ _ z => by rw [h] at z; cases z)⟩
theorem NoT.dK {H : Hp} {a : Addr} {xs : List (Key × V)} (h : H a = some (.dK xs)) : NoT H a := ⟨(fun _ z => by rw [h] at z; cases z), (fun _ _ z => by rw [h] at z; cases z)⟩
theorem LSt.noA {H : Hp} {a l c : Addr} {n : Nat} (s : LSt H a l c n) : NoT H a := by
  obtain ⟨cs, ls, m, s⟩ := s
  exact .dK s.top
theorem LSt.noL {H : Hp} {a l c : Addr} {n : Nat} (s : LSt H a l c n) : NoT H l := by
  obtain ⟨cs, ls, m, s⟩ := s
  exact .lst s.lefts
theorem seqTN {H H' : Hp} {a l b : Addr} {xs : List V} (e : Sbt a l H H') (na : NoT H a) (nl : NoT H l) (h : SqT K H b xs) : SqT K H' b xs := by
  rcases h with (h | ⟨o, h⟩) | h
  · exact .inl (.inl (e _ _ h (fun z => na.tup xs (by rw [← z]; exact h)) (fun z => nl.tup xs (by rw [← z]; exact h))))
  · exact .inl (.inr ⟨o, e _ _ h (fun z => na.frz _ _ (by rw [← z]; exact h)) (fun z => nl.frz _ _ (by rw [← z]; exact h))⟩)
  · exact .inr h
theorem Sbt.seqT {H H' : Hp} {a l c b : Addr} {n : Nat} {xs : List V} (e : Sbt a l H H') (s : LSt H a l c n) (h : SqT K H b xs) : SqT K H' b xs := seqTN e s.noA s.noL h
mutual
theorem keepN {H H' : Hp} {a l : Addr} (e : Sbt a l H H') (na : NoT H a) (nl : NoT H l) : ∀ (d : PyData) (v : V), noList d = true → Dp K H v d → Dp K H' v d
  | .none, _, _, h => by cases h; exact .non
  | .bool b, _, _, h => by cases h; exact .bl b
  | .int i, _, _, h => by cases h; exact .int i
  | .str x, _, _, h => by cases h; exact .str x
  | .list ds, _, q, h => by cases q
  | .tuple ds, _, q, h => by
    cases h with
    | tup hs ha => exact .tup (seqTN e na nl hs) (keepNs e na nl ds _ (by simpa only [noList] using q) ha)
  | .dict _, _, _, h => by cases h
theorem keepNs {H H' : Hp} {a l : Addr} (e : Sbt a l H H') (na : NoT H a) (nl : NoT H l) : ∀ (ds : List PyData) (vs : List V), noListAll ds = true → DpAll K H vs ds → DpAll K H' vs ds
  | [], _, _, h => by cases h; exact .nil
  | d :: ds, _, q, h => by
    cases h with
    | cons h1 h2 =>
      simp only [noListAll, Bool.and_eq_true] at q
      exact .cons (keepN e na nl d _ q.1 h1) (keepNs e na nl ds _ q.2 h2)
end
theorem keepT {H H' : Hp} {a l c : Addr} {n : Nat} (e : Sbt a l H H') (s : LSt H a l c n) (d : PyData) (v : V) (q : noList d = true) (h : Dp K H v d) : Dp K H' v d := keepN e s.noA s.noL d v q h
theorem keepTs {H H' : Hp} {a l c : Addr} {n : Nat} (e : Sbt a l H H') (s : LSt H a l c n) (ds : List PyData) (vs : List V) (q : noListAll ds = true) (h : DpAll K H vs ds) : DpAll K H' vs ds := keepNs e s.noA s.noL ds vs q h
/-- a list that changes -/
theorem keepLs {H : Hp} {p : Addr} {xs : List V} {o : HO} (hp : H p = some (.lst xs)) {ds : List PyData} {vs : List V} (q : noListAll ds = true) (h : DpAll K H vs ds) : DpAll K (upd H p o) vs ds :=
  keepNs (a := p) (l := p) (Sbt.refl H).a (.lst hp) (.lst hp) ds vs q h
theorem keepL {H : Hp} {p : Addr} {xs : List V} {o : HO} (hp : H p = some (.lst xs)) {d : PyData} {v : V} (q : noList d = true) (h : Dp K H v d) : Dp K (upd H p o) v d :=
  keepN (a := p) (l := p) (Sbt.refl H).a (.lst hp) (.lst hp) d v q h
theorem noListAll_of : ∀ {xs : List PyData}, (∀ x ∈ xs, noList x = true) → noListAll xs = true
  | [], _ => rfl
  | x :: xs, h => by
    simp only [noListAll, Bool.and_eq_true]
    exact ⟨h x (List.mem_cons_self ..), noListAll_of fun y hy => h y (List.mem_cons_of_mem _ hy)⟩
theorem noList_row (ns : List Nat) : noList (rowD ns) = true := by
  simp only [rowD, noList]
  exact noListAll_of fun x hx => by obtain ⟨i, _, rfl⟩ := List.mem_map.mp hx; rfl
theorem noList_rows (rows : List (List Nat)) : noListAll (rows.map rowD) = true := noListAll_of fun x hx => by obtain ⟨r, _, rfl⟩ := List.mem_map.mp hx; exact noList_row r
end
def spMixed : Sp := fun vs H Q _ => ∃ i k : Int, vs = [.int i, .int k] ∧ 0 ≤ k ∧ k ≤ 10000000 ∧ ∀ r : Int, 0 ≤ r → r < 2147483629 → Q (.int r) H
def spDraw : Sp := fun vs H Q _ => ∃ (a l c : Addr) (n : Nat) (lim : Int), vs = [.ref a, .int lim] ∧ LSt H a l c n ∧ n ≤ 1000000 ∧ 1 ≤ lim ∧ lim < 2 ^ 60 ∧ ∀ H' (r : Int), Sbt a l H H' → LSt H' a l c (n + 1) → 0 ≤ r → r < lim → Q (.int r) H'

theorem ks1 : ¬ (("cells" : Str) = "at") := by decide +kernel
theorem ks2 : ¬ (("lefts" : Str) = "at") := by decide +kernel
theorem ks3 : ¬ (("cells" : Str) = "lefts") := by decide +kernel
theorem dg_cells {H : Hp} {a c l : Addr} {m : Nat} (h : H a = some (.dK (stK c l m))) : DGet H a (V.str "cells") (some (.ref c)) := by
  have e : valV (stK c l m) (.inr "cells" : Key) = some (.ref c) := valV_pos rfl
  rw [← e]
  exact DGet.k (k := (Sum.inr ("cells" : Str) : Key)) h
theorem dg_lefts {H : Hp} {a c l : Addr} {m : Nat} (h : H a = some (.dK (stK c l m))) : DGet H a (V.str "lefts") (some (.ref l)) := by
  have e : valV (stK c l m) (.inr "lefts" : Key) = some (.ref l) := by simp [valV, stK, List.find?, ks3]
  rw [← e]
  exact DGet.k (k := (Sum.inr ("lefts" : Str) : Key)) h
theorem dg_at {H : Hp} {a c l : Addr} {m : Nat} (h : H a = some (.dK (stK c l m))) : DGet H a (V.str "at") (some (.int m)) := by
  have e : valV (stK c l m) (.inr "at" : Key) = some (.int m) := by simp [valV, stK, List.find?, ks1, ks2]
  rw [← e]
  exact DGet.k (k := (Sum.inr ("at" : Str) : Key)) h
theorem dp_at {H : Hp} {a c l : Addr} {m : Nat} (h : H a = some (.dK (stK c l m))) : DPut H a (V.str "at") (V.int ((m : Int) + 1)) (upd H a (.dK (stK c l (m + 1)))) := by
  have e : putK (stK c l m) (.inr "at" : Key) (V.int ((m : Int) + 1)) = stK c l (m + 1) := by simp [putK, stK, ks1, ks2]
  rw [← e]
  exact DPut.k (k := (Sum.inr ("at" : Str) : Key)) h (by show 3 < sizeLine; decide)

theorem Sbt.free {a l q : Addr} {H H' : Hp} (e : Sbt a l H H') (h : H' q = none) (na : q ≠ a) (nl : q ≠ l) : H q = none := by
  cases hq : H q with
  | none => rfl
  | some o =>
    have := e q o hq na nl
    rw [h] at this
    cases this
theorem dp_bools {K : PySem.W.Frag} {H : Hp} : ∀ bs : List Bool, DpAll K H (bs.map V.bl) (bs.map PyData.bool)
  | [] => .nil
  | b :: bs => .cons (.bl b) (dp_bools bs)
/-- a comprehension whose elements draw -/
theorem lcD {J : It} {n : Nat} {G : Hp → Prop} {Y : Nat → Hp → V → Hp → Prop} (w : Walk J n G Y) {g : TG} {te : TE} {vs : List Nat} {σ : L2.St} {H1 : Hp} {D : Addr} {Qd : Hp → Prop} {a l c : Addr} {m : Nat} (st : Nat) (hD : H1 D = none) (hn : n < sizeLine) (R : Nat → V → Prop)
    (hl : LSt H1 a l c m) (hG : ∀ H, G H)
    (hs : ∀ i x H H' (Q : VK), i < n → Sbt a l H1 H → LSt H a l c (m + i * st) → Y i H x H' → (∀ y H4, R i y → Sbt a l H H4 → LSt H4 a l c (m + (i + 1) * st) → Q y H4) → g x (wipe σ vs) H' fun σ2 H2 => wipe σ2 vs = wipe σ vs ∧ te σ2 H2 Q)
    (hd : ∀ H ys, Sbt a l H1 H → LSt H a l c (m + n * st) → H D = some (.lst ys) → ys.length = n → (∀ i y, ys[i]? = some y → R i y) → Qd H) :
    ∃ W : Nat → Nat → Hp → Prop, (∃ m, W 0 m (upd H1 D (.lst []))) ∧ ∀ i m H, W i m H →
      (J.stop i H ∧ Qd H) ∨ (J.go i H ∧ ∃ Nx : Hp → Prop, (∀ H', Nx H' → ∃ m', m' < m ∧ W (i + 1) m' H') ∧ ∀ x H', J.yld i H x H' → g x (wipe σ vs) H' fun σ2 H2 => wipe σ2 vs = wipe σ vs ∧ tYes σ2 H2 fun b H3 =>
        if b = true then te σ2 H3 fun y H4 => ∃ acc, H4 D = some (.lst acc) ∧ acc.length < sizeLine ∧ Nx (upd H4 D (.lst (acc ++ [y]))) else Nx H3) := by
  obtain ⟨da, dl, dc⟩ := hl.off hD
  refine lc_it w (fun i H => Sbt a l H1 H ∧ LSt H a l c (m + i * st) ∧ ∃ ys, H D = some (.lst ys) ∧ ys.length = i ∧ ∀ j y, ys[j]? = some y → R j y) ⟨(Sbt.refl H1).mut hD, by rw [Nat.zero_mul]; exact hl.new hD, [], upd_same, rfl, fun j y h => by simp at h⟩ (fun i H _ p => hG H) (fun i x H H' hi p y => ?_) (fun H p => ?_)
  · obtain ⟨s, sl, ys, hy, hlen, hr⟩ := p
    have q := hs i x H H' (fun y H4 => ∃ acc, H4 D = some (.lst acc) ∧ acc.length < sizeLine ∧ Sbt a l H1 (upd H4 D (.lst (acc ++ [y]))) ∧ LSt (upd H4 D (.lst (acc ++ [y]))) a l c (m + (i + 1) * st) ∧ ∃ ys, (upd H4 D (.lst (acc ++ [y]))) D = some (.lst ys) ∧ ys.length = i + 1 ∧ ∀ j y, ys[j]? = some y → R j y) hi s sl y (fun v H4 r s4 sl4 => ?_)
    · have e : (fun σ2 H2 => wipe σ2 vs = wipe σ vs ∧ tYes σ2 H2 fun b H3 =>
        if b = true then te σ2 H3 fun y H4 => ∃ acc, H4 D = some (.lst acc) ∧ acc.length < sizeLine ∧ Sbt a l H1 (upd H4 D (.lst (acc ++ [y]))) ∧ LSt (upd H4 D (.lst (acc ++ [y]))) a l c (m + (i + 1) * st) ∧ ∃ ys, (upd H4 D (.lst (acc ++ [y]))) D = some (.lst ys) ∧ ys.length = i + 1 ∧ ∀ j y, ys[j]? = some y → R j y
        else Sbt a l H1 H3 ∧ LSt H3 a l c (m + (i + 1) * st) ∧ ∃ ys, H3 D = some (.lst ys) ∧ ys.length = i + 1 ∧ ∀ j y, ys[j]? = some y → R j y) =
        (fun σ2 H2 => wipe σ2 vs = wipe σ vs ∧ te σ2 H2 fun y H4 => ∃ acc, H4 D = some (.lst acc) ∧ acc.length < sizeLine ∧ Sbt a l H1 (upd H4 D (.lst (acc ++ [y]))) ∧ LSt (upd H4 D (.lst (acc ++ [y]))) a l c (m + (i + 1) * st) ∧ ∃ ys, (upd H4 D (.lst (acc ++ [y]))) D = some (.lst ys) ∧ ys.length = i + 1 ∧ ∀ j y, ys[j]? = some y → R j y) := by
        funext σ2 H2
        simp only [tYes, if_true]
      rw [e]
      exact q
    · refine ⟨ys, s4 _ _ hy da dl, by omega, (Sbt.trans s s4).mut hD, sl4.put da dl dc, _, upd_same, by simp [hlen], fun j z hz => ?_⟩
      by_cases hj : j < ys.length
      · rw [List.getElem?_append_left hj] at hz
        exact hr j z hz
      · rw [List.getElem?_append_right (by omega)] at hz
        have e : j = i := by
          have := (List.getElem?_eq_some_iff.mp hz).1
          simp at this
          omega
        subst e
        rw [hlen, Nat.sub_self] at hz
        simp at hz
        rw [← hz]
        exact r
  · obtain ⟨s, sl, ys, hy, hlen, hr⟩ := p
    exact hd H ys s sl hy hlen hr
/-- items that are numbers below a bound -/
theorem ints_of {ys : List V} {b : Nat} (h : ∀ (i : Nat) (y : V), ys[i]? = some y → ∃ r : Nat, y = V.int r ∧ r < b) : ∃ cs : List Nat, ys = (nI cs).map V.int ∧ cs.length = ys.length ∧ ∀ c ∈ cs, c < b := by
  induction ys with
  | nil => exact ⟨[], rfl, rfl, fun c hc => absurd hc (by simp)⟩
  | cons y ys ih =>
    obtain ⟨cs, h1, h2, h3⟩ := ih fun i z hz => h (i + 1) z (by simpa using hz)
    obtain ⟨r, h4, h5⟩ := h 0 y rfl
    refine ⟨r :: cs, by rw [h4, h1]; rfl, by simp [h2], fun c hc => ?_⟩
    rcases List.mem_cons.mp hc with e | e
    · rw [e]; exact h5
    · exact h3 c e
theorem bools_of {ys : List V} (h : ∀ (i : Nat) (y : V), ys[i]? = some y → ∃ b : Bool, y = V.bl b) : ∃ bs : List Bool, ys = bs.map V.bl ∧ bs.length = ys.length := by
  induction ys with
  | nil => exact ⟨[], rfl, rfl⟩
  | cons y ys ih =>
    obtain ⟨bs, h1, h2⟩ := ih fun i z hz => h (i + 1) z (by simpa using hz)
    obtain ⟨b, h4⟩ := h 0 y rfl
    exact ⟨b :: bs, by rw [h4, h1]; rfl, by simp [h2]⟩

section
variable {K : PySem.W.Frag} {H : Hp}
theorem cat_ok {a b : Addr} {xs ys : List V} {Q : VK} (h1 : SqT K H a xs) (h2 : SqT K H b ys) (hz : xs.length + ys.length ≤ sizeLine) (q : ∀ r H', Same H H' → SqT K H' r (xs ++ ys) → Q (.ref r) H') : rCatA K (.ref a) (.ref b) H Q := by
  refine ⟨a, b, xs, ys, rfl, rfl, h1, h2, hz, fun e => ?_, fun _ e => ?_, fun _ _ p hp => q p _ (Same.new hp) (.of upd_same)⟩
  · subst e
    exact q b H (Same.refl _) h2
  · subst e
    exact q a H (Same.refl _) (by rw [List.append_nil]; exact h1)
theorem sl_ok {a : Addr} {xs : List V} {lo hi : Option Int} {Q : VK} (h1 : SqT K H a xs) (q : ∀ r H', Same H H' → SqT K H' r (cutV xs lo hi) → Q (.ref r) H') : rSlA K (.ref a) lo hi H Q := by
  refine ⟨a, xs, rfl, h1, fun e => q a H (Same.refl _) ?_, fun _ p hp => q p _ (Same.new hp) (.of upd_same)⟩
  have : cutV xs lo hi = xs := by
    unfold cutV
    rw [e.1, e.2]
    simp
  rw [this]
  exact h1
theorem DpAll_cut {xs : List V} {ds : List PyData} (h : DpAll K H xs ds) (lo hi : Option Int) : ∃ es, DpAll K H (cutV xs lo hi) es ∧ (∀ d ∈ es, d ∈ ds) :=
  ⟨_, (h.drop _).take _, fun d hd => List.mem_of_mem_drop (List.mem_of_mem_take hd)⟩
end
theorem _root_.L2.SqT.to' {K : PySem.W.Frag} {H H' : Hp} {a : Addr} {xs : List V} (h : SqT K H a xs) (e : Same H H') : SqT K H' a xs := e.seqT h
/-! ### data that stays while the state, the lists of H0 change -/
def IsT (o : HO) : Prop := (∃ xs, o = .tup xs) ∨ ∃ ob u, o = .frz ob u
def Kp (H0 H H' : Hp) : Prop := ∀ b o, H b = some o → (H0 b = none ∨ IsT o) → H' b = some o
theorem Kp.refl {H0 H : Hp} : Kp H0 H H := fun _ _ e _ => e
theorem Kp.trans {H0 H H1 H2 : Hp} (h : Kp H0 H H1) (k : Kp H0 H1 H2) : Kp H0 H H2 := fun b o e c => k b o (h b o e c) c
theorem Kp.same {H0 H H1 : Hp} (h : Same H H1) : Kp H0 H H1 := fun b o e _ => h b o e
theorem Kp.sbt {H0 H H1 : Hp} {a l c : Addr} {n : Nat} (h : Sbt a l H H1) (s : LSt H a l c n) (ha : H0 a ≠ none) (hl : H0 l ≠ none) : Kp H0 H H1 := fun b o e k => by
  have nt : ∀ {x : Addr}, NoT H x → H0 x ≠ none → b ≠ x := fun {x} hn h0 z => by
    subst z
    rcases k with k | ⟨xs, k⟩ | ⟨ob, u, k⟩
    · exact h0 k
    · exact hn.tup xs (by rw [e, k])
    · exact hn.frz ob u (by rw [e, k])
  exact h b o e (nt s.noA ha) (nt s.noL hl)
theorem Kp.put {H0 H : Hp} {p : Addr} {xs : List V} {o : HO} (hp : H p = some (.lst xs)) (h0 : H0 p ≠ none) : Kp H0 H (upd H p o) := fun b u e k => by
  have : b ≠ p := fun z => by
    subst z
    rcases k with k | ⟨ys, k⟩ | ⟨ob, w, k⟩
    · exact h0 k
    · rw [hp] at e; cases e; cases k
    · rw [hp] at e; cases e; cases k
  rw [upd_ne this]
  exact e
def DpN (H0 : Hp) (K : PySem.W.Frag) (H : Hp) (v : V) (d : PyData) : Prop := ∀ H', Kp H0 H H' → Dp K H' v d
theorem DpN.dp {H0 H : Hp} {K : PySem.W.Frag} {v : V} {d : PyData} (h : DpN H0 K H v d) : Dp K H v d := h H .refl
theorem DpN.step {H0 H H' : Hp} {K : PySem.W.Frag} {v : V} {d : PyData} (h : DpN H0 K H v d) (e : Kp H0 H H') : DpN H0 K H' v d := fun H2 k => h H2 (e.trans k)
theorem DpN.base {H0 H1 H : Hp} {K : PySem.W.Frag} {v : V} {d : PyData} (h : DpN H1 K H v d) (e : ∀ b, H1 b = none → H0 b = none) : DpN H0 K H v d := fun H2 k => h H2 fun b o x y => k b o x (y.imp (e b) id)
theorem seqTK {H0 H H' : Hp} {K : PySem.W.Frag} {b : Addr} {xs : List V} (e : Kp H0 H H') (h : SqT K H b xs) : SqT K H' b xs := by
  rcases h with (h | ⟨o, h⟩) | h
  · exact .inl (.inl (e _ _ h (.inr (.inl ⟨_, rfl⟩))))
  · exact .inl (.inr ⟨o, e _ _ h (.inr (.inr ⟨_, _, rfl⟩))⟩)
  · exact .inr h
mutual
theorem DpN.flat {H0 H : Hp} {K : PySem.W.Frag} : ∀ (d : PyData) (v : V), noList d = true → Dp K H v d → DpN H0 K H v d
  | .none, _, _, h => by cases h; exact fun _ _ => .non
  | .bool b, _, _, h => by cases h; exact fun _ _ => .bl b
  | .int i, _, _, h => by cases h; exact fun _ _ => .int i
  | .str x, _, _, h => by cases h; exact fun _ _ => .str x
  | .list ds, _, q, h => by cases q
  | .tuple ds, _, q, h => by
    cases h with
    | tup hs ha => exact fun H' e => .tup (seqTK e hs) (DpN.flats ds _ (by simpa only [noList] using q) ha H' e)
  | .dict _, _, _, h => by cases h
theorem DpN.flats {H0 H : Hp} {K : PySem.W.Frag} : ∀ (ds : List PyData) (vs : List V), noListAll ds = true → DpAll K H vs ds → ∀ H', Kp H0 H H' → DpAll K H' vs ds
  | [], _, _, h, _, _ => by cases h; exact .nil
  | d :: ds, _, q, h, H', e => by
    cases h with
    | cons h1 h2 =>
      simp only [noListAll, Bool.and_eq_true] at q
      exact .cons (DpN.flat d _ q.1 h1 H' e) (DpN.flats ds _ q.2 h2 H' e)
end

def spBegin (K : PySem.W.Frag) : Sp := fun vs H Q _ => ∃ (p : Addr) (is : List Int), vs = [.ref p] ∧ SqL K H p (is.map V.int) ∧ is.length ≤ 1000 ∧ ∀ H' a l c, Same H H' → LSt H' a l c 0 → Q (.ref a) H'

theorem _root_.L2.SqT.cast {K : PySem.W.Frag} {H : Hp} {a : Addr} {xs ys : List V} (h : SqT K H a xs) (e : xs = ys) : SqT K H a ys := by rw [← e]; exact h

theorem canLay_ints : ∀ is : List Int, PyData.canLayAll0 (is.map PyData.int) = true
  | [] => rfl
  | i :: is => by
    simp only [List.map_cons, PyData.canLayAll0, PyData.canLay0, Bool.true_and]
    exact canLay_ints is
theorem shaped_ints (is : List Int) : SeqAt.shaped (.list (is.map PyData.int)) = true := by
  unfold SeqAt.shaped
  simp only [PyData.canLay0, canLay_ints, PyData.depth, depth_ints, Bool.true_and]
  rfl
theorem ints_any {ys : List V} (h : ∀ (i : Nat) (y : V), ys[i]? = some y → ∃ z : Int, y = .int z) : ∃ zs : List Int, ys = zs.map V.int ∧ zs.length = ys.length := by
  induction ys with
  | nil => exact ⟨[], rfl, rfl⟩
  | cons y ys ih =>
    obtain ⟨zs, h1, h2⟩ := ih fun i z hz => h (i + 1) z (by simpa using hz)
    obtain ⟨b, h4⟩ := h 0 y rfl
    exact ⟨b :: zs, by rw [h4, h1]; rfl, by simp [h2]⟩

/-! ### the end -/
theorem lawCallG {P : Program} {w : World} {K : PySem.W.Frag} {mg mb : Str → Option Value} {k : Nat} {fa a : Addr} {fd : FuncData} {x : Str} {sp : Sp} {s₁ : Shared} {vs : List Value} {ns : List Int}
    (KX : K.In s₁.heap) (hns : s₁.heap.Ns mainGlobals mg) (hb : s₁.heap.Ns builtinsNs mb) (hbb : ∀ y : Str, y ≠ "__name__" → mb y = bootBuiltins y) (hlim : s₁.heap.NoLimit) (hg : s₁.gens = #[])
    (ha : s₁.heap.get? a = some { cls := .type "list", data := .seq vs.toArray }) (hi : IntsAre vs ns) (hl : ns.length ≤ sizeLine) (hr : Room k callerA)
    (F : ∀ base : Heap, K.In base → base.Ns mainGlobals mg → FnOkG P w K mg base CX0 k fa fd [x] sp) (hbind : ∀ (s : Shared) (u : Value), BindsTo s fd ⟨[u], []⟩ [(x, u)])
    (hsp : ∀ H : Hp, Only H → SqL K H a (ns.map V.int) → sp [.ref a] H (fun v _ => v = .bl true) fun _ _ _ => False) :
    codeAny (model P w) callerA (.call (.ref fa) ⟨[.ref a], []⟩) (fun r s' => r = .ok (.ret (.bool true)) ∧ PySem.OldK s₁.heap s'.heap ∧ s'.os = s₁.os ∧ AllBare s'.gens) s₁ := by
  have rv := vals_ints hi
  have lv := hi.length
  have main : ∀ T : Hp, Only T → SqL K T a (ns.map V.int) → HOk P w T s₁.heap → (∀ b, T b ≠ none → b = a) → (T a ≠ none → K.lookup a = none) →
      codeAny (model P w) callerA (.call (.ref fa) ⟨[.ref a], []⟩) (fun r s' => r = .ok (.ret (.bool true)) ∧ PySem.OldK s₁.heap s'.heap ∧ s'.os = s₁.os ∧ AllBare s'.gens) s₁ := fun T tO tS tk tA tK => by
    have at_a : ∀ {b : Addr} {u : HO}, T b = some u → b = a := fun {b u} z => tA b (by rw [z]; exact fun y => nomatch y)
    have dict0 : ∀ {b : Addr} {o : Obj} {es : Array DictEntry} {ep : Nat}, s₁.heap.get? b = some o → o.data = .dict es ep → T b = none := fun {b o es ep} z d => by
      cases t : T b with
      | none => rfl
      | some u =>
        obtain rfl := at_a t
        have z2 := ha.symm.trans z
        cases z2
        exact nomatch d
    have dicts : ∀ {b : Addr} {m : Str → Option Value}, s₁.heap.Ns b m → (hidT s₁.heap T).Ns b m := fun {b m} z =>
      let ⟨o, es, ep, g1, g2, g3⟩ := z
      ⟨o, es, ep, hidT_get g1 (dict0 g1 g2), g2, g3⟩
    have kin : K.In (hidT s₁.heap T) := fun b o z => hidT_get (KX b o z) (by
      cases t : T b with
      | none => rfl
      | some u =>
        obtain rfl := at_a t
        have no := tK (fun y => by rw [t] at y; exact nomatch y)
        rw [no] at z
        exact nomatch z)
    obtain ⟨mc, lim1, lim2⟩ := hlim
    have mods : Mod K mg (hidT s₁.heap T) := ⟨kin, dicts hns, ⟨mb, dicts hb, hbb⟩, ⟨mc, dicts lim1, lim2⟩⟩
    have nil : ∀ {b : Addr}, b ∈ frs ([] : List Env) → False := fun {b} z => by cases z
    have env : Env0 P w K mg (hidT s₁.heap T) callerA [] s₁ T := ⟨rfl, mods, fun b o z => of_hidT z, Nat.le_of_eq (hidT_size ..), trivial, fun b z => (nil z).elim, tk, .of_eq hg⟩
    refine codeAny_mono ((F _ kin (dicts hns)).run _ [] s₁ T ⟨[.ref a], []⟩ [.ref a] [.ref a] _ _ rfl hr env (hbind _ _) (.cons rfl .nil) (hsp T tO tS)) fun r s' z => ?_
    cases r with
    | error e => exact False.elim z
    | ok fl =>
      cases fl with
      | ret u =>
        obtain ⟨v, H2, z1, z2, un, z4, z5, z6⟩ := z
        obtain rfl : v = .bl true := z6
        refine ⟨by rw [show u = Value.bool true from z5], PySem.OldK.of_keep fun b o g => ?_, z1, z2⟩
        rcases tO b with t | ⟨ob, xs, t⟩
        · exact un.keep b o g t (fun y => nil y) (fun y => nomatch y)
        · have g1 := (tk b _ t).1
          have g2 := (z4 b _ (un.frzs b ob _ t)).1
          rw [g1] at g
          cases g
          exact g2
      | next => exact False.elim z
      | brk => exact False.elim z
      | cont => exact False.elim z
  cases own : K.lookup a with
  | some o =>
    obtain rfl : o = { cls := .type "list", data := .seq vs.toArray } := Option.some.inj ((KX a o own).symm.trans ha)
    exact main (fun _ => none) (fun _ => .inl rfl) (.inr ⟨_, _, _, own, rfl, rfl, rfl, by simp only [List.size_toArray]; omega, by simpa using rv⟩) (fun b u z => nomatch z) (fun b z => (z rfl).elim) fun z => (z rfl).elim
  | none =>
    have hit : ∀ {b : Addr} {u : HO}, (if b = a then some (HO.frz { cls := .type "list", data := .seq vs.toArray } (.lst (ns.map V.int))) else none) = some u → b = a ∧ u = .frz { cls := .type "list", data := .seq vs.toArray } (.lst (ns.map V.int)) := fun {b u} z => by
      by_cases c : b = a
      · rw [if_pos c] at z
        exact ⟨c, (Option.some.inj z).symm⟩
      · rw [if_neg c] at z
        exact nomatch z
    refine main (fun b => if b = a then some (.frz { cls := .type "list", data := .seq vs.toArray } (.lst (ns.map V.int))) else none) (fun b => ?_) (.inl (.inr ⟨_, if_pos rfl⟩)) (fun b u z => ?_) (fun b z => ?_) fun _ => own
    · by_cases c : b = a
      · exact .inr ⟨_, _, if_pos c⟩
      · exact .inl (if_neg c)
    · obtain ⟨rfl, rfl⟩ := hit z
      exact ⟨ha, by simpa using hl, vs, _, rv, ha⟩
    · by_cases c : b = a
      · exact c
      · exact (z (if_neg c)).elim
/-- the goal that the head leaves, from the promise of the law's def; the loose values are told by XP -/
theorem walkG {l : PySem.W.OpenLaw} {n k : Nat} {q : Program} {loose : List Str} {XP : (Str → Option Value) → Heap → Prop} {YP : World → Heap → Prop} {d : DefRec} {K : Params → PySem.W.Frag} {sp : PySem.W.Frag → Sp} {x : Str}
    (hn : l.most = some n) (hn2 : n ≤ sizeLine) (hdf : d.params.defaults = []) (hr : Room k callerA) (hY : ∀ (w : World) (h : Heap), YP w h → (K w.params).In h)
    (F : ∀ (w : World) (mg : Str → Option Value) (fa : Addr) (h : Heap), (K w.params).In h → h.Ns mainGlobals mg → XP mg h → mg d.name = some (.ref fa) →
      ∃ fd : FuncData, (∀ (s : Shared) (u : Value), BindsTo s fd ⟨[u], []⟩ [(x, u)]) ∧ ∀ base : Heap, FnOkG l.prog w (K w.params) mg base CX0 k fa fd [x] (sp (K w.params)))
    (hsp : ∀ (K : PySem.W.Frag) (H : Hp) (a : Addr) (ns : List Int), ns.length ≤ n → Only H → SqL K H a (ns.map V.int) → sp K [.ref a] H (fun v _ => v = .bl true) fun _ _ _ => False) :
    PySem.W.WalkO q loose XP YP l.row.toRowW d [] (fun f vs => PySem.call f vs) := by
  refine Att.attach_call hn hdf fun w s₀ s₁ mg mb fa o pm cd doc a vs ns G Y ho hd hcd hmg hobj hints hlen hg => ?_
  have KX := hY w _ Y
  obtain ⟨fd, hb, hF⟩ := F w mg fa _ KX G.T.g G.X hmg
  exact lawCallG KX G.T.g G.T.b G.T.builtins G.T.nolimit hg hobj hints (Nat.le_trans hlen hn2) hr (fun base _ _ => hF base) hb fun H hO hS => hsp _ H a ns hlen hO hS

end Ws
/-! ## G1 -/
namespace Ws
open PySem PySem.Spec PyProof.Rows L2
/-- what the list ys holds: for the kept places of 0 .. n - 1, in their order, an item each -/
structure Got (R : Nat → V → Hp → Prop) (keep : Nat → Bool) (n : Nat) (H : Hp) (ys : List V) : Prop where
  len : ys.length = ((List.range n).filter keep).length
  at_ : ∀ (j i : Nat) (y : V), ys[j]? = some y → ((List.range n).filter keep)[j]? = some i → R i y H
theorem Got.skip {R : Nat → V → Hp → Prop} {keep : Nat → Bool} {n : Nat} {H : Hp} {ys : List V} (h : Got R keep n H ys) (k : keep n = false) : Got R keep (n + 1) H ys := by
  have e : (List.range (n + 1)).filter keep = (List.range n).filter keep := by
    rw [List.range_succ, List.filter_append]
    simp [k]
  exact ⟨by rw [e]; exact h.len, fun j i y h1 h2 => h.at_ j i y h1 (by rw [← e]; exact h2)⟩
theorem Got.add {R : Nat → V → Hp → Prop} {keep : Nat → Bool} {n : Nat} {H : Hp} {ys : List V} {y : V} (h : Got R keep n H ys) (k : keep n = true) (r : R n y H) : Got R keep (n + 1) H (ys ++ [y]) := by
  have e : (List.range (n + 1)).filter keep = (List.range n).filter keep ++ [n] := by
    rw [List.range_succ, List.filter_append]
    simp [k]
  refine ⟨by rw [e, List.length_append, List.length_append, h.len]; rfl, fun j i z h1 h2 => ?_⟩
  rw [e] at h2
  by_cases hj : j < ys.length
  · rw [List.getElem?_append_left hj] at h1
    rw [List.getElem?_append_left (by rw [← h.len]; exact hj)] at h2
    exact h.at_ j i z h1 h2
  · rw [List.getElem?_append_right (by omega)] at h1
    rw [List.getElem?_append_right (by rw [← h.len]; omega), ← h.len] at h2
    have e0 : j - ys.length = 0 := by
      have := (List.getElem?_eq_some_iff.mp h1).1
      simpa using this
    rw [e0] at h1 h2
    have e1 : y = z := by simpa using h1
    have e2 : n = i := by simpa using h2
    rw [← e1, ← e2]
    exact r
theorem Got.map {R R' : Nat → V → Hp → Prop} {keep : Nat → Bool} {n : Nat} {H H' : Hp} {ys : List V} (h : Got R keep n H ys) (f : ∀ i y, R i y H → R' i y H') : Got R' keep n H' ys := ⟨h.len, fun j i y h1 h2 => f i y (h.at_ j i y h1 h2)⟩
/-- a comprehension with a test, whose items may be new objects -/
theorem lcF {J : It} {n : Nat} {G : Hp → Prop} {Y : Nat → Hp → V → Hp → Prop} (w : Walk J n G Y) {g : TG} {tt : TT} {te : TE} {vs : List Nat} {σ : L2.St} {H1 : Hp} {D : Addr} {Qd : Hp → Prop} (hD : H1 D = none) (hn : n < sizeLine) (keep : Nat → Bool) (R : Nat → V → Hp → Prop)
    (hR : ∀ i y H H', Sbt D D H H' → NoT H D → R i y H → R i y H') (hG : ∀ H, Same H1 H → G H)
    (hs : ∀ i x H H' (Q1 : VK) (Q0 : Hp → Prop), i < n → Same H1 H → Y i H x H' → (keep i = true → ∀ y H4, R i y H4 → Same H H4 → Q1 y H4) → (keep i = false → ∀ H4, Same H H4 → Q0 H4) →
      g x (wipe σ vs) H' fun σ2 H2 => wipe σ2 vs = wipe σ vs ∧ tt σ2 H2 fun b H3 => if b = true then te σ2 H3 Q1 else Q0 H3)
    (hd : ∀ H ys, Same H1 H → H D = some (.lst ys) → Got R keep n H ys → Qd H) :
    ∃ W : Nat → Nat → Hp → Prop, (∃ m, W 0 m (upd H1 D (.lst []))) ∧ ∀ i m H, W i m H →
      (J.stop i H ∧ Qd H) ∨ (J.go i H ∧ ∃ Nx : Hp → Prop, (∀ H', Nx H' → ∃ m', m' < m ∧ W (i + 1) m' H') ∧ ∀ x H', J.yld i H x H' → g x (wipe σ vs) H' fun σ2 H2 => wipe σ2 vs = wipe σ vs ∧ tt σ2 H2 fun b H3 =>
        if b = true then te σ2 H3 fun y H4 => ∃ acc, H4 D = some (.lst acc) ∧ acc.length < sizeLine ∧ Nx (upd H4 D (.lst (acc ++ [y]))) else Nx H3) := by
  have short : ∀ i, ((List.range i).filter keep).length ≤ i := fun i => by
    have := List.length_filter_le keep (List.range i)
    simpa using this
  refine lc_it w (fun i H => Same H1 H ∧ ∃ ys, H D = some (.lst ys) ∧ Got R keep i H ys) ⟨Same.new hD, [], upd_same, rfl, fun j i y h _ => by simp at h⟩ (fun i H _ p => hG H p.1) (fun i x H H' hi p y => ?_) (fun H p => ?_)
  · obtain ⟨s, ys, hy, hg⟩ := p
    refine hs i x H H' _ _ hi s y (fun k z H4 r s4 => ?_) (fun k H4 s4 => ?_)
    · have hy4 := s4 _ _ hy
      have no : NoT H4 D := .lst hy4
      have sb : Sbt D D H4 (upd H4 D (.lst (ys ++ [z]))) := (Sbt.refl H4).a
      have sb0 : Sbt D D H (upd H4 D (.lst (ys ++ [z]))) := (Sbt.of s4).trans sb
      exact ⟨ys, hy4, by have := short i; rw [hg.len]; omega, (Same.trans s s4).mut hD, _, upd_same, (hg.map fun i y q => hR i y _ _ sb0 (.lst hy) q).add k (hR i z _ _ sb no r)⟩
    · exact ⟨Same.trans s s4, ys, s4 _ _ hy, (hg.map fun i y q => hR i y _ _ (Sbt.of s4) (.lst hy) q).skip k⟩
  · obtain ⟨s, ys, hy, hg⟩ := p
    exact hd H ys s hy hg
theorem dpAll_of {K : PySem.W.Frag} {H : Hp} : ∀ {ys : List V} {ds : List PyData}, ys.length = ds.length → (∀ (j : Nat) (y : V) (d : PyData), ys[j]? = some y → ds[j]? = some d → Dp K H y d) → DpAll K H ys ds
  | [], [], _, _ => .nil
  | [], _ :: _, h, _ => by simp at h
  | _ :: _, [], h, _ => by simp at h
  | y :: ys, d :: ds, h, k => .cons (k 0 y d rfl rfl) (dpAll_of (by simpa using h) fun j z e h1 h2 => k (j + 1) z e (by simpa using h1) (by simpa using h2))
theorem Got.dp {K : PySem.W.Frag} {R : Nat → V → Hp → Prop} {keep : Nat → Bool} {n : Nat} {H : Hp} {ys : List V} (h : Got R keep n H ys) (f : Nat → PyData) (k : ∀ i y, R i y H → Dp K H y (f i)) : DpAll K H ys (((List.range n).filter keep).map f) := by
  refine dpAll_of (by rw [h.len, List.length_map]) fun j y d h1 h2 => ?_
  rw [List.getElem?_map] at h2
  cases e : ((List.range n).filter keep)[j]? with
  | none => rw [e] at h2; cases h2
  | some i =>
    rw [e] at h2
    cases h2
    exact k i y (h.at_ j i y h1 e)
theorem Got.vals {R : Nat → V → Hp → Prop} {keep : Nat → Bool} {n : Nat} {H : Hp} {ys : List V} (h : Got R keep n H ys) (f : Nat → V) (k : ∀ i y, R i y H → y = f i) : ys = ((List.range n).filter keep).map f := by
  refine List.ext_getElem? fun j => ?_
  rw [List.getElem?_map]
  cases e : ((List.range n).filter keep)[j]? with
  | none =>
    rw [List.getElem?_eq_none_iff] at e
    rw [List.getElem?_eq_none (by rw [h.len]; exact e)]
    rfl
  | some i =>
    have hj : j < ys.length := by
      rw [h.len]
      exact (List.getElem?_eq_some_iff.mp e).1
    rw [List.getElem?_eq_getElem hj]
    have := k i ys[j] (h.at_ j i _ (List.getElem?_eq_getElem hj) e)
    rw [this]
    rfl
/-- a list by its places -/
theorem filter_get {α : Type} (l : List α) (d : α) (q : α → Bool) : ((List.range l.length).filter fun i => q (l.getD i d)).map (fun i => l.getD i d) = l.filter q := by
  have h : ∀ (l : List α), (List.range l.length).map (fun i => l.getD i d) = l := fun l => by
    refine List.ext_getElem (by simp) fun i h1 h2 => ?_
    simp [h2]
  have e := congrArg (List.filter q) (h l)
  rw [List.filter_map] at e
  exact e
theorem by_places {α β : Type} (l : List α) (d : α) (f : α → β) : (List.range l.length).map (fun i => f (l.getD i d)) = l.map f := by
  refine List.ext_getElem (by simp) fun i h1 h2 => ?_
  have : i < l.length := by simpa using h1
  simp [this]
theorem all_kept (n : Nat) : (List.range n).filter (fun _ => true) = List.range n := List.filter_eq_self.mpr fun _ _ => rfl
theorem atI_getD {ns : List Int} {j : Nat} (h : j < ns.length) : atI (ns.map V.int) (j : Int) = some (.int (ns.getD j 0)) := atI_nat (by simp [h])
end Ws
/-! ## G2 -/
namespace Ws
open PySem PySem.Spec PyProof.Rows L2 LamX
local macro_rules | `(tactic| walk_at "nf") => `(tactic| dsimp only [tNext, tSeq, tDrop, tRet, tRetN, tIfS, tAsg, gName, gTup, gCons, gNil, tVar, tC, tOp, tUn, rI, rI0, rU, rEq, rNe, tTest, tChain, tAnd, tOr, tNot, tAndV, tOrV, tNotV, tIf, tCB, tCKw, tCons, tNil, tTup, tLst, tCa, tCallS, tB, rIxT, rIxL, rIxS, cxOf, Cx.nox, Cx.wish, Cx.blk, L2.start, tPar, tPar3, tNever, tYes, tBits, tRz, tBM, rAppend, tyV, tXf, suiteEnds, gSub, rSetL, tBreak, rMax, tDGet, sDPut, tSl, tNoPart, tPart, tDisp, tPairs, tDGet2, tDNewK])
local macro_rules | `(tactic| walk_at "sx") => `(tactic| simp only [wipe, List.cons.injEq, and_assoc, exists_and_left, and_true, List.map_cons, List.map_nil, List.length_cons, List.length_nil, List.cons_append, List.nil_append, List.append_nil, Nat.reduceAdd, Nat.reduceSub, List.replicate, List.getElem?_cons_zero, List.getElem?_cons_succ, List.set_cons_zero, List.set_cons_succ, Option.some.injEq, V.int.injEq, V.bl.injEq, V.ref.injEq, V.str.injEq, exists_eq_left', exists_eq_left, true_and, Bool.true_eq_false, Bool.false_eq_true, if_true, if_false])

/-! ### a def that makes lambdas; what stays while tables grow -/
structure DtC (K : PySem.W.Frag) (mg : Str → Option Value) (x : Str) (st : Stmt) (ps : List Str) (c : Addr) : Prop where
  ex : ∃ (f : Addr) (oc : Value) (od : Option Addr) (kV doc pm : Value) (an : Option Addr) (ct : Value) (osl : Array (Option Value)), K.lookup f = some ⟨oc, od, .func (PySem.W.fnOf x x (defArgs st) (defBody st) (defScope st) .none kV doc pm an (.ref c) ct), osl⟩ ∧
    PySem.W.codeIn K (.ref c) x = true ∧ PySem.W.keepIn K (.ref f) = true ∧ mg x = some (.ref f) ∧ Binds K (PySem.W.fnOf x x (defArgs st) (defBody st) (defScope st) .none kV doc pm an (.ref c) ct) ps []
theorem DtC.okG {P : Program} {w : World} {K : PySem.W.Frag} {mg : Str → Option Value} {base : Heap} {x : Str} {st : Stmt} {N ps : List Str} {c : Addr} {k : Nat} {sp : Sp} (D : DtC K mg x st ps c) (S : FnScope N ps (defScope st)) (len : ∀ vs H Q E, sp vs H Q E → vs.length = ps.length)
    (hbody : ∀ (f : Addr) (A : Around) (outer : List Env) (s : Shared) (H : Hp) (vs : List V) (Q : VK) (E : XK), A.guards = some [] → Room k (A.deeper (envOfC x (defScope st) s.heap.objs.size f (.ref c))) → sp vs H Q E →
      ∃ t, PSs (cxOf CX0 P w K mg base N x (defScope st) f (.ref c) A outer s H E).nox (defBody st) t ∧ t { nx := fun _ H' => Q .non H', rt := Q } (start N vs) H) : DfG P w K mg base CX0 (k + 1) x ps sp := by
  obtain ⟨f, oc, od, kV, doc, pm, an, ct, osl, lk, hcd, kp, m, b⟩ := D.ex
  refine ⟨f, _, fn_ofG lk hcd S len fun A outer s H vs Q E hg hr hsp => ?_, m, kp, b⟩
  obtain ⟨t, h, q⟩ := hbody f A outer s H vs Q E hg hr hsp
  exact ⟨t, h.nox, q⟩
theorem Same.extN {H H' : Hp} (e : Same H H') : ExtN H H' := ExtN.of e
section
variable {K : PySem.W.Frag} {H H' : Hp}
theorem seqTE {b : Addr} {xs : List V} (e : ExtN H H') (h : SqT K H b xs) : SqT K H' b xs := by
  rcases h with (h | ⟨o, h⟩) | h
  · exact .inl (.inl (e _ _ h (fun ps z => by cases z)))
  · exact .inl (.inr ⟨o, e _ _ h (fun ps z => by cases z)⟩)
  · exact .inr h
theorem seqLE {b : Addr} {xs : List V} (e : ExtN H H') (h : SqL K H b xs) : SqL K H' b xs := by
  rcases h with (h | ⟨o, h⟩) | h
  · exact .inl (.inl (e _ _ h (fun ps z => by cases z)))
  · exact .inl (.inr ⟨o, e _ _ h (fun ps z => by cases z)⟩)
  · exact .inr h
mutual
theorem Dp.ext (e : ExtN H H') : ∀ (d : PyData) (v : V), Dp K H v d → Dp K H' v d
  | .none, _, h => by cases h; exact .non
  | .bool b, _, h => by cases h; exact .bl b
  | .int i, _, h => by cases h; exact .int i
  | .str x, _, h => by cases h; exact .str x
  | .list ds, _, h => by
    cases h with
    | lst hs ha => exact .lst (seqLE e hs) (Dp.exts e ds _ ha)
  | .tuple ds, _, h => by
    cases h with
    | tup hs ha => exact .tup (seqTE e hs) (Dp.exts e ds _ ha)
  | .dict _, _, h => by cases h
theorem Dp.exts (e : ExtN H H') : ∀ (ds : List PyData) (vs : List V), DpAll K H vs ds → DpAll K H' vs ds
  | [], _, h => by cases h; exact .nil
  | d :: ds, _, h => by
    cases h with
    | cons h1 h2 => exact .cons (Dp.ext e d _ h1) (Dp.exts e ds _ h2)
end
theorem LSt.ext {a l c : Addr} {n : Nat} (h : LSt H a l c n) (e : ExtN H H') : LSt H' a l c n := by
  obtain ⟨cs, ls, m, h⟩ := h
  exact ⟨cs, ls, m, e _ _ h.top (fun ps z => by cases z), e _ _ h.cells (fun ps z => by cases z), e _ _ h.lefts (fun ps z => by cases z), h.len, h.pos, h.few, h.apart⟩
end
theorem Tabs.same {T : List (Addr × Str)} {H H' : Hp} (t : Tabs T H) (e : Same H H') : Tabs T H' := t.ext e

/-! ### written data: what an expression makes of it, lists that grow put aside -/
def hid (S : List Addr) (H : Hp) : Hp := fun a => if a ∈ S then none else H a
def Ev (T : List (Addr × Str)) (H H' : Hp) : Prop := ExtN H H' ∧ (Tabs T H → Tabs T H')
def Lsts (S : List Addr) (H : Hp) : Prop := ∀ a ∈ S, ∃ o, H a = some o ∧ ((∃ xs, o = .lst xs) ∨ ∃ kvs, o = .dK kvs)
theorem Ev.refl {T : List (Addr × Str)} (H : Hp) : Ev T H H := ⟨ExtN.refl H, fun t => t⟩
theorem Ev.trans {T : List (Addr × Str)} {H H1 H2 : Hp} (a : Ev T H H1) (b : Ev T H1 H2) : Ev T H H2 := ⟨a.1.trans b.1, fun t => b.2 (a.2 t)⟩
theorem Ev.of {T : List (Addr × Str)} {H H1 : Hp} (e : Same H H1) : Ev T H H1 := ⟨Same.extN e, fun t => Tabs.same t e⟩
theorem Ev.new {T : List (Addr × Str)} {H : Hp} {p : Addr} {o : HO} (h : H p = none) : Ev T H (upd H p o) := Ev.of (Same.new h)
theorem Ev.lsts {T : List (Addr × Str)} {S : List Addr} {H H1 : Hp} (e : Ev T H H1) (h : Lsts S H) : Lsts S H1 := fun a m => by
  obtain ⟨o, q, z⟩ := h a m
  refine ⟨o, e.1 _ _ q (fun ps y => ?_), z⟩
  subst y
  rcases z with ⟨_, z⟩ | ⟨_, z⟩ <;> cases z
theorem hid_ext {S : List Addr} {H H1 : Hp} (e : ExtN H H1) : ExtN (hid S H) (hid S H1) := fun b o h n => by
  unfold hid at h ⊢
  split at h
  · cases h
  · rename_i m
    rw [if_neg m]
    exact e b o h n
theorem hid_out {S : List Addr} {H : Hp} : ExtN (hid S H) H := fun b o h n => by
  unfold hid at h
  split at h
  · cases h
  · exact h
theorem hid_nil (H : Hp) : hid [] H = H := funext fun a => by simp [hid]
theorem hid_upd {S : List Addr} {H : Hp} {p : Addr} {o : HO} (m : p ∈ S) : hid S (upd H p o) = hid S H := funext fun a => by
  unfold hid
  split
  · rfl
  · rename_i n
    exact upd_ne (fun z => n (z ▸ m))
theorem hid_more {S : List Addr} {H : Hp} {q : Addr} {o : HO} (h : H q = none) : ExtN (hid S H) (hid (q :: S) (upd H q o)) := fun b u hb n => by
  unfold hid at hb ⊢
  split at hb
  · cases hb
  · rename_i m
    have nb : b ≠ q := fun z => by rw [z, h] at hb; cases hb
    rw [if_neg (by simp only [List.mem_cons, not_or]; exact ⟨nb, m⟩), upd_ne nb]
    exact hb
theorem hid_sub {S R : List Addr} {H : Hp} (h : ∀ a ∈ R, a ∈ S) : ExtN (hid S H) (hid R H) := fun b u hb n => by
  unfold hid at hb ⊢
  split at hb
  · cases hb
  · rename_i m
    rw [if_neg fun z => m (h b z)]
    exact hb
section
variable {K : PySem.W.Frag} {S : List Addr}
theorem seqT_hid {H : Hp} {b : Addr} {xs : List V} (l : Lsts S H) (h : SqT K H b xs) : SqT K (hid S H) b xs := by
  have off : ∀ o, H b = some o → (∀ ys, o ≠ .lst ys) → (∀ ys, o ≠ .dK ys) → hid S H b = some o := fun o e n n2 => by
    unfold hid
    rw [if_neg fun m => by
      obtain ⟨u, q, z⟩ := l b m
      rw [e] at q
      obtain rfl := Option.some.inj q
      rcases z with ⟨_, z⟩ | ⟨_, z⟩
      · exact n _ z
      · exact n2 _ z]
    exact e
  rcases h with (h | ⟨o, h⟩) | h
  · exact .inl (.inl (off _ h (fun ys z => by cases z) (fun ys z => by cases z)))
  · exact .inl (.inr ⟨o, off _ h (fun ys z => by cases z) (fun ys z => by cases z)⟩)
  · exact .inr h
mutual
theorem Dp.hid {H : Hp} (l : Lsts S H) : ∀ (d : PyData) (v : V), noList d = true → Dp K H v d → Dp K (Ws.hid S H) v d
  | .none, _, _, h => by cases h; exact .non
  | .bool b, _, _, h => by cases h; exact .bl b
  | .int i, _, _, h => by cases h; exact .int i
  | .str x, _, _, h => by cases h; exact .str x
  | .list ds, _, n, h => by cases n
  | .tuple ds, _, n, h => by
    cases h with
    | tup hs ha => exact .tup (seqT_hid l hs) (Dp.hids l ds _ n ha)
  | .dict _, _, _, h => by cases h
theorem Dp.hids {H : Hp} (l : Lsts S H) : ∀ (ds : List PyData) (vs : List V), noListAll ds = true → DpAll K H vs ds → DpAll K (Ws.hid S H) vs ds
  | [], _, _, h => by cases h; exact .nil
  | d :: ds, _, n, h => by
    cases h with
    | cons h1 h2 => exact .cons (Dp.hid l d _ (Bool.and_eq_true_iff.mp n).1 h1) (Dp.hids l ds _ (Bool.and_eq_true_iff.mp n).2 h2)
end
theorem _root_.L2.Dp.out {H : Hp} {v : V} {d : PyData} (h : Dp K (Ws.hid S H) v d) : Dp K H v d := Dp.ext hid_out d v h
theorem _root_.L2.Dp.ev {T : List (Addr × Str)} {H H1 : Hp} {v : V} {d : PyData} (h : Dp K (Ws.hid S H) v d) (e : Ev T H H1) : Dp K (Ws.hid S H1) v d := Dp.ext (hid_ext e.1) d v h
theorem Dp.evs {T : List (Addr × Str)} {H H1 : Hp} {v : List V} {d : List PyData} (h : DpAll K (Ws.hid S H) v d) (e : Ev T H H1) : DpAll K (Ws.hid S H1) v d := Dp.exts (hid_ext e.1) d v h
theorem nws {H : Hp} {v : List V} {d : List PyData} {p : Addr} {o : HO} (h : DpAll K (Ws.hid S H) v d) (hp : H p = none) : DpAll K (Ws.hid S (upd H p o)) v d := Dp.evs h (Ev.new (T := []) hp)
end
section
variable {K : PySem.W.Frag}
theorem _root_.L2.DpAll.two {H : Hp} {vs : List V} {d e : PyData} (h : DpAll K H vs [d, e]) : ∃ v u, vs = [v, u] ∧ Dp K H v d ∧ Dp K H u e := by
  cases h with
  | cons h1 h2 =>
    cases h2 with
    | cons h3 h4 =>
      cases h4
      exact ⟨_, _, rfl, h1, h3⟩
theorem _root_.L2.DpAll.three {H : Hp} {vs : List V} {d e f : PyData} (h : DpAll K H vs [d, e, f]) : ∃ v u z, vs = [v, u, z] ∧ Dp K H v d ∧ Dp K H u e ∧ Dp K H z f := by
  cases h with
  | cons h1 h2 =>
    obtain ⟨v, u, rfl, h3, h4⟩ := h2.two
    exact ⟨_, _, _, rfl, h1, h3, h4⟩
theorem _root_.L2.DpAll.one' {H : Hp} {vs : List V} {d : PyData} (h : DpAll K H vs [d]) : ∃ v, vs = [v] ∧ Dp K H v d := by
  cases h with
  | cons h1 h2 =>
    cases h2
    exact ⟨_, rfl, h1⟩
end
section
variable (K : PySem.W.Frag) (S : List Addr) (T : List (Addr × Str))
/-- te makes the data d -/
def DE (te : TE) (σ : L2.St) (H : Hp) (d : PyData) : Prop := ∀ H1, Ev T H H1 → Lsts S H1 → Tabs T H1 → ∀ Q : VK, (∀ H' v, Ev T H1 H' → Dp K (hid S H') v d → Q v H') → te σ H1 Q
def DEs (ta : TA) (σ : L2.St) (H : Hp) (ds : List PyData) : Prop := ∀ H1, Ev T H H1 → Lsts S H1 → Tabs T H1 → ∀ Q : List V → Hp → Prop, (∀ H' vs, Ev T H1 H' → DpAll K (hid S H') vs ds → Q vs H') → ta σ H1 Q
/-- te makes a new list of the data ds -/
def LE (te : TE) (σ : L2.St) (H : Hp) (ds : List PyData) : Prop := ∀ H1, Ev T H H1 → Lsts S H1 → Tabs T H1 → ∀ Q : VK, (∀ H2 p ys, Ev T H1 H2 → H2 p = none → DpAll K (hid S H2) ys ds → Q (.ref p) (upd H2 p (.lst ys))) → te σ H1 Q
/-- te tells a list of the data ds -/
def RE (te : TE) (σ : L2.St) (H : Hp) (ds : List PyData) : Prop := ∀ H1, Ev T H H1 → Lsts S H1 → Tabs T H1 → ∀ Q : VK, (∀ H' a ys, Ev T H1 H' → H' a = some (.lst ys) → DpAll K (hid S H') ys ds → Q (.ref a) H') → te σ H1 Q
end
section
variable {K : PySem.W.Frag} {S : List Addr} {T : List (Addr × Str)} {te ta tb : TE} {tas : TA} {σ : L2.St} {H : Hp} {d : PyData} {ds es : List PyData}
theorem DE.to {H1 : Hp} (h : DE K S T te σ H d) (e : Ev T H H1) : DE K S T te σ H1 d := fun H2 e2 => h H2 (e.trans e2)
theorem DEs.to {H1 : Hp} (h : DEs K S T tas σ H ds) (e : Ev T H H1) : DEs K S T tas σ H1 ds := fun H2 e2 => h H2 (e.trans e2)
theorem DE.int {i : Int} : DE K S T (tC (.int i)) σ H (.int i) := fun H1 _ _ _ Q q => q H1 _ (Ev.refl _) (.int i)
theorem DE.str {x : Str} : DE K S T (tC (.str x)) σ H (.str x) := fun H1 _ _ _ Q q => q H1 _ (Ev.refl _) (.str x)
theorem DE.bl {b : Bool} : DE K S T (tC (.bl b)) σ H (.bool b) := fun H1 _ _ _ Q q => q H1 _ (Ev.refl _) (.bl b)
theorem DE.non : DE K S T (tC .non) σ H .none := fun H1 _ _ _ Q q => q H1 _ (Ev.refl _) .non
theorem DE.var {i : Nat} {v : V} (h : σ[i]? = some (some v)) (hd : Dp K (hid S H) v d) : DE K S T (tVar i) σ H d := fun H1 e _ _ Q q => ⟨v, h, q H1 v (Ev.refl _) (hd.ev e)⟩
theorem DE.eq {d' : PyData} (h : DE K S T te σ H d) (e : d = d') : DE K S T te σ H d' := e ▸ h
theorem DEs.nil : DEs K S T tNil σ H [] := fun H1 _ _ _ Q q => q H1 [] (Ev.refl _) .nil
theorem DEs.cons (a : DE K S T te σ H d) (b : DEs K S T tas σ H ds) : DEs K S T (tCons te tas) σ H (d :: ds) := fun H1 e l t Q q =>
  a H1 e l t _ fun H2 v e2 hv => b H2 (e.trans e2) (e2.lsts l) (e2.2 t) _ fun H3 vs e3 hs => q H3 (v :: vs) (e2.trans e3) (.cons (hv.ev e3) hs)
theorem DEs.one (a : DE K S T te σ H d) : DEs K S T (tCons te tNil) σ H [d] := DEs.cons a .nil
theorem DE.tup (a : DEs K S T tas σ H ds) (hl : ds.length ≤ 1000 := by exact Nat.le_of_ble_eq_true rfl) : DE K S T (tTup tas) σ H (.tuple ds) := fun H1 e l t Q q =>
  a H1 e l t _ fun H2 vs e2 hs => ⟨by rw [hs.length, sizeLine_eq]; omega, fun p hp => q _ _ (e2.trans (Ev.new hp)) (by
    have l3 := (e2.trans (Ev.new (o := .tup vs) hp)).lsts l
    exact .tup (seqT_hid l3 (.of upd_same)) (nws hs hp))⟩
theorem LE.lst (a : DEs K S T tas σ H ds) (hl : ds.length ≤ 1000 := by exact Nat.le_of_ble_eq_true rfl) : LE K S T (tLst tas) σ H ds := fun H1 e l t Q q =>
  a H1 e l t _ fun H2 vs e2 hs => ⟨by rw [hs.length, sizeLine_eq]; omega, fun p hp => q H2 p vs e2 hp hs⟩
theorem LE.to {H1 : Hp} (h : LE K S T te σ H ds) (e : Ev T H H1) : LE K S T te σ H1 ds := fun H2 e2 => h H2 (e.trans e2)
theorem LE.re (h : LE K S T te σ H ds) : RE K S T te σ H ds := fun H1 e l t Q q => h H1 e l t Q fun H2 p ys e2 hp hs => q _ p ys (e2.trans (Ev.new hp)) upd_same (nws hs hp)
theorem RE.var {i : Nat} {a : Addr} {ys : List V} (h : σ[i]? = some (some (.ref a))) (ha : H a = some (.lst ys)) (hd : DpAll K (hid S H) ys ds) : RE K S T (tVar i) σ H ds := fun H1 e _ _ Q q =>
  ⟨_, h, q H1 a ys (Ev.refl _) (e.1 _ _ ha (fun ps z => by cases z)) (Dp.evs hd e)⟩
theorem LE.cat (a : RE K S T ta σ H ds) (b : RE K S T tb σ H es) (hl : ds.length + es.length ≤ 1000 := by exact Nat.le_of_ble_eq_true rfl) : LE K S T (tOp rCat ta tb) σ H (ds ++ es) := fun H1 e l t Q q =>
  a H1 e l t _ fun H2 x xs e2 hx hxs => b H2 (e.trans e2) (e2.lsts l) (e2.2 t) _ fun H3 y zs e3 hy hys =>
    ⟨x, y, xs, zs, rfl, rfl, e3.1 _ _ hx (fun ps z => by cases z), hy, by rw [hxs.length, hys.length, sizeLine_eq]; omega, fun p hp => q H3 p _ (e2.trans e3) hp ((Dp.evs hxs e3).append hys)⟩
theorem LE.rep {k : Int} (a : RE K S T ta σ H ds) (b : DE K S T tb σ H (.int k)) (h1 : -(2 ^ 63) ≤ k := by decide) (h2 : k < 2 ^ 63 := by decide) (hl : ds.length * k.toNat ≤ 1000 := by decide) : LE K S T (tOp rRep ta tb) σ H (List.replicate k.toNat ds).flatten := fun H1 e l t Q q =>
  a H1 e l t _ fun H2 x xs e2 hx hxs => b H2 (e.trans e2) (e2.lsts l) (e2.2 t) _ fun H3 y e3 hy => by
    obtain rfl := hy.int_inv
    exact ⟨x, k, xs, rfl, rfl, e3.1 _ _ hx (fun ps z => by cases z), h1, h2, by rw [hxs.length, sizeLine_eq]; omega, fun p hp => q H3 p _ (e2.trans e3) hp (by
      have h3 := Dp.evs hxs e3
      induction k.toNat with
      | zero => exact .nil
      | succ n ih => rw [List.replicate_succ, List.replicate_succ, List.flatten_cons, List.flatten_cons]; exact h3.append ih)⟩
theorem DE.lst (a : LE K S T te σ H ds) : DE K S T te σ H (.list ds) := fun H1 e l t Q q => a H1 e l t Q fun H2 p ys e2 hp hs => q _ _ (e2.trans (Ev.new hp)) (by
  refine .lst (.of ?_) (nws hs hp)
  unfold Ws.hid
  rw [if_neg fun m => by
    obtain ⟨o, z, _⟩ := e2.lsts l _ m
    rw [hp] at z
    cases z]
  exact upd_same)
theorem DE.op0 {g : Int → Int → V} {i j k : Int} (a : DE K S T ta σ H (.int i)) (b : DE K S T tb σ H (.int j)) (hg : g i j = .int k) : DE K S T (tOp (rI0 g) ta tb) σ H (.int k) := fun H1 e l t Q q =>
  a H1 e l t _ fun H2 x e2 hx => b H2 (e.trans e2) (e2.lsts l) (e2.2 t) _ fun H3 y e3 hy => by
    obtain rfl := hx.int_inv
    obtain rfl := hy.int_inv
    exact ⟨i, j, rfl, rfl, by rw [hg]; exact q H3 _ (e2.trans e3) (.int k)⟩
theorem DE.opC {C : Int → Int → Prop} {g : Int → Int → V} {i j k : Int} (a : DE K S T ta σ H (.int i)) (b : DE K S T tb σ H (.int j)) (hc : C i j) (hg : g i j = .int k) : DE K S T (tOp (rI C g) ta tb) σ H (.int k) := fun H1 e l t Q q =>
  a H1 e l t _ fun H2 x e2 hx => b H2 (e.trans e2) (e2.lsts l) (e2.2 t) _ fun H3 y e3 hy => by
    obtain rfl := hx.int_inv
    obtain rfl := hy.int_inv
    exact ⟨i, j, rfl, rfl, hc, by rw [hg]; exact q H3 _ (e2.trans e3) (.int k)⟩
theorem DE.un {g : Int → V} {i k : Int} (a : DE K S T ta σ H (.int i)) (hg : g i = .int k) : DE K S T (tUn (rU g) ta) σ H (.int k) := fun H1 e l t Q q =>
  a H1 e l t _ fun H2 x e2 hx => by
    obtain rfl := hx.int_inv
    exact ⟨i, rfl, by rw [hg]; exact q H2 _ e2 (.int k)⟩
theorem DE.repT {k : Int} (a : DE K S T ta σ H (.tuple ds)) (b : DE K S T tb σ H (.int k)) (h0 : ds ≠ [] := by decide) (h1 : 2 ≤ k := by decide) (h2 : k ≤ 1000 := by decide) (hl : ds.length ≤ 1000 := by exact Nat.le_of_ble_eq_true rfl) : DE K S T (tOp (rRepT K) ta tb) σ H (.tuple (List.replicate k.toNat ds).flatten) := fun H1 e l t Q q =>
  a H1 e l t _ fun H2 x e2 hx => b H2 (e.trans e2) (e2.lsts l) (e2.2 t) _ fun H3 y e3 hy => by
    obtain rfl := hy.int_inv
    obtain ⟨p, xs, rfl, hs, hxs⟩ := hx.tup_inv
    have hxs2 := Dp.evs hxs e3
    have hn : xs ≠ [] := fun z => h0 (by subst z; cases hxs; rfl)
    refine ⟨p, k, xs, rfl, rfl, seqTE e3.1 (seqTE hid_out hs), hn, h1, h2, by rw [hxs.length]; exact hl, fun r hr => q _ _ ((e2.trans e3).trans (Ev.new hr)) ?_⟩
    refine .tup (seqT_hid (((e2.trans e3).trans (Ev.new hr)).lsts l) (.of upd_same)) (nws ?_ hr)
    induction k.toNat with
    | zero => exact .nil
    | succ n ih => rw [List.replicate_succ, List.replicate_succ, List.flatten_cons, List.flatten_cons]; exact hxs2.append ih
end
/-! ### lists that grow -/
def adr (L : List (Addr × List PyData)) (X : List Addr) : List Addr := L.map (·.1) ++ X
structure LsS (K : PySem.W.Frag) (T : List (Addr × Str)) (X : List Addr) (L : List (Addr × List PyData)) (H : Hp) : Prop where
  tabs : Tabs T H
  nd : (L.map (·.1)).Nodup
  off : Lsts X H
  apart : ∀ a ∈ L.map (·.1), a ∉ X
  at_ : ∀ x ∈ L, ∃ ys, H x.1 = some (.lst ys) ∧ DpAll K (hid (adr L X) H) ys x.2
theorem Tabs.put {T : List (Addr × Str)} {H : Hp} {p : Addr} {xs : List V} {o : HO} (t : Tabs T H) (h : H p = some (.lst xs)) : Tabs T (upd H p o) := fun x hx => by
  obtain ⟨ps, h1, h2, h3⟩ := t x hx
  refine ⟨ps, by rw [upd_ne (fun z => by rw [z, h] at h1; cases h1)]; exact h1, h2, fun pos cv hc => ?_⟩
  obtain ⟨c, e1, e2⟩ := h3 pos cv hc
  exact ⟨c, e1, by rw [upd_ne (fun z => by rw [z, h] at e2; cases e2)]; exact e2⟩
section
variable {K : PySem.W.Frag} {T : List (Addr × Str)} {X : List Addr} {L : List (Addr × List PyData)} {H : Hp}
theorem LsS.lsts (h : LsS K T X L H) : Lsts (adr L X) H := fun a m => by
  rcases List.mem_append.mp m with m | m
  · obtain ⟨x, hx, rfl⟩ := List.mem_map.mp m
    obtain ⟨ys, q, _⟩ := h.at_ x hx
    exact ⟨_, q, .inl ⟨ys, rfl⟩⟩
  · exact h.off a m
theorem LsS.nil (t : Tabs T H) (o : Lsts X H) : LsS K T X [] H := ⟨t, List.nodup_nil, o, (fun a h => by cases h), fun x hx => by cases hx⟩
theorem LsS.ev {H1 : Hp} (h : LsS K T X L H) (e : Ev T H H1) : LsS K T X L H1 := ⟨e.2 h.tabs, h.nd, e.lsts h.off, h.apart, fun x hx => by
  obtain ⟨ys, q, d⟩ := h.at_ x hx
  exact ⟨ys, e.1 _ _ q (fun ps z => by cases z), Dp.evs d e⟩⟩
theorem LsS.new {p : Addr} {ys : List V} {ds : List PyData} (h : LsS K T X L H) (hp : H p = none) (hd : DpAll K (hid (adr L X) H) ys ds) : LsS K T X ((p, ds) :: L) (upd H p (.lst ys)) := by
  have e := hid_more (S := adr L X) (o := .lst ys) hp
  have np : p ∉ adr L X := fun m => by
    obtain ⟨o, q, _⟩ := h.lsts p m
    rw [hp] at q
    cases q
  refine ⟨(Ev.new hp).2 h.tabs, ?_, Ev.lsts (T := T) (Ev.new hp) h.off, ?_, fun x hx => ?_⟩
  · rw [List.map_cons, List.nodup_cons]
    exact ⟨fun m => np (List.mem_append.mpr (.inl m)), h.nd⟩
  · intro a m
    rcases List.mem_cons.mp m with rfl | m
    · exact fun z => np (List.mem_append.mpr (.inr z))
    · exact h.apart a m
  · rcases List.mem_cons.mp hx with rfl | hx
    · exact ⟨ys, upd_same, Dp.exts e _ _ hd⟩
    · obtain ⟨zs, q, d⟩ := h.at_ x hx
      exact ⟨zs, by rw [upd_ne (fun z => by rw [z, hp] at q; cases q)]; exact q, Dp.exts e _ _ d⟩
/-- the list at the place k has one more item -/
theorem LsS.app {k : Nat} {p : Addr} {ds : List PyData} {u : V} {d : PyData} {ys : List V} (h : LsS K T X L H) (hk : L[k]? = some (p, ds)) (hp : H p = some (.lst ys)) (hu : Dp K (hid (adr L X) H) u d) : LsS K T X (L.set k (p, ds ++ [d])) (upd H p (.lst (ys ++ [u]))) := by
  have hlt := (List.getElem?_eq_some_iff.mp hk).1
  have hm : p ∈ L.map (·.1) := List.mem_map.mpr ⟨_, List.mem_of_getElem? hk, rfl⟩
  have hm2 : p ∈ adr L X := List.mem_append.mpr (.inl hm)
  have em : (L.set k (p, ds ++ [d])).map (·.1) = L.map (·.1) := by
    rw [List.map_set]
    refine List.ext_getElem? fun n => ?_
    rw [List.getElem?_set]
    split
    · rename_i z
      subst z
      rw [List.getElem?_map, hk]
      simp [hlt]
    · rfl
  have eh : hid (adr L X) (upd H p (.lst (ys ++ [u]))) = hid (adr L X) H := hid_upd hm2
  have em2 : adr (L.set k (p, ds ++ [d])) X = adr L X := by unfold adr; rw [em]
  refine ⟨Tabs.put h.tabs hp, by rw [em]; exact h.nd, fun a ha => ?_, by rw [em]; exact h.apart, fun x hx => ?_⟩
  · obtain ⟨o, q, z⟩ := h.off a ha
    exact ⟨o, by rw [upd_ne (fun w : a = p => h.apart p hm (by rw [← w]; exact ha))]; exact q, z⟩
  rw [em2, eh]
  obtain ⟨n, hn⟩ := List.mem_iff_getElem?.mp hx
  rw [List.getElem?_set] at hn
  split at hn
  · rename_i z
    subst z
    obtain rfl := Option.some.inj hn
    obtain ⟨zs, q, dd⟩ := h.at_ _ (List.mem_of_getElem? hk)
    rw [hp] at q
    obtain rfl : ys = zs := HO.lst.inj (Option.some.inj q)
    exact ⟨_, upd_same, dd.append (.cons hu .nil)⟩
  · rename_i z
    have hx2 := List.mem_of_getElem? hn
    obtain ⟨zs, q, dd⟩ := h.at_ x hx2
    have ne : x.1 ≠ p := fun w => by
      have n1 : (L.map (·.1))[k]? = some p := by rw [List.getElem?_map, hk]; rfl
      have n2 : (L.map (·.1))[n]? = some p := by rw [List.getElem?_map, hn, ← w]; rfl
      have l1 := (List.getElem?_eq_some_iff.mp n1).1
      exact z ((List.getElem?_inj l1 h.nd).mp (n1.trans n2.symm))
    exact ⟨zs, by rw [upd_ne ne]; exact q, dd⟩
theorem st_app {k i : Nat} {p : Addr} {ds : List PyData} {d : PyData} {te : TE} {D : Ends} {σ : L2.St} (h : LsS K T X L H) (hi : σ[i]? = some (some (.ref p))) (hk : L[k]? = some (p, ds)) (hl : ds.length ≤ 100000) (hd : DE K (adr L X) T te σ H d)
    (q : ∀ H', LsS K T X (L.set k (p, ds ++ [d])) H' → ExtN (hid (adr L X) H) (hid (adr L X) H') → D.nx σ H') : tDrop (tBM K "list" rAppend (tVar i) (tCons te tNil)) D σ H := by
  obtain ⟨ys, hp, hys⟩ := h.at_ _ (List.mem_of_getElem? hk)
  refine ⟨_, hi, .inl ⟨rfl, ys, .of hp⟩, hd H (Ev.refl H) h.lsts h.tabs _ fun H' u e hu => ?_⟩
  have hp2 := e.1 _ _ hp (fun ps z => by cases z)
  have hy := hys.length
  refine ⟨p, ys, u, rfl, rfl, hp2, by rw [hy, sizeLine_eq]; show ds.length < _; omega, q _ ((h.ev e).app hk hp2 hu) ?_⟩
  have hm3 : p ∈ adr L X := List.mem_append.mpr (.inl (List.mem_map.mpr ⟨(p, ds), List.mem_of_getElem? hk, rfl⟩))
  rw [hid_upd hm3]
  exact hid_ext e.1
theorem for_de {S : List Addr} {bads : List PyData} {te : TE} {tb : TS} {k : Nat} {D : Ends} {σ : L2.St} (hde : DE K S T te σ H (.tuple bads)) (l : Lsts S H) (t : Tabs T H) (Pv : Nat → L2.St → Hp → Prop)
    (h0 : ∀ H', Ev T H H' → Pv 0 σ H')
    (hs : ∀ H0 i x σ H, i < bads.length → Pv i σ H → ExtN (hid S H0) (hid S H) → Dp K (hid S H) x (bads.getD i .none) → tb { D with nx := fun σ' H' => Pv (i + 1) σ' H' ∧ ExtN (hid S H0) (hid S H'), ct := fun σ' H' => Pv (i + 1) σ' H' ∧ ExtN (hid S H0) (hid S H'), bk := D.nx } (σ.set k (some x)) H)
    (hd : ∀ σ H, Pv bads.length σ H → D.nx σ H) : tFor (iTup K te) (gName k) tb D σ H := by
  refine hde H (Ev.refl H) l t _ fun H0 v e hv => ?_
  obtain ⟨a, xs, rfl, ha, hxs⟩ := hv.tup_inv
  have hn := hxs.length
  refine ⟨a, rfl, ⟨xs, seqTE hid_out ha⟩, for_tup (xs := xs) (fun i σ H => Pv i σ H ∧ ExtN (hid S H0) (hid S H)) ⟨h0 H0 e, ExtN.refl _⟩ (fun i σ H _ p => seqTE hid_out (seqTE p.2 ha)) (fun i x σ H hx p => ?_) (fun σ H p => hd σ H (by rw [← hn]; exact p.1))⟩
  have hi : i < bads.length := by rw [← hn]; exact (List.getElem?_eq_some_iff.mp hx).1
  obtain ⟨y, hy, _, hdy⟩ := hxs.at_ hi
  rw [hx] at hy
  obtain rfl := Option.some.inj hy
  exact hs H0 i x σ H hi p.1 p.2 (Dp.ext p.2 _ _ hdy)
end
section
variable {K : PySem.W.Frag} {T : List (Addr × Str)} {X : List Addr} {L : List (Addr × List PyData)} {H : Hp} {te : TE} {D : Ends} {σ : L2.St} {ds : List PyData} {d : PyData}
theorem seqI {t u : TS} (h : t { D with nx := u D } σ H) : tSeq t u D σ H := h
theorem st_new {i : Nat} (h : LsS K T X L H) (hd : LE K (adr L X) T te σ H ds) (q : ∀ H' p, LsS K T X ((p, ds) :: L) H' → ExtN (hid (adr L X) H) (hid (p :: adr L X) H') → D.nx (σ.set i (some (.ref p))) H') : tAsg te (gName i) D σ H :=
  hd H (Ev.refl H) h.lsts h.tabs _ fun H2 p ys e hp hs => q _ p ((h.ev e).new hp hs) ((hid_ext e.1).trans (hid_more hp))
theorem st_val {i : Nat} (h : LsS K T X L H) (hd : DE K (adr L X) T te σ H d) (q : ∀ H' v, LsS K T X L H' → ExtN (hid (adr L X) H) (hid (adr L X) H') → Dp K (hid (adr L X) H') v d → D.nx (σ.set i (some v)) H') : tAsg te (gName i) D σ H :=
  hd H (Ev.refl H) h.lsts h.tabs _ fun H2 v e hv => q H2 v (h.ev e) (hid_ext e.1) hv
theorem sq_new {i : Nat} {u : TS} (h : LsS K T X L H) (hd : LE K (adr L X) T te σ H ds) (q : ∀ H' p, LsS K T X ((p, ds) :: L) H' → ExtN (hid (adr L X) H) (hid (p :: adr L X) H') → u D (σ.set i (some (.ref p))) H') : tSeq (tAsg te (gName i)) u D σ H := st_new (D := { D with nx := u D }) h hd q
theorem sq_val {i : Nat} {u : TS} (h : LsS K T X L H) (hd : DE K (adr L X) T te σ H d) (q : ∀ H' v, LsS K T X L H' → ExtN (hid (adr L X) H) (hid (adr L X) H') → Dp K (hid (adr L X) H') v d → u D (σ.set i (some v)) H') : tSeq (tAsg te (gName i)) u D σ H := st_val (D := { D with nx := u D }) h hd q
theorem sq_app {k i : Nat} {p : Addr} {u : TS} (h : LsS K T X L H) (hi : σ[i]? = some (some (.ref p))) (hk : L[k]? = some (p, ds)) (hl : ds.length ≤ 100000) (hd : DE K (adr L X) T te σ H d)
    (q : ∀ H', LsS K T X (L.set k (p, ds ++ [d])) H' → ExtN (hid (adr L X) H) (hid (adr L X) H') → u D σ H') : tSeq (tDrop (tBM K "list" rAppend (tVar i) (tCons te tNil))) u D σ H := st_app (D := { D with nx := u D }) h hi hk hl hd q
theorem sq_for {S : List Addr} {bads : List PyData} {tb u : TS} {k : Nat} (hde : DE K S T te σ H (.tuple bads)) (l : Lsts S H) (t : Tabs T H) (Pv : Nat → L2.St → Hp → Prop)
    (h0 : ∀ H', Ev T H H' → Pv 0 σ H')
    (hs : ∀ (D : Ends) H0 i x σ H, i < bads.length → Pv i σ H → ExtN (hid S H0) (hid S H) → Dp K (hid S H) x (bads.getD i .none) → (∀ σ' H', Pv (i + 1) σ' H' ∧ ExtN (hid S H0) (hid S H') → D.nx σ' H') → tb D (σ.set k (some x)) H)
    (hd : ∀ σ H, Pv bads.length σ H → u D σ H) : tSeq (tFor (iTup K te) (gName k) tb) u D σ H :=
  for_de (D := { D with nx := u D }) hde l t Pv h0 (fun H0 i x σ H hi p e hx => hs _ H0 i x σ H hi p e hx fun _ _ z => z) hd
theorem take_snoc {bads : List PyData} {i : Nat} (f : PyData → PyData) (h : i < bads.length) : (bads.take (i + 1)).map f = (bads.take i).map f ++ [f (bads.getD i .none)] := by
  rw [List.take_succ_eq_append_getElem h, List.map_append]
  simp [h]
theorem LsS.dp {k : Nat} {p : Addr} (h : LsS K T X L H) (hk : L[k]? = some (p, ds)) : Dp K H (.ref p) (.list ds) := by
  obtain ⟨ys, hp, hd⟩ := h.at_ _ (List.mem_of_getElem? hk)
  exact .lst (.of hp) (Dp.exts hid_out _ _ hd)
theorem LsS.re {k i : Nat} {p : Addr} (h : LsS K T X L H) (hk : L[k]? = some (p, ds)) (hi : σ[i]? = some (some (.ref p))) : RE K (adr L X) T (tVar i) σ H ds := by
  obtain ⟨ys, hp, hd⟩ := h.at_ _ (List.mem_of_getElem? hk)
  exact RE.var hi hp hd
end
/-! ### a comprehension of data without lists whose items draw -/
theorem lcN {K : PySem.W.Frag} {J : It} {n : Nat} {G : Hp → Prop} {Y : Nat → Hp → V → Hp → Prop} (w : Walk J n G Y) {g : TG} {te : TE} {vs : List Nat} {σ : L2.St} {H1 : Hp} {D : Addr} {Qd : Hp → Prop} {a l c : Addr} {m : Nat} (st : Nat) (hD : H1 D = none) (hn : n < sizeLine) (P : Nat → PyData → Prop) (hP : ∀ i d, P i d → noList d = true)
    (hl : LSt H1 a l c m) (hG : ∀ H, Sbt a l H1 H → G H)
    (hs : ∀ i x H H' (Q : VK), i < n → Sbt a l H1 H → LSt H a l c (m + i * st) → Y i H x H' → (∀ y H4 d, P i d → Dp K H4 y d → Sbt a l H H4 → LSt H4 a l c (m + (i + 1) * st) → Q y H4) → g x (wipe σ vs) H' fun σ2 H2 => wipe σ2 vs = wipe σ vs ∧ te σ2 H2 Q)
    (hd : ∀ H ys ds, Sbt a l H1 H → LSt H a l c (m + n * st) → H D = some (.lst ys) → DpAll K H ys ds → ds.length = n → (∀ i d, ds[i]? = some d → P i d) → noListAll ds = true → Qd H) :
    ∃ W : Nat → Nat → Hp → Prop, (∃ m, W 0 m (upd H1 D (.lst []))) ∧ ∀ i m H, W i m H →
      (J.stop i H ∧ Qd H) ∨ (J.go i H ∧ ∃ Nx : Hp → Prop, (∀ H', Nx H' → ∃ m', m' < m ∧ W (i + 1) m' H') ∧ ∀ x H', J.yld i H x H' → g x (wipe σ vs) H' fun σ2 H2 => wipe σ2 vs = wipe σ vs ∧ tYes σ2 H2 fun b H3 =>
        if b = true then te σ2 H3 fun y H4 => ∃ acc, H4 D = some (.lst acc) ∧ acc.length < sizeLine ∧ Nx (upd H4 D (.lst (acc ++ [y]))) else Nx H3) := by
  obtain ⟨da, dl, dc⟩ := hl.off hD
  let Pv : Nat → Hp → Prop := fun i H => Sbt a l H1 H ∧ LSt H a l c (m + i * st) ∧ ∃ ys ds, H D = some (.lst ys) ∧ DpAll K H ys ds ∧ ds.length = i ∧ ∀ j d, ds[j]? = some d → P j d
  have nl : ∀ {ds : List PyData}, (∀ j d, ds[j]? = some d → P j d) → noListAll ds = true := fun {ds} h => noListAll_of fun x hx => by
    obtain ⟨j, hj⟩ := List.mem_iff_getElem?.mp hx
    exact hP j x (h j x hj)
  refine lc_it w Pv ⟨(Sbt.refl H1).mut hD, by rw [Nat.zero_mul]; exact hl.new hD, [], [], upd_same, .nil, rfl, fun j y h => by simp at h⟩ (fun i H _ p => hG H p.1) (fun i x H H' hi p y => ?_) (fun H p => ?_)
  · obtain ⟨s, sl, ys, ds, hy, ha, hlen, hr⟩ := p
    have q := hs i x H H' (fun y H4 => ∃ acc, H4 D = some (.lst acc) ∧ acc.length < sizeLine ∧ Pv (i + 1) (upd H4 D (.lst (acc ++ [y])))) hi s sl y (fun v H4 d r hv s4 sl4 => ?_)
    · have e : (fun σ2 H2 => wipe σ2 vs = wipe σ vs ∧ tYes σ2 H2 fun b H3 =>
        if b = true then te σ2 H3 fun y H4 => ∃ acc, H4 D = some (.lst acc) ∧ acc.length < sizeLine ∧ Pv (i + 1) (upd H4 D (.lst (acc ++ [y]))) else Pv (i + 1) H3) =
        (fun σ2 H2 => wipe σ2 vs = wipe σ vs ∧ te σ2 H2 fun y H4 => ∃ acc, H4 D = some (.lst acc) ∧ acc.length < sizeLine ∧ Pv (i + 1) (upd H4 D (.lst (acc ++ [y])))) := by
        funext σ2 H2
        simp only [tYes, if_true]
      rw [e]
      exact q
    · have hy4 := s4 _ _ hy da dl
      have ha4 := keepTs s4 sl ds ys (nl hr) ha
      refine ⟨ys, hy4, by rw [ha.length]; omega, (Sbt.trans s s4).mut hD, sl4.put da dl dc, ys ++ [v], ds ++ [d], upd_same, (keepLs hy4 (nl hr) ha4).snoc (keepL hy4 (hP _ _ r) hv), by simp [hlen], fun j z hz => ?_⟩
      by_cases hj : j < ds.length
      · rw [List.getElem?_append_left hj] at hz
        exact hr j z hz
      · rw [List.getElem?_append_right (by omega)] at hz
        have e : j = i := by
          have := (List.getElem?_eq_some_iff.mp hz).1
          simp at this
          omega
        subst e
        rw [hlen, Nat.sub_self] at hz
        simp at hz
        rw [← hz]
        exact r
  · obtain ⟨s, sl, ys, ds, hy, ha, hlen, hr⟩ := p
    exact hd H ys ds s sl hy ha hlen hr (nl hr)
end Ws
/-! ## R45 -/
/-! rules: xs[i] op= e, t.count(d), any(ints), sum(t) -/
namespace Ws
open PySem PySem.Spec PyProof.Rows L2
section
variable {X : Cx}
def rGetL (K : PySem.W.Frag) : V → V → Hp → VK → Prop := fun o i H Q => ∃ p xs k v, o = .ref p ∧ i = .int k ∧ SqL K H p xs ∧ 0 ≤ k ∧ atI xs k = some v ∧ Q v H
theorem get_list : PGet X (rGetL X.K) := by
  intro pins s σ H o i ov iv Q I ro ri h
  obtain ⟨p, xs, k, v, rfl, rfl, hq, h0, he, q⟩ := h
  cases ro
  obtain ⟨t, rfl⟩ := ri
  obtain ⟨its, r, pl, hz⟩ := I.list hq
  obtain ⟨j, h1, h2, h3, h4, h5⟩ := atI_get he
  obtain ⟨w, ew, rw'⟩ := r.get h2
  have hl := r.length
  have hn := line63
  have hj : k.toNat = j := by
    rw [seqIndex_of h0 h5] at h1
    exact Option.some.inj h1
  exact wpAny_getItem_list pl.isList h0 (by omega) (by rw [hj]; simpa using ew) ⟨v, H, I, rw', q⟩
/-- t.count(x), x any data -/
def rCountD (K : PySem.W.Frag) : V → List V → Hp → VK → Prop := fun x xs H Q => ∃ (y : V) (d : PyData) (ds : List PyData), xs = [y] ∧ Dp K H x (.tuple ds) ∧ Dp K H y d ∧
  SeqAt.shaped (.tuple ds) = true ∧ SeqAt.shaped d = true ∧ Q (.int ((ds.countP fun z => PyData.eqv z d : Nat) : Int)) H
theorem mt_tcountD (hu : X.A.units + 65 < cLine) : MtR X "tuple.count" (rCountD X.K) := by
  intro pins s σ H x xs v us Q I rx rxs h
  obtain ⟨y, d, ds, rfl, hx, hy, s1, s2, q⟩ := h
  obtain ⟨a, ws, rfl, hs, ha⟩ := hx.tup_inv
  cases rx
  obtain ⟨u, rfl, ru⟩ := rxs.one
  obtain ⟨bs, r1⟩ := Dp.reads I d y u hy ru
  obtain ⟨its, rv, ht, _⟩ := I.tuple hs
  obtain ⟨as, h4⟩ := Dp.readsAll I ds ws its ha rv
  have c1 := SeqAt.canLay_of_shaped s1
  have c2 := SeqAt.canLay_of_shaped s2
  have d2 := SeqAt.depth_of_shaped s2
  refine PySem.SeqAt.count_tuple_data ht (by simpa using h4) r1 (PySem.PyData.plainAll_of_canLay0 ds (by simpa only [PyData.canLay0] using c1)) (PySem.PyData.plain_of_canLay0 d c2) (by omega) ?_
  exact ⟨.int ((ds.countP fun z => PyData.eqv z d : Nat) : Int), H, I.tok _, ⟨s.toks, rfl⟩, q⟩
/-- any(xs) of ints -/
def rAnyI (K : PySem.W.Frag) : List V → Hp → VK → Prop := fun vs H Q => ∃ (a : Addr) (ns : List Int), vs = [V.ref a] ∧ SqL K H a (ns.map V.int) ∧ Q (.bl (ns.any fun n => n != 0)) H
theorem plain_ints : ∀ ns : List Int, PyData.plainAll (ns.map PyData.int) = true
  | [] => rfl
  | n :: ns => by
    simp only [List.map_cons, PyData.plainAll, PyData.plain, Bool.true_and]
    exact plain_ints ns
theorem cr_anyI (hc : X.calm = true) : CallR X (.builtin "any") (rAnyI X.K) := by
  intro pins s σ H vs us Q I r h
  obtain ⟨a, ns, rfl, hs, q⟩ := h
  obtain ⟨its, rv, hl, _⟩ := I.list hs
  rw [Vals.ref1 r]
  obtain ⟨as, h4⟩ := Dp.readsAll I (ns.map PyData.int) (ns.map V.int) its (DpAll.ints ns) rv
  refine PySem.W.any_list_data (xs := ns.map PyData.int) (I.ok.hd hc) hl.isList (by simpa using h4) (plain_ints ns) (fun x hx => ?_) fun h' tk hk => ⟨.bl (ns.any fun n => n != 0), H, I.kept hk, ?_, q⟩
  · obtain ⟨i, _, rfl⟩ := List.mem_map.mp hx
    exact trivial
  · show Value.bool _ = Value.bool _
    rw [List.any_map]
    rfl
/-- sum(t) of a tuple of ints -/
def rSumT (K : PySem.W.Frag) : List V → Hp → VK → Prop := fun vs H Q => ∃ (a : Addr) (ns : List Int), vs = [V.ref a] ∧ SqT K H a (ns.map V.int) ∧ Q (.int ns.sum) H
theorem cr_sumT (hc : X.calm = true) : CallR X (.builtin "sum") (rSumT X.K) := by
  intro pins s σ H vs us Q I r h
  obtain ⟨a, ns, rfl, hs, q⟩ := h
  obtain ⟨its, rv, ht, _⟩ := I.tuple hs
  rw [Vals.ref1 r]
  have hi := rv.ints
  obtain ⟨xs, hx⟩ := hi.allInts.items
  have ht' := ht
  have hn : numsOf its.toArray.toList = ns := by rw [show its.toArray.toList = its from rfl, hi.numsOf]
  rw [hx] at ht' hn
  rw [nums_intItems] at hn
  refine PySem.W.ktm_sumG (I.ok.hd hc) ht' fun h' tk t' hk => ?_
  refine ⟨.int ns.sum, H, I.kept hk, ⟨t', ?_⟩, q⟩
  rw [preSum_eq, List.take_of_length_le (by simp), hn]
end
/-- a dict comprehension over what is walked -/
theorem dc_walk {B : L2.It} {len : Nat} {Gd : Hp → Prop} {Yd : Nat → Hp → V → Hp → Prop} (wk : Walk B len Gd Yd) {tgt : TG} {ts : TT} {kx vx : TE} {ws : List Nat} {st : L2.St} {Hs : Hp} {d : Addr} {Fin : Hp → Prop} (P : Nat → Hp → Prop) (start : P 0 (upd Hs d (.dK []))) (keep : ∀ i H, i ≤ len → P i H → Gd H)
    (turn : ∀ i x Ha Hb, i < len → P i Ha → Yd i Ha x Hb → tgt x (wipe st ws) Hb fun σ2 H2 => wipe σ2 ws = wipe st ws ∧ ts σ2 H2 fun b H3 => if b = true then kx σ2 H3 fun y H4 => vx σ2 H4 fun z H5 => ∃ kvs k, y = kV k ∧ H5 d = some (.dK kvs) ∧ kvs.length < sizeLine ∧ P (i + 1) (upd H5 d (.dK (putK kvs k z))) else P (i + 1) H3)
    (fin : ∀ H, P len H → Fin H) :
    ∃ W : Nat → Nat → Hp → Prop, (∃ m, W 0 m (upd Hs d (.dK []))) ∧ ∀ i m H, W i m H → (B.stop i H ∧ Fin H) ∨ (B.go i H ∧ ∃ Nx : Hp → Prop, (∀ H', Nx H' → ∃ m', m' < m ∧ W (i + 1) m' H') ∧ ∀ x H', B.yld i H x H' → tgt x (wipe st ws) H' fun σ2 H2 => wipe σ2 ws = wipe st ws ∧ ts σ2 H2 fun b H3 =>
        if b = true then kx σ2 H3 fun y H4 => vx σ2 H4 fun z H5 => ∃ kvs k, y = kV k ∧ H5 d = some (.dK kvs) ∧ kvs.length < sizeLine ∧ Nx (upd H5 d (.dK (putK kvs k z))) else Nx H3) := by
  refine ⟨fun i left H => left + i = len ∧ P i H, ⟨len, rfl, start⟩, fun i left H w => ?_⟩
  obtain ⟨sum, p⟩ := w
  by_cases more : i < len
  · exact .inr ⟨wk.goes i H more (keep i H (by omega) p), P (i + 1), fun H' p' => ⟨left - 1, by omega, by omega, p'⟩, fun x H' y => turn i x H H' more p (wk.yields i H x H' more (keep i H (by omega) p) y)⟩
  · obtain rfl : i = len := by omega
    exact .inl ⟨wk.stops H (keep i H (by omega) p), fin H p⟩
end Ws
/-! ## R27 -/
/-! rules: sorted of a list of data, t < u and t <= u of data -/
namespace Ws
open PySem PySem.Spec PyProof.Rows L2
/-- what a list of data is sorted to -/
def Ord (es : List PyData) : Prop := es.Pairwise fun x y => PySem.W.dataLt y x = false
def rSortedD (K : PySem.W.Frag) : List V → Hp → VK → Prop := fun vs H Q => ∃ (a : Addr) (ys : List V) (ds : List PyData), vs = [.ref a] ∧ SqL K H a ys ∧ DpAll K H ys ds ∧ PySem.W.AllAlike ds ∧ PySem.W.Sortable ds ∧ (∀ d ∈ ds, d.depth ≤ 30) ∧
  ∀ (zs : List V) (es : List PyData) (p : Addr), DpAll K H zs es → es.Perm ds → Ord es → H p = none → Q (.ref p) (upd H p (.lst zs))
section
variable {X : Cx}
theorem sortD_pairs {ps : List (V × PyData)} : ((ps.mergeSort (PySem.W.dataLe false (·.2))).map (·.2)).Perm (ps.map (·.2)) ∧ Ord ((ps.mergeSort (PySem.W.dataLe false (·.2))).map (·.2)) := by
  refine ⟨(List.mergeSort_perm ps _).map _, ?_⟩
  unfold Ord
  rw [List.pairwise_map]
  have T := PySem.W.sortLe_total (listOrd itemOrd) false (fun b : V × PyData => PySem.W.keyToks b.2)
  refine (List.pairwise_mergeSort (le := PySem.W.dataLe false fun b : V × PyData => b.2) (fun a b c h1 h2 => T.trans a b c h1 h2) (fun a b => Bool.or_eq_true_iff.mpr (T.total a b)) ps).imp fun {x y} h => ?_
  have e : PySem.W.dataLe false (fun b : V × PyData => b.2) x y = !PySem.W.dataLt y.2 x.2 := by rw [PySem.W.dataLe_eq]; rfl
  rw [e] at h
  simpa using h
theorem vals_each {pins : List (Addr × Obj)} {s : Shared} {σ : L2.St} {H : Hp} (I : Inv X pins σ H s) : ∀ {ys : List V} {its : List Value} {ds : List PyData}, Vals ys its → DpAll X.K H ys ds → PySem.W.EachIs (fun (v : Value) (b : V × PyData) => RelV b.1 v ∧ Dp X.K H b.1 b.2) its (ys.zip ds)
  | [], _, [], r, _ => by cases r; exact .nil
  | y :: ys, _, d :: ds, r, h => by
    cases r with
    | cons r1 r2 =>
      cases h with
      | cons h1 h2 => exact .cons ⟨r1, h1⟩ (vals_each I r2 h2)
theorem each_vals {H : Hp} {K : PySem.W.Frag} : ∀ {its : List Value} {bs : List (V × PyData)}, PySem.W.EachIs (fun (v : Value) (b : V × PyData) => RelV b.1 v ∧ Dp K H b.1 b.2) its bs → Vals (bs.map (·.1)) its ∧ DpAll K H (bs.map (·.1)) (bs.map (·.2))
  | _, _, .nil => ⟨.nil, .nil⟩
  | _, _, .cons h t => ⟨.cons h.1 (each_vals t).1, .cons h.2 (each_vals t).2⟩
theorem cr_sortedD (hu : X.A.units + 65 < cLine) : CallR X (.builtin "sorted") (rSortedD X.K) := by
  intro pins s σ H vs us Q I r h
  obtain ⟨a, ys, ds, rfl, hs, ha, hal, hk, hdp, q⟩ := h
  obtain ⟨its, rv, hl, hz⟩ := I.list hs
  rw [Vals.ref1 r]
  have ez : (ys.zip ds).map (·.2) = ds := List.map_snd_zip (by rw [ha.length]; exact Nat.le_refl _)
  have e1 := vals_each I rv ha
  have e2 : PySem.W.EachIs (fun (v : Value) (b : V × PyData) => ∃ as, Reads s.heap v b.2 as) its (ys.zip ds) := e1.mono fun v b h => Dp.reads I b.2 b.1 v h.2 h.1
  have len : (ys.zip ds).length = ys.length := by rw [List.length_zip, ha.length, Nat.min_self]
  refine PySem.W.sorted_data (vs := its) (bs := ys.zip ds) (enc := (·.2)) hl.isList e1 e2 (by rw [ez]; exact hal) (by rw [ez]; exact hk) (by rw [len]; exact hz) (fun b hb => ?_) fun out ho hE => ?_
  · have : b.2 ∈ ds := by rw [← ez]; exact List.mem_map.mpr ⟨b, hb, rfl⟩
    have := hdp _ this
    omega
  · obtain ⟨v1, v2⟩ := each_vals hE
    obtain ⟨p1, p2⟩ := sortD_pairs (ps := ys.zip ds)
    rw [ez] at p1
    obtain ⟨cap, hc⟩ := PyProof.Rows.sortedAll_at s.heap its out.toArray
    have hz2 : (((ys.zip ds).mergeSort (PySem.W.dataLe false (·.2))).map (·.1)).length ≤ sizeLine := by rw [List.length_map, List.length_mergeSort, len]; exact hz
    exact ⟨.ref (s.heap.objs.size + 1), upd H (s.heap.objs.size + 1) (.lst (((ys.zip ds).mergeSort (PySem.W.dataLe false (·.2))).map (·.1))),
      I.laid (t' := s.toks) (fun b o e => PyProof.Rows.sortedAll_old e) (Nat.le_succ _) ⟨hz2, out, cap, v1, hc⟩, rfl, q _ _ _ v2 p1 p2 (I.hok.fresh (Nat.le_succ _))⟩
/-- t < u of data -/
def rLtD (K : PySem.W.Frag) : R2 := fun x y H Q => ∃ d e : PyData, Dp K H x d ∧ Dp K H y e ∧ PySem.W.alike d e = true ∧ d ≠ .none ∧ d.depth ≤ 30 ∧ Q (.bl (PySem.W.dataLt d e)) H
theorem op_ltD (hu : X.A.units + 65 < cLine) : OpR X (compareOp .Lt) (rLtD X.K) := by
  intro pins s σ H x y v u Q I rx ry h
  obtain ⟨d, e, hd, he, hal, hn, hdp, q⟩ := h
  obtain ⟨as, r1⟩ := Dp.reads I d x v hd rx
  obtain ⟨bs, r2⟩ := Dp.reads I e y u he ry
  exact PySem.W.lt_data r1 r2 hal hn (by omega) ⟨.bl _, H, I, rfl, q⟩
def rLeD (K : PySem.W.Frag) : R2 := fun x y H Q => ∃ d e : PyData, Dp K H x d ∧ Dp K H y e ∧ PySem.W.alike d e = true ∧ d ≠ .none ∧ d.depth ≤ 30 ∧ Q (.bl (!PySem.W.dataLt e d)) H
theorem op_leD (hu : X.A.units + 65 < cLine) : OpR X (compareOp .LtE) (rLeD X.K) := by
  intro pins s σ H x y v u Q I rx ry h
  obtain ⟨d, e, hd, he, hal, hn, hdp, q⟩ := h
  obtain ⟨as, r1⟩ := Dp.reads I d x v hd rx
  obtain ⟨bs, r2⟩ := Dp.reads I e y u he ry
  exact PySem.W.le_data r1 r2 hal hn (by omega) ⟨.bl _, H, I, rfl, q⟩
end
end Ws
/-! ## S23 -/
namespace Ws
open PySem PySem.Spec PyProof.Rows L2
mutual
theorem reads_flat {h : Heap} : ∀ (d : PyData) (v : Value) (as : List Addr), noList d = true → Reads h v d as → as = []
  | .none, _, _, _, r => by cases r; rfl
  | .bool _, _, _, _, r => by cases r; rfl
  | .int _, _, _, _, r => by cases r; rfl
  | .str _, _, _, _, r => by cases r; rfl
  | .list _, _, _, q, _ => by cases q
  | .tuple xs, _, _, q, r => by
    cases r with
    | tuple h1 h2 h3 h4 => exact reads_flats xs _ _ (by simpa only [noList] using q) h4
  | .dict _, _, _, q, _ => by cases q
theorem reads_flats {h : Heap} : ∀ (ds : List PyData) (vs : List Value) (as : List Addr), noListAll ds = true → ReadsAll h vs ds as → as = []
  | [], _, _, _, r => by cases r; rfl
  | d :: ds, _, _, q, r => by
    cases r with
    | cons h1 h2 =>
      simp only [noListAll, Bool.and_eq_true] at q
      rw [reads_flat d _ _ q.1 h1, reads_flats ds _ _ q.2 h2]
      rfl
end
theorem noList_of : ∀ {ds : List PyData} {d : PyData}, noListAll ds = true → d ∈ ds → noList d = true
  | x :: xs, d, h, hd => by
    simp only [noListAll, Bool.and_eq_true] at h
    rcases List.mem_cons.mp hd with rfl | hd
    · exact h.1
    · exact noList_of h.2 hd
/-- what a tuple of data without lists is sorted to -/
def rSortedT (K : PySem.W.Frag) : List V → Hp → VK → Prop := fun vs H Q => ∃ (a : Addr) (ys : List V) (ds : List PyData), vs = [.ref a] ∧ SqT K H a ys ∧ DpAll K H ys ds ∧ noListAll ds = true ∧ PySem.W.AllAlike ds ∧ PySem.W.Sortable ds ∧ (∀ d ∈ ds, d.depth ≤ 30) ∧
  ∀ (zs : List V) (es : List PyData) (p : Addr), DpAll K H zs es → es.Perm ds → Ord es → H p = none → Q (.ref p) (upd H p (.lst zs))
theorem cr_sortedT {X : Cx} (hu : X.A.units + 65 < cLine) : CallR X (.builtin "sorted") (rSortedT X.K) := by
  intro pins s σ H vs us Q I r h
  obtain ⟨a, ys, ds, rfl, hs, ha, hnl, hal, hk, hdp, q⟩ := h
  obtain ⟨its, rv, hl, hz⟩ := I.tuple hs
  obtain ⟨o, ho, hc, n, hd⟩ := hl
  rw [Vals.ref1 r]
  have ez : (ys.zip ds).map (·.2) = ds := List.map_snd_zip (by rw [ha.length]; exact Nat.le_refl _)
  have e1 := vals_each I rv ha
  have len : (ys.zip ds).length = ys.length := by rw [List.length_zip, ha.length, Nat.min_self]
  have il : its.length ≤ sizeLine := by rw [← rv.length]; exact hz
  refine call_function_entry_kw (kw := []) kind_sorted plain_sorted entry_sorted (args_sorted1 _) (wpAny_bind (m := checkCount "sorted" 1 1 _) (wpAny_pure (wpAny_bind (wpAny_collect_seq a (.inr rfl) ho hc hd (fun h2 kp => wpAny_bind (wpAny_newList (wpAny_bind (wpAny_holding ?_)) il)) (by simpa using il)))))
  have off : s.heap.get? h2.objs.size = none := by
    cases g : s.heap.get? h2.objs.size with
    | none => rfl
    | some u => exact absurd (Heap.lt_size (kp _ _ g)) (Nat.lt_irrefl _)
  have offH := I.hok.gone off
  have hpl := Heap.get?_push_size h2 (o := { cls := .type "list", data := .seq its.toArray.toList.toArray }) rfl
  have kq : ∀ b u, s.heap.get? b = some u → (h2.push { cls := .type "list", data := .seq its.toArray.toList.toArray }).get? b = some u := fun b u e => Heap.get?_push_of_some _ (kp b u e)
  have er : PySem.W.EachIs (fun (v : Value) (b : V × PyData) => ∃ as, Reads (h2.push { cls := .type "list", data := .seq its.toArray.toList.toArray }) v b.2 as ∧ h2.objs.size ∉ as) its (ys.zip ds) := (PySem.W.each_mem e1).mono fun v b hb => by
    obtain ⟨as, ra⟩ := Dp.reads I b.2 b.1 v hb.1.2 hb.1.1
    have hb2 : b.2 ∈ ds := by rw [← ez]; exact List.mem_map.mpr ⟨b, hb.2, rfl⟩
    have := reads_flat b.2 v as (noList_of hnl hb2) ra
    subst this
    exact ⟨[], Reads.keeps kq ra, List.not_mem_nil⟩
  refine PySem.W.list_sort_data (vs := its) (bs := ys.zip ds) (enc := (·.2)) (n := 0) hpl e1 er (by rw [ez]; exact hal) (by rw [ez]; exact hk) (by rw [len]; exact hz) (fun b hb => ?_) fun out ho2 hE => ?_
  · have hb2 : b.2 ∈ ds := by rw [← ez]; exact List.mem_map.mpr ⟨b, hb, rfl⟩
    have h30 : b.2.depth ≤ 30 := hdp _ hb2
    show X.A.units + 1 + 1 + b.2.depth < cLine
    omega
  · obtain ⟨v1, v2⟩ := each_vals hE
    obtain ⟨p1, p2⟩ := sortD_pairs (ps := ys.zip ds)
    rw [ez] at p1
    obtain ⟨cap, hcp⟩ := sortedHeap_at (vs := its) (out := out.toArray) hpl
    have hz2 : (((ys.zip ds).mergeSort (PySem.W.dataLe false (·.2))).map (·.1)).length ≤ sizeLine := by rw [List.length_map, List.length_mergeSort, len]; exact hz
    refine wpAny_pure ⟨_, rfl, .ref h2.objs.size, upd H h2.objs.size (.lst (((ys.zip ds).mergeSort (PySem.W.dataLe false (·.2))).map (·.1))), I.laidN (t' := s.toks) (fun b u e => ?_) off offH ⟨hz2, out, cap, v1, hcp⟩, rfl, q _ _ _ v2 p1 p2 offH⟩
    have lt : b < h2.objs.size := Heap.lt_size (kp b u e)
    exact (sortedHeap_old (Nat.ne_of_lt lt) (by rw [size_push']; exact Nat.lt_succ_of_lt lt)).trans (kq b u e)
end Ws
/-! ## L27 -/
/-! a comprehension of two clauses, walked -/
namespace Ws
open PySem PySem.Spec PyProof.Rows L2
theorem lc2_out {J : L2.It} {n : Nat} {Gd : Hp → Prop} {Yd : Nat → Hp → V → Hp → Prop} (wk : Walk J n Gd Yd) {g : TG} {tt : TT} {wi1 : L2.TI} {g1 : TG} {tt1 : TT} {te : TE} {vs vs1 : List Nat} {σ : L2.St} {H1 : Hp} {D : Addr} {Fin : Hp → Prop} (P : Nat → Hp → Prop) (start : P 0 (upd H1 D (.lst []))) (keep : ∀ i H, i ≤ n → P i H → Gd H)
    (turn : ∀ i x H H', i < n → P i H → Yd i H x H' → g x (wipe σ vs) H' fun σ2 H2 => wipe σ2 vs = wipe σ vs ∧ tt σ2 H2 fun b H3 =>
      if b = true then wi1 σ2 H3 fun J1 H4 => ∃ W1 : Nat → Nat → Hp → Prop, (∃ m, W1 0 m H4) ∧ ∀ j k H, W1 j k H →
        (J1.stop j H ∧ P (i + 1) H) ∨ (J1.go j H ∧ ∃ Nx1 : Hp → Prop, (∀ H', Nx1 H' → ∃ k', k' < k ∧ W1 (j + 1) k' H') ∧ ∀ x H', J1.yld j H x H' → g1 x (wipe σ2 vs1) H' fun σ3 H5 => wipe σ3 vs1 = wipe σ2 vs1 ∧ tt1 σ3 H5 fun b H6 =>
          if b = true then te σ3 H6 fun y H7 => ∃ acc, H7 D = some (.lst acc) ∧ acc.length < sizeLine ∧ Nx1 (upd H7 D (.lst (acc ++ [y]))) else Nx1 H6)
      else P (i + 1) H3)
    (fin : ∀ H, P n H → Fin H) :
    ∃ W : Nat → Nat → Hp → Prop, (∃ m, W 0 m (upd H1 D (.lst []))) ∧ ∀ i m H, W i m H → (J.stop i H ∧ Fin H) ∨ (J.go i H ∧ ∃ Nx : Hp → Prop, (∀ H', Nx H' → ∃ m', m' < m ∧ W (i + 1) m' H') ∧ ∀ x H', J.yld i H x H' → g x (wipe σ vs) H' fun σ2 H2 => wipe σ2 vs = wipe σ vs ∧ tt σ2 H2 fun b H3 =>
      if b = true then wi1 σ2 H3 fun J1 H4 => ∃ W1 : Nat → Nat → Hp → Prop, (∃ m, W1 0 m H4) ∧ ∀ j k H, W1 j k H →
        (J1.stop j H ∧ Nx H) ∨ (J1.go j H ∧ ∃ Nx1 : Hp → Prop, (∀ H', Nx1 H' → ∃ k', k' < k ∧ W1 (j + 1) k' H') ∧ ∀ x H', J1.yld j H x H' → g1 x (wipe σ2 vs1) H' fun σ3 H5 => wipe σ3 vs1 = wipe σ2 vs1 ∧ tt1 σ3 H5 fun b H6 =>
          if b = true then te σ3 H6 fun y H7 => ∃ acc, H7 D = some (.lst acc) ∧ acc.length < sizeLine ∧ Nx1 (upd H7 D (.lst (acc ++ [y]))) else Nx1 H6)
      else Nx H3) := by
  refine ⟨fun i left H => left + i = n ∧ P i H, ⟨n, rfl, start⟩, fun i left H w => ?_⟩
  obtain ⟨sum, p⟩ := w
  by_cases more : i < n
  · exact .inr ⟨wk.goes i H more (keep i H (by omega) p), P (i + 1), fun H' p' => ⟨left - 1, by omega, by omega, p'⟩, fun x H' y => turn i x H H' more p (wk.yields i H x H' more (keep i H (by omega) p) y)⟩
  · obtain rfl : i = n := by omega
    exact .inl ⟨wk.stops H (keep i H (by omega) p), fin H p⟩
theorem lc2_in {J1 : L2.It} {n : Nat} {Gd : Hp → Prop} {Yd : Nat → Hp → V → Hp → Prop} (wk : Walk J1 n Gd Yd) {g1 : TG} {tt1 : TT} {te : TE} {vs1 : List Nat} {σ2 : L2.St} {H4 : Hp} {D : Addr} {Fin : Hp → Prop} (P : Nat → Hp → Prop) (start : P 0 H4) (keep : ∀ i H, i ≤ n → P i H → Gd H)
    (turn : ∀ j x H H', j < n → P j H → Yd j H x H' → g1 x (wipe σ2 vs1) H' fun σ3 H5 => wipe σ3 vs1 = wipe σ2 vs1 ∧ tt1 σ3 H5 fun b H6 =>
          if b = true then te σ3 H6 fun y H7 => ∃ acc, H7 D = some (.lst acc) ∧ acc.length < sizeLine ∧ P (j + 1) (upd H7 D (.lst (acc ++ [y]))) else P (j + 1) H6)
    (fin : ∀ H, P n H → Fin H) :
    ∃ W1 : Nat → Nat → Hp → Prop, (∃ m, W1 0 m H4) ∧ ∀ j k H, W1 j k H →
        (J1.stop j H ∧ Fin H) ∨ (J1.go j H ∧ ∃ Nx1 : Hp → Prop, (∀ H', Nx1 H' → ∃ k', k' < k ∧ W1 (j + 1) k' H') ∧ ∀ x H', J1.yld j H x H' → g1 x (wipe σ2 vs1) H' fun σ3 H5 => wipe σ3 vs1 = wipe σ2 vs1 ∧ tt1 σ3 H5 fun b H6 =>
          if b = true then te σ3 H6 fun y H7 => ∃ acc, H7 D = some (.lst acc) ∧ acc.length < sizeLine ∧ Nx1 (upd H7 D (.lst (acc ++ [y]))) else Nx1 H6) := by
  refine ⟨fun i left H => left + i = n ∧ P i H, ⟨n, by omega, start⟩, fun i left H w => ?_⟩
  obtain ⟨sum, p⟩ := w
  by_cases more : i < n
  · exact .inr ⟨wk.goes i H more (keep i H (by omega) p), P (i + 1), fun H' p' => ⟨left - 1, by omega, by omega, p'⟩, fun x H' y => turn i x H H' more p (wk.yields i H x H' more (keep i H (by omega) p) y)⟩
  · obtain rfl : i = n := by omega
    exact .inl ⟨wk.stops H (keep i H (by omega) p), fin H p⟩
/-- a comprehension of data that may hold new lists -/
theorem lcLN {K : PySem.W.Frag} {J : L2.It} {n : Nat} {G : Hp → Prop} {Y : Nat → Hp → V → Hp → Prop} (w : Walk J n G Y) {g : TG} {te : TE} {vs : List Nat} {σ : L2.St} {H1 : Hp} {D : Addr} {Qd : Hp → Prop} (hD : H1 D = none) (hn : n < sizeLine) (f : Nat → PyData)
    (hG : ∀ H, Same H1 H → G H)
    (hs : ∀ i x H H' (Q : VK), i < n → Same H1 H → H D ≠ none → Y i H x H' → (∀ y H4, Same H H4 → DpN H K H4 y (f i) → Q y H4) → g x (wipe σ vs) H' fun σ2 H2 => wipe σ2 vs = wipe σ vs ∧ te σ2 H2 Q)
    (hd : ∀ H ys, Same H1 H → H D = some (.lst ys) → ys.length = n → (∀ j y, ys[j]? = some y → DpN (upd H1 D (.lst [])) K H y (f j)) → Qd H) :
    ∃ W : Nat → Nat → Hp → Prop, (∃ m, W 0 m (upd H1 D (.lst []))) ∧ ∀ i m H, W i m H →
      (J.stop i H ∧ Qd H) ∨ (J.go i H ∧ ∃ Nx : Hp → Prop, (∀ H', Nx H' → ∃ m', m' < m ∧ W (i + 1) m' H') ∧ ∀ x H', J.yld i H x H' → g x (wipe σ vs) H' fun σ2 H2 => wipe σ2 vs = wipe σ vs ∧ tYes σ2 H2 fun b H3 =>
        if b = true then te σ2 H3 fun y H4 => ∃ acc, H4 D = some (.lst acc) ∧ acc.length < sizeLine ∧ Nx (upd H4 D (.lst (acc ++ [y]))) else Nx H3) := by
  let B0 : Hp := upd H1 D (.lst [])
  have hB : B0 D ≠ none := by show upd H1 D _ D ≠ none; rw [upd_same]; exact fun z => by cases z
  let Pv : Nat → Hp → Prop := fun i H => Same H1 H ∧ ∃ ys, H D = some (.lst ys) ∧ ys.length = i ∧ ∀ j y, ys[j]? = some y → DpN B0 K H y (f j)
  refine lc_it w Pv ⟨Same.new hD, [], upd_same, rfl, fun j y h => by simp at h⟩ (fun i H _ p => hG H p.1) (fun i x H H' hi p y => ?_) (fun H p => ?_)
  · obtain ⟨s, ys, hy, hl, hr⟩ := p
    have hDn : H D ≠ none := by rw [hy]; exact fun z => by cases z
    have q := hs i x H H' (fun y H4 => ∃ acc, H4 D = some (.lst acc) ∧ acc.length < sizeLine ∧ Pv (i + 1) (upd H4 D (.lst (acc ++ [y])))) hi s hDn y (fun v H4 s4 hv => ?_)
    · have e : (fun σ2 H2 => wipe σ2 vs = wipe σ vs ∧ tYes σ2 H2 fun b H3 =>
        if b = true then te σ2 H3 fun y H4 => ∃ acc, H4 D = some (.lst acc) ∧ acc.length < sizeLine ∧ Pv (i + 1) (upd H4 D (.lst (acc ++ [y]))) else Pv (i + 1) H3) =
        (fun σ2 H2 => wipe σ2 vs = wipe σ vs ∧ te σ2 H2 fun y H4 => ∃ acc, H4 D = some (.lst acc) ∧ acc.length < sizeLine ∧ Pv (i + 1) (upd H4 D (.lst (acc ++ [y])))) := by
        funext σ2 H2
        simp only [tYes, if_true]
      rw [e]
      exact q
    · have hy4 := s4 _ _ hy
      have kp : Kp B0 H4 (upd H4 D (.lst (ys ++ [v]))) := Kp.put hy4 hB
      refine ⟨ys, hy4, by omega, (Same.trans s s4).mut hD, _, upd_same, by simp [hl], fun j z hz => ?_⟩
      by_cases hj : j < ys.length
      · rw [List.getElem?_append_left hj] at hz
        exact ((hr j z hz).step (Kp.same s4)).step kp
      · rw [List.getElem?_append_right (by omega)] at hz
        have e : j = i := by
          have := (List.getElem?_eq_some_iff.mp hz).1
          simp at this
          omega
        subst e
        rw [hl, Nat.sub_self] at hz
        simp at hz
        rw [← hz]
        refine (hv.base fun b hb => ?_).step kp
        have nb : b ≠ D := fun z => hDn (by rw [← z]; exact hb)
        show upd H1 D _ b = none
        rw [upd_ne nb]
        cases e1 : H1 b with
        | none => rfl
        | some o => rw [s b o e1] at hb; cases hb
  · obtain ⟨s, ys, hy, hl, hr⟩ := p
    exact hd H ys s hy hl hr
theorem lcL {K : PySem.W.Frag} {J : L2.It} {n : Nat} {G : Hp → Prop} {Y : Nat → Hp → V → Hp → Prop} (w : Walk J n G Y) {g : TG} {te : TE} {vs : List Nat} {σ : L2.St} {H1 : Hp} {D : Addr} {Qd : Hp → Prop} (hD : H1 D = none) (hn : n < sizeLine) (f : Nat → PyData)
    (hG : ∀ H, Same H1 H → G H)
    (hs : ∀ i x H H' (Q : VK), i < n → Same H1 H → H D ≠ none → Y i H x H' → (∀ y H4, Same H H4 → DpN H K H4 y (f i) → Q y H4) → g x (wipe σ vs) H' fun σ2 H2 => wipe σ2 vs = wipe σ vs ∧ te σ2 H2 Q)
    (hd : ∀ H ys, Same H1 H → H D = some (.lst ys) → ys.length = n → DpAll K H ys ((List.range n).map f) → Qd H) :
    ∃ W : Nat → Nat → Hp → Prop, (∃ m, W 0 m (upd H1 D (.lst []))) ∧ ∀ i m H, W i m H →
      (J.stop i H ∧ Qd H) ∨ (J.go i H ∧ ∃ Nx : Hp → Prop, (∀ H', Nx H' → ∃ m', m' < m ∧ W (i + 1) m' H') ∧ ∀ x H', J.yld i H x H' → g x (wipe σ vs) H' fun σ2 H2 => wipe σ2 vs = wipe σ vs ∧ tYes σ2 H2 fun b H3 =>
        if b = true then te σ2 H3 fun y H4 => ∃ acc, H4 D = some (.lst acc) ∧ acc.length < sizeLine ∧ Nx (upd H4 D (.lst (acc ++ [y]))) else Nx H3) :=
  lcLN w hD hn f hG hs fun H ys s hy hl hr => by
    refine hd H ys s hy hl (dpAll_of (by rw [hl, List.length_map, List.length_range]) fun j y d h1 h2 => ?_)
    rw [List.getElem?_map] at h2
    have hj : j < n := by rw [← hl]; exact (List.getElem?_eq_some_iff.mp h1).1
    rw [List.getElem?_range hj] at h2
    cases h2
    exact (hr j y h1).dp
end Ws
/-! ## R22 -/
/-! rules: t[::-1] of a tuple; a call with keywords alone -/
namespace Ws
open PySem PySem.Spec PyProof.Rows L2
theorem back_pick (xs : Array Value) : ((List.range xs.size).filterMap fun (k : Nat) => xs[(((xs.size : Int) - 1) + (k : Int) * (-1)).toNat]?) = xs.toList.reverse := by
  refine List.ext_getElem? fun i => ?_
  have e : (List.range xs.size).filterMap (fun (k : Nat) => xs[(((xs.size : Int) - 1) + (k : Int) * (-1)).toNat]?) = (List.range xs.size).map fun k => xs[xs.size - 1 - k]?.getD .none := by
    have go : ∀ l : List Nat, (∀ k ∈ l, k < xs.size) → l.filterMap (fun (k : Nat) => xs[(((xs.size : Int) - 1) + (k : Int) * (-1)).toNat]?) = l.map fun k => xs[xs.size - 1 - k]?.getD .none := fun l => by
      induction l with
      | nil => intro _; rfl
      | cons k l ih =>
        intro hl
        have hk := hl k List.mem_cons_self
        have h1 : (((xs.size : Int) - 1) + (k : Int) * (-1)).toNat = xs.size - 1 - k := by omega
        have h2 : xs.size - 1 - k < xs.size := by omega
        have h3 : xs[(((xs.size : Int) - 1) + (k : Int) * (-1)).toNat]? = some (xs[xs.size - 1 - k]?.getD .none) := by
          rw [h1, Array.getElem?_eq_getElem h2]
          rfl
        rw [List.filterMap_cons_some (f := fun (k : Nat) => xs[(((xs.size : Int) - 1) + (k : Int) * (-1)).toNat]?) h3, List.map_cons, ih fun j hj => hl j (List.mem_cons_of_mem _ hj)]
    exact go _ fun k hk => List.mem_range.mp hk
  rw [e]
  by_cases h : i < xs.size
  · rw [List.getElem?_map, List.getElem?_range h, List.getElem?_reverse (by simpa using h)]
    have h2 : xs.size - 1 - i < xs.size := by omega
    show some (xs[xs.size - 1 - i]?.getD .none) = _
    rw [Array.getElem?_eq_getElem h2, Array.length_toList, Array.getElem?_toList, Array.getElem?_eq_getElem h2]
    rfl
  · rw [List.getElem?_eq_none (by simpa using h), List.getElem?_eq_none (by simpa using h)]
theorem back_adjust (n : Nat) : Builtin.Slice.sliceAdjust none none (-1) (n : Int) = ((n : Int) - 1, -1) := rfl
theorem back_places (n : Nat) : Builtin.Slice.slicePlaces ((n : Int) - 1) (-1) (-1) = n := by
  unfold Builtin.Slice.slicePlaces
  have h1 : ¬ ((-1 : Int) > 0) := by omega
  simp only [h1, if_false]
  by_cases h : n = 0
  · subst h; rfl
  · rw [if_pos (by omega)]
    have : -1 + 1 - ((n : Int) - 1) = -(n : Int) + 1 := by omega
    simp only [Int.neg_neg, Int.ediv_one]
    omega
section
variable {prog : Program} {w : World} {A : Around} {E : Value → Shared → Prop} {s : Shared}
theorem getItem_tuple_back {t sl : Addr} {items : Array Value} {u : Tok} {Q : Value → Shared → Prop} (ht : IsTup s.heap t items) (hs : s.heap.IsSliceOf sl .none .none (.int (-1) u)) (hsz : items.size ≤ sizeLine)
    (h : Q (.ref s.heap.objs.size) { s with heap := s.heap.push { cls := .type "tuple", data := .seq items.toList.reverse.toArray } }) : wpAny (model prog w) A (getItem (.ref t) (.ref sl)) Q E s := by
  obtain ⟨os, hos, hcs, hds⟩ := id hs
  have hTs : s.TypeIs (.ref sl) "slice" := ⟨os, hos, hcs⟩
  have small : sizeOk (.seq items.toList.reverse.toArray) := by
    show items.toList.reverse.toArray.size ≤ sizeLine
    simpa using hsz
  unfold getItem
  try with_reducible refine wpAny_holding ?_
  first | refine wpAny_bind (wpAny_pure ?_) | skip
  refine wpAny_bind (wpAny_sequenceKey ht.typeIs (by decide) (wpAny_bind (wpAny_callSpecial?_slot (name := Str.ofString "__getitem__") ht.typeIs PyProof.Rows.slot_tuple_getitem
    (wpAny_call_entry PyProof.Rows.slot_tuple_getitem ht.typeIs entry_tuple_getitem ?_ (args_tuple_getitem _ _)))))
  show wpAny _ _ (Builtin.Tuple.tupleItemsOf (.ref t) >>= _) _ _ s
  refine wpAny_bind (tupleItemsOf_ ht (wpAny_bind (wpAny_typeOf hTs ?_)))
  rw [if_pos (by decide)]
  refine wpAny_bind ?_
  unfold Builtin.Slice.sliceApplied Builtin.Slice.sliceFields
  refine wpAny_bind (wpAny_bind (wpAny_field hos hds (x := .none) rfl (wpAny_bind (wpAny_field hos hds (x := .none) rfl (wpAny_bind (wpAny_field hos hds (x := .int (-1) u) rfl (wpAny_pure ?_)))))))
  refine wpAny_bind (slicePart_int ?_)
  show wpAny _ _ (if ((-1 : Int) == 0) = true then _ else _) _ _ s
  rw [if_neg (by decide)]
  refine wpAny_bind (slicePart_none (wpAny_bind (slicePart_none (wpAny_bind (wpAny_pure ?_)))))
  show wpAny _ _ (pure ((items.size : Int) - 1, (-1 : Int), Builtin.Slice.slicePlaces ((items.size : Int) - 1) (-1) (-1))) _ _ s
  rw [back_places]
  refine wpAny_pure ?_
  show wpAny _ _ (if (((items.size : Int) - 1) == 0 && (-1 : Int) == 1 && items.size == items.size) = true then _ else _) _ _ s
  rw [if_neg (by
    rw [Bool.and_eq_true, Bool.and_eq_true]
    intro z
    exact absurd z.1.2 (by decide)), back_pick]
  first
    | exact wpAny_bind (m := Builtin.Tuple.tupleExact _) (wpAny_newObj_type (wpAny_pure ⟨_, rfl, wpAny_pure h⟩) small)
    | exact wpAny_bind (m := Builtin.Tuple.tupleExact _) (wpAny_newObj_type (wpAny_bind (wpAny_pure (wpAny_pure ⟨_, rfl, wpAny_pure h⟩))) small)
    | exact wpAny_bind (wpAny_bind (m := Builtin.Tuple.tupleExact _) (wpAny_newObj_type (wpAny_pure (wpAny_pure ⟨_, rfl, wpAny_pure h⟩)) small))
    | exact wpAny_bind (wpAny_bind (m := Builtin.Tuple.tupleExact _) (wpAny_newObj_type (wpAny_pure ⟨_, rfl, wpAny_pure h⟩) small))
end
section
variable {X : Cx}
def tRevT (K : PySem.W.Frag) (te : TE) : TE := fun σ H Q => te σ H fun x H1 => ∃ a xs, x = .ref a ∧ SqT K H1 a xs ∧ ∀ p, H1 p = none → Q (.ref p) (upd H1 p (.tup xs.reverse))
theorem pe_revT {e : Expr} {te : TE} {k : Nat} {p1 p2 p3 pos : Pos} (he : PE X e te) : PE X (.Subscript e (.Slice none none (some (.UnaryOp .USub (.Constant (.int 1) k p1) p2)) p3) pos) (tRevT X.K te) := by
  refine ⟨fun pins s σ H Q I h => Subscript_ (thn (he.run pins s σ H _ I h) fun v s1 ⟨x, H1, I1, r1, q1⟩ => ?_)⟩
  obtain ⟨a, xs, rfl, hx, q⟩ := q1
  cases r1
  have minus : PO X (some (.UnaryOp .USub (.Constant (.int 1) k p1) p2)) (tPart (tUn (rU fun i => .int (-i)) (tC (.int 1)))) := po_some (pe_un un_neg pe_int)
  refine wpAny_Slice (thn (po_none.run pins s1 σ H1 (fun o G => o = none ∧ G = H1) I1 ⟨rfl, rfl⟩) fun vl s2 ⟨l, H2, I2, pl, el, e2⟩ => ?_)
  subst el e2
  refine thn (po_none.run pins s2 σ H2 (fun o G => o = none ∧ G = H2) I2 ⟨rfl, rfl⟩) fun vu s3 ⟨u, H3, I3, pu, eu, e3⟩ => ?_
  subst eu e3
  refine thn (minus.run pins s3 σ H3 (fun o G => o = some (-1) ∧ G = H3) I3 ⟨1, rfl, -1, rfl, rfl, rfl⟩) fun vs s4 ⟨o, H4, I4, ps, eo, e4⟩ => ?_
  subst eo e4
  obtain rfl : vl = .none := by cases pl; rfl
  obtain rfl : vu = .none := by cases pu; rfl
  obtain ⟨tk, rfl⟩ : ∃ tk, vs = .int (-1) tk := by cases ps; exact ⟨_, rfl⟩
  have I5 : Inv X pins σ H4 { s4 with heap := s4.heap.push { cls := .type "slice", data := .fields #[.none, .none, .int (-1) tk] } } := I4.kept (t' := s4.toks) fun b ob q => Heap.get?_push_of_some _ q
  obtain ⟨its, r, ht, hz⟩ := I5.tuple hx
  have ln := r.length
  show wpAny (model X.prog X.w) X.A (subscriptTail e (.Slice none none (some (.UnaryOp .USub (.Constant (.int 1) k p1) p2)) p3) (.ref a) (.ref s4.heap.objs.size)) (EP X pins σ Q) X.xe { s4 with heap := s4.heap.push { cls := .type "slice", data := .fields #[.none, .none, .int (-1) tk] } }
  refine tail_any (ops := [.ref a, .ref s4.heap.objs.size]) ht.typeIs (PyProof.Rows.slot_tuple_getitem.lookup) (getItem_tuple_back ht (Heap.IsSliceOf.new _ .none .none (.int (-1) tk)) (by rw [List.size_toArray]; omega) ?_) (by with_unfolding_all rfl)
  refine ⟨.ref _, _, I5.laid (t' := s4.toks) (o := .tup xs.reverse) (fun b ob q => Heap.get?_push_of_some _ q) (Nat.le_refl _) ?_, rfl, q _ (I5.hok.fresh (Nat.le_refl _))⟩
  exact ⟨by rw [List.length_reverse]; exact hz, _, r.reverse, IsTup.new _ _⟩
end
/-! ### a call with keywords alone, in the parameters' order -/
section
variable {X : Cx} {CX : CXT} {k : Nat} {ps : List Str} {sp : Sp} {E : XK} {x : Str} {p pos : Pos} {kws : List Keyword} {tk : TA}
/-- the keywords' values bind the parameters, in their order -/
def KwB (K : PySem.W.Frag) (fd : FuncData) (ps : List Str) : Prop := ∀ (s : Shared) (ws : List Value), K.In s.heap → ws.length = ps.length → BindsTo s fd ⟨[], ps.zip ws⟩ (ps.zip ws)
structure DfK (P : Program) (w : World) (K : PySem.W.Frag) (mg : Str → Option Value) (base : Heap) (CX : CXT) (k : Nat) (x : Str) (ps : List Str) (sp : Sp) : Prop where
  ex : ∃ (f : Addr) (fd : FuncData), FnOk P w K mg base CX k f fd ps sp ∧ mg x = some (.ref f) ∧ PySem.W.keepIn K (.ref f) = true ∧ KwB K fd ps
variable {Es : L2.St → XK}
theorem pe_fK (D : DfK X.prog X.w X.K X.mg X.base CX k x ps sp) (hr : Room k X.A) (hx : ∀ σ, PassesAt CX X σ (Es σ)) (hkw : PK X kws tk) (hg : Gl X x := by rfl)
    (hall : (backToKw pos (keywordEach kws X.env)).all (·.1.isSome) = true := by rfl) (hks : (backToKw pos (keywordEach kws X.env)).filterMap (·.1) = ps := by rfl) (hdb : (x == ("__debug__" : Str)) = false := by decide)
    (hpl : ((backTo pos (starEach [] X.env)).any (·.1) || (backToKw pos (keywordEach kws X.env)).any (·.1.isNone)) = false := by rfl) :
    PE X (.Call (.Name x p) [] kws pos) (tCallS sp Es tk) := by
  obtain ⟨f, fd, F, hm, hk, hb⟩ := D.ex
  refine ⟨fun pins s σ H Q I h => ?_⟩
  refine wpAny_Call_Name_kw (ld_glob I hg hm ?_ hdb)
  refine PySem.W.callWith_KW0 (h₀ := X.base) I.ok.mod.kin hk hall (thn (hkw.run pos pins s σ H _ I h) fun ws s2 ⟨zs, H2, I2, rz, q⟩ => ⟨I2.kIn, ?_⟩) hpl
  rw [hks]
  have hl : ws.length = ps.length := by rw [← rz.length]; exact F.len _ _ _ _ q
  refine wpAny_call (codeAny_mono (F.run X.A X.stack s2 H2 ⟨[], ps.zip ws⟩ ws zs Q (Es σ) hr I2.env0 (hb s2 ws I2.kIn hl) rz q) fun r s' hq => ?_)
  cases r with
  | error e => exact hx σ pins H2 s2 e s' I2 hq
  | ok fl =>
    cases fl with
    | ret u => exact I2.after hq
    | next => exact False.elim hq
    | brk => exact False.elim hq
    | cont => exact False.elim hq
end
section
variable {P : Program} {w : World} {K : PySem.W.Frag} {mg : Str → Option Value} {base : Heap} {x : Str} {st : Stmt} {N ps : List Str} {k : Nat} {sp : Sp}
theorem Dt.okXK (D : Dt K mg x st ps) (S : FnScope N ps (defScope st)) (len : ∀ vs H Q E, sp vs H Q E → vs.length = ps.length)
    (hkw : ∀ (kV doc pm : Value) (an : Option Addr) (cdv ct : Value) (us : List Value), us.length = ps.length → bindArgs (PySem.W.fnOf x x (defArgs st) (defBody st) (defScope st) .none kV doc pm an cdv ct) ⟨[], ps.zip us⟩ = pure (ps.zip us))
    (hbody : ∀ (f : Addr) (cdv : Value) (A : Around) (outer : List Env) (s : Shared) (H : Hp) (vs : List V) (Q : VK) (E : XK), Room k (A.deeper (envOfC x (defScope st) s.heap.objs.size f cdv)) → sp vs H Q E →
      ∃ t, PSs (cxOf (L2.CX P w) P w K mg base N x (defScope st) f cdv A outer s H E) (defBody st) t ∧ t { nx := fun _ H' => Q .non H', rt := Q } (start N vs) H) : DfK P w K mg base (L2.CX P w) (k + 1) x ps sp := by
  obtain ⟨f, fd, F, m, b⟩ := D.ex
  have ok := F.okX S len (hbody f)
  have kp := F.kp
  obtain ⟨oc, od, kV, doc, pm, an, cdv, ct, osl, rfl, lk, hcd⟩ := F.ex
  exact ⟨f, _, ok, m, kp, fun s ws _ hl => .of_eq (hkw kV doc pm an cdv ct ws hl)⟩
end
end Ws
/-! ## U22 -/
/-! tuples cut, joined and repeated: which object comes back is left open -/
namespace Ws
open PySem PySem.Spec PyProof.Rows L2 PySem.P
theorem tuple_mul_none (l : Addr) (items : Array Value) (n : Nat) (dd : Option Addr) (sl : Array (Option Value)) (u : Tok) (hne : items.isEmpty = false) :
    Meets (Builtin.«tuple.__mul__» ⟨[.ref l, .int 0 u], []⟩) (fun _ R s => s.heap.get? l = some { cls := .type "tuple", dict := dd, data := .seq items n, slots := sl } ∧
      R (.ok (.ret (Value.ref s.heap.objs.size))) { s with heap := s.heap.push { cls := Value.type "tuple", data := Data.seq #[] }, toks := s.toks }) :=
  .of_wp fun prog w A R s h => by
    obtain ⟨hp, g, d, tk, os⟩ := s
    obtain ⟨hl, h⟩ := h
    have f1 := AutoSeq1.idx_int
    have c1 : (items.isEmpty || (0 : Int) == 1) = false := by rw [hne]; rfl
    wp_walk using wpAny_loadPart' hl
    repeat (first
      | (refine wpAny_ite_false (decide_eq_false (by rw [c1]; exact Bool.false_ne_true)) ?_; wp_walk using wpAny_loadPart' hl)
      | (refine wpAny_ite_true (decide_eq_true (by rfl)) ?_; wp_walk using wpAny_loadPart' hl))
    exact ⟨_, rfl, h⟩
def rRepN (K : PySem.W.Frag) : R2 := fun x y H Q => ∃ l xs, x = .ref l ∧ y = .int 0 ∧ SqT K H l xs ∧ xs ≠ [] ∧ ∀ p, H p = none → Q (.ref p) (upd H p (.tup []))
theorem op_repN {X : Cx} : OpR X (binaryOp .Mult) (rRepN X.K) := by
  intro pins s σ H x y v u Q I rx ry h
  obtain ⟨l, xs, rfl, rfl, hT, hne, q⟩ := h
  cases rx
  obtain ⟨t, rfl⟩ := ry
  obtain ⟨its, r, ⟨⟨cls, dd, data, sl⟩, ho, hc, n, hd⟩, hs⟩ := I.tuple hT
  simp only at hc hd
  subst hc hd
  have hn : its ≠ [] := fun e => hne (by
    have := r.length
    rw [e] at this
    exact List.eq_nil_of_length_eq_zero this)
  have hi : its.toArray.isEmpty = false := by
    cases its with
    | nil => exact absurd rfl hn
    | cons a b => rfl
  refine wpAny_binaryOp_repeat_ref (T := "tuple") (U := "int") (by decide) ⟨_, ho, rfl⟩ (fun s' => typeIs_int s' 0 t) noFill_tuple_mul F.fills_int_mul F.slot_int_rmul repeat_tuple F.slot_int_index.lookup
    (call_meets F.slot_int_rmul (typeIs_int s 0 t) F.entry_int_rmul (F.args_int_rmul_2 _ _) (int_rmul_tuple 0 t l its.toArray n dd sl)
      ⟨ho, rfl, ⟨_, ho, rfl⟩, call_meets F.slot_tuple_mul ⟨_, ho, rfl⟩ F.entry_tuple_mul (F.args_tuple_mul_2 _ _) (tuple_mul_none l its.toArray n dd sl t hi) ⟨ho, ?_⟩⟩)
  refine ⟨.ref s.heap.objs.size, _, I.laid (t' := s.toks) (o := .tup []) (fun b ob q => Heap.get?_push_of_some _ q) (Nat.le_refl _) ?_, rfl, q _ (I.hok.fresh (Nat.le_refl _))⟩
  exact ⟨Nat.zero_le _, [], .nil, IsTup.new _ _⟩
/-- t * k, k from 0 on -/
def rRepZ (K : PySem.W.Frag) : R2 := fun x y H Q => ∃ l k xs, x = .ref l ∧ y = .int (k : Nat) ∧ SqT K H l xs ∧ k ≤ 1000 ∧ xs.length ≤ 1000 ∧ ∀ H' p, Same H H' → SqT K H' p (List.replicate k xs).flatten → Q (.ref p) H'
theorem op_repZ {X : Cx} : OpR X (binaryOp .Mult) (rRepZ X.K) := by
  intro pins s σ H x y v u Q I rx ry h
  obtain ⟨l, k, xs, rfl, rfl, hT, h2, hz, q⟩ := h
  have fe : ∀ k : Nat, (List.replicate k ([] : List V)).flatten = [] := fun k => by
    induction k with
    | zero => rfl
    | succ k ih => rw [List.replicate_succ, List.flatten_cons, ih]; rfl
  by_cases hx : xs = []
  · subst hx
    rw [fe] at q
    by_cases h1 : 1 ≤ k
    · exact op_repB pins s σ H _ _ v u Q I rx ry ⟨l, k, [], rfl, rfl, hT, by omega, by omega, hz, fun _ => q _ _ (Same.refl _) hT, fun h => absurd rfl h⟩
    · obtain rfl : k = 0 := by omega
      have rx2 := rx
      cases rx
      obtain ⟨t, rfl⟩ := ry
      obtain ⟨its, r, ⟨⟨cls, dd, data, sl⟩, ho, hc, n, hd⟩, hs⟩ := I.tuple hT
      simp only at hc hd
      subst hc hd
      cases r
      refine wpAny_binaryOp_repeat_ref (T := "tuple") (U := "int") (by decide) ⟨_, ho, rfl⟩ (fun s' => typeIs_int s' 0 t) noFill_tuple_mul F.fills_int_mul F.slot_int_rmul repeat_tuple F.slot_int_index.lookup
        (call_meets F.slot_int_rmul (typeIs_int s 0 t) F.entry_int_rmul (F.args_int_rmul_2 _ _) (int_rmul_tuple 0 t l (#[] : Array Value) n dd sl)
          ⟨ho, rfl, ⟨_, ho, rfl⟩, call_meets F.slot_tuple_mul ⟨_, ho, rfl⟩ F.entry_tuple_mul (F.args_tuple_mul_2 _ _) (tuple_mul0 l n dd sl 0 t (by decide) rfl) ⟨ho, ?_⟩⟩)
      exact ⟨.ref l, H, I, rx2, q _ _ (Same.refl _) hT⟩
  · by_cases h1 : 1 ≤ k
    · refine op_repB pins s σ H _ _ v u Q I rx ry ⟨l, k, xs, rfl, rfl, hT, by omega, by omega, hz, fun h => ?_, fun _ _ p hp => ?_⟩
      · rcases h with h | h
        · exact absurd h hx
        · obtain rfl : k = 1 := by omega
          refine q _ _ (Same.refl _) ?_
          rw [List.replicate_succ, List.flatten_cons]
          show SqT _ _ _ (xs ++ [])
          rw [List.append_nil]
          exact hT
      · refine q _ _ (Same.new hp) (.of ?_)
        rw [upd_same, Int.toNat_natCast]
    · obtain rfl : k = 0 := by omega
      exact op_repN pins s σ H _ _ v u Q I rx ry ⟨l, xs, rfl, rfl, hT, hx, fun p hp => q _ _ (Same.new hp) (.of upd_same)⟩
/-- t + u -/
def rCatZ (K : PySem.W.Frag) : R2 := fun x y H Q => ∃ a b xs ys, x = .ref a ∧ y = .ref b ∧ SqT K H a xs ∧ SqT K H b ys ∧ xs.length + ys.length ≤ 100000 ∧ ∀ H' p, Same H H' → SqT K H' p (xs ++ ys) → Q (.ref p) H'
theorem op_catZ {X : Cx} : OpR X (binaryOp .Add) (rCatZ X.K) := by
  intro pins s σ H x y v u Q I rx ry h
  obtain ⟨a, b, xs, ys, rfl, rfl, hT, hU, hz, q⟩ := h
  refine op_catA pins s σ H _ _ v u Q I rx ry ⟨a, b, xs, ys, rfl, rfl, hT, hU, (by rw [sizeLine_eq]; omega), fun h => q _ _ (Same.refl _) ?_, fun _ h => q _ _ (Same.refl _) ?_, fun _ _ p hp => q _ _ (Same.new hp) (.of upd_same)⟩
  · rw [h]; exact hU
  · rw [h, List.append_nil]; exact hT
/-- t[lo:hi] -/
def rSlZ (K : PySem.W.Frag) : V → Option Int → Option Int → Hp → VK → Prop := fun x lo hi H Q => ∃ a xs, x = .ref a ∧ SqT K H a xs ∧ ∀ H' p, Same H H' → SqT K H' p (cutV xs lo hi) → Q (.ref p) H'
theorem sl_tupZ {X : Cx} : SlR X (rSlZ X.K) := by
  intro pins s σ H x v vl vu lo hi sl Q I rx hs pl pu h
  obtain ⟨a, xs, rfl, hT, q⟩ := h
  refine sl_tupA pins s σ H _ v vl vu lo hi sl Q I rx hs pl pu ⟨a, xs, rfl, hT, fun h => q _ _ (Same.refl _) ?_, fun _ p hp => q _ _ (Same.new hp) (.of upd_same)⟩
  have : cutV xs lo hi = xs := by
    unfold cutV
    rw [h.1, h.2, List.drop_zero, Nat.sub_zero, List.take_length]
  rw [this]
  exact hT
theorem cut_to (xs : List V) (k : Nat) : cutV xs none (some (k : Int)) = xs.take k := by
  unfold cutV
  rw [HT.sIx_none, HT.sIx_nat, List.drop_zero, Nat.sub_zero]
  by_cases h : k ≤ xs.length
  · rw [Nat.min_eq_left h]
  · rw [Nat.min_eq_right (by omega), List.take_length, List.take_of_length_le (by omega)]
theorem cut_from (xs : List V) (k : Nat) : cutV xs (some (k : Int)) none = xs.drop k := by
  unfold cutV
  rw [HT.sIx_none, HT.sIx_nat]
  by_cases h : k ≤ xs.length
  · rw [Nat.min_eq_left h, List.take_of_length_le (by rw [List.length_drop]; omega)]
  · rw [Nat.min_eq_right (by omega), List.drop_length, List.drop_eq_nil_of_le (by omega)]
    exact List.take_nil
section
variable {X : Cx} {CX : CXT} {k : Nat} {ps : List Str} {sp : Sp} {E : XK} {x : Str} {p pos : Pos}
theorem pe_fG0 (D : DfG X.prog X.w X.K X.mg X.base CX k x ps sp) (hG : X.A.guards = some []) (hr : Room k X.A) (hx : Passes CX X E) (_ha : PA X [] tNil) (hg : Gl X x := by rfl) (hdb : (x == ("__debug__" : Str)) = false := by decide) :
    PE X (.Call (.Name x p) [] [] pos) (tCa sp E tNil) := by
  obtain ⟨f, fd, F, hm, hk, hb⟩ := D.ex
  refine ⟨fun pins s σ H Q I h => ?_⟩
  refine wpAny_Call_Name_kw (ld_glob I hg hm ?_ hdb)
  exact PySem.W.callWith_K0 I.kIn hk (run_fnG (us := []) F hG hr hb hx I .nil h)
end
end Ws
/-! ## D03 -/
namespace Ws
open PySem PySem.Spec PyProof.Rows L2
def top (i : Nat) : Stmt := PySem.Challenge.pw_wholesay_k03_nots_driven_inward.main.body.getD i (.Pass ⟨0, 0, 0, 0⟩)
/-! ### what the top has written -/
structure Bl (mg : Str → Option Value) : Prop where
  isinstance : mg "isinstance" = none
  int : mg "int" = none
  bool : mg "bool" = none
  tuple : mg "tuple" = none
  list : mg "list" = none
  str : mg "str" = none
  len : mg "len" = none
  all : mg "all" = none
  any : mg "any" = none
  sum : mg "sum" = none
  max : mg "max" = none
  min : mg "min" = none
  range : mg "range" = none
  enumerate : mg "enumerate" = none
  repr : mg "repr" = none
  abs : mg "abs" = none
  sorted : mg "sorted" = none
  zip : mg "zip" = none
  reversed : mg "reversed" = none
local macro_rules | `(tactic| walk_at "nf") => `(tactic| dsimp only [tNext, tSeq, tDrop, tRet, tRetN, tIfS, tAsg, gName, gCons, gNil, tVar, tC, tOp, tUn, rI, rI0, rU, rEq, rNe, tTest, tChain, tAnd, tOr, tNot, tAndV, tOrV, tNotV, tIf, tCB, tCKw, tCons, tNil, tTup, tLst, tCa, tCallS, tB, rIxT, rIxL, rIxS, cxOf, Cx.nox, Cx.wish, Cx.blk, L2.start, tPar, tPar3, tNever, tYes])
local macro_rules | `(tactic| walk_at "sx") => `(tactic| simp only [wipe, List.map_cons, List.map_nil, List.length_cons, List.length_nil, List.cons_append, List.nil_append, List.append_nil, Nat.reduceAdd, Nat.reduceSub, List.replicate, List.getElem?_cons_zero, List.getElem?_cons_succ, List.set_cons_zero, List.set_cons_succ, Option.some.injEq, V.int.injEq, V.bl.injEq, V.ref.injEq, V.str.injEq, exists_eq_left', exists_eq_left, true_and, Bool.true_eq_false, Bool.false_eq_true, if_true, if_false])
/-! ### wholesay.kinds -/
def spIsInteger (K : PySem.W.Frag) : Sp := fun vs H Q _ => ∃ v d, vs = [v] ∧ Dp K H v d ∧ Q (.bl (isI d)) H
def spIsBetween (K : PySem.W.Frag) : Sp := fun vs H Q _ => ∃ v d lo hi, vs = [v, .int lo, .int hi] ∧ Dp K H v d ∧ Q (.bl (isBt d lo hi)) H
def spIsTupleOf (K : PySem.W.Frag) : Sp := fun vs H Q _ => ∃ v d n, vs = [v, .int n] ∧ Dp K H v d ∧ Q (.bl (isTn d n)) H
abbrev s_is_integer : Stmt := top 6
abbrev nm_is_integer : List Str := ["value"]
abbrev pr_is_integer : List Str := ["value"]
theorem sc_is_integer : FnScope nm_is_integer pr_is_integer (defScope s_is_integer) := ⟨rfl, rfl, rfl, by decide +kernel, rfl, by decide +kernel, by decide +kernel⟩
abbrev s_is_between : Stmt := top 7
abbrev nm_is_between : List Str := ["value", "low", "high"]
abbrev pr_is_between : List Str := ["value", "low", "high"]
theorem sc_is_between : FnScope nm_is_between pr_is_between (defScope s_is_between) := ⟨rfl, rfl, rfl, by decide +kernel, rfl, by decide +kernel, by decide +kernel⟩
abbrev s_is_tuple_of : Stmt := top 8
abbrev nm_is_tuple_of : List Str := ["value", "many"]
abbrev pr_is_tuple_of : List Str := ["value", "many"]
theorem sc_is_tuple_of : FnScope nm_is_tuple_of pr_is_tuple_of (defScope s_is_tuple_of) := ⟨rfl, rfl, rfl, by decide +kernel, rfl, by decide +kernel, by decide +kernel⟩
structure Cs0 (mg : Str → Option Value) : Prop where
  MOST_FACTOR : ∃ t, mg "MOST_FACTOR" = some (.int (10 ^ 9) t)
section
variable {P : Program} {w : World} {K : PySem.W.Frag} {mg : Str → Option Value} {base : Heap}
theorem ok_is_integer (B : Bl mg) (D : Dt K mg "is_integer" s_is_integer pr_is_integer) : Df P w K mg base CX0 1 "is_integer" pr_is_integer (spIsInteger K) := by
  refine D.ok sc_is_integer (fun vs H Q E h => ?_) (fun f cdv A outer s H vs Q E hr h => ?_)
  · obtain ⟨v, d, rfl, _⟩ := h
    rfl
  · obtain ⟨v, d, rfl, hd, k⟩ := h
    refine ⟨_, (pss_one (ps_ret (pe_and (pe_callB call_isi (by rfl) B.isinstance boot_isinstance (pa_cons (pv 0) (pa_cons (pe_bltn (v := .ty "int") (by rfl) B.int PyProof.Rows.boot_int rfl) pa_nil))) (pe_one (pe_not (pe_callB call_isi (by rfl) B.isinstance boot_isinstance (pa_cons (pv 0) (pa_cons (pe_bltn (v := .ty "bool") (by rfl) B.bool PyProof.Rows.boot_bool rfl) pa_nil)))))))), ?_⟩
    walk_at "nf"
    walk_at "sx"
    refine isi_int hd ⟨_, rfl, ?_⟩
    cases hx : isIB d with
    | true =>
      refine iteT (isi_bool hd ⟨_, rfl, ?_⟩)
      have e : (!isBo d) = isI d := by cases d <;> first | rfl | (simp [isIB, isI, isBo] at hx)
      rw [e]
      exact k
    | false =>
      refine iteF ?_
      have e : isI d = false := by cases d <;> first | rfl | (simp [isIB, isI, isBo] at hx)
      rw [← e]
      exact k
theorem ok_is_between (B : Bl mg) (F1 : Df P w K mg base CX0 1 "is_integer" pr_is_integer (spIsInteger K)) (D : Dt K mg "is_between" s_is_between pr_is_between) : Df P w K mg base CX0 2 "is_between" pr_is_between (spIsBetween K) := by
  refine D.ok sc_is_between (fun vs H Q E h => ?_) (fun f cdv A outer s H vs Q E hr h => ?_)
  · obtain ⟨v, d, lo, hi, rfl, _⟩ := h
    rfl
  · obtain ⟨v, d, lo, hi, rfl, hd, k⟩ := h
    refine ⟨_, (pss_one (ps_ret (pe_and (pe_f F1 (hr.mono (by decide)) pass0 (pa_cons (pv 0) pa_nil)) (pe_one (pe_chain op_le op_le (pv 1) (pv 0) (pv 2)))))), ?_⟩
    walk_at "nf"
    walk_at "sx"
    refine ⟨v, d, rfl, hd, _, rfl, ?_⟩
    cases hd with
    | int i =>
      refine iteT ⟨lo, i, rfl, rfl, ?_⟩
      by_cases c : lo ≤ i
      · rw [decide_eq_true c]
        refine iteT ⟨i, hi, rfl, rfl, ?_⟩
        have e : isBt (.int i) lo hi = decide (i ≤ hi) := by simp [isBt, c]
        rw [← e]
        exact k
      · rw [decide_eq_false c]
        refine iteF ?_
        have e : isBt (.int i) lo hi = false := by simp [isBt, c]
        rw [← e]
        exact k
    | _ => exact iteF k
theorem ok_is_tuple_of (B : Bl mg) (D : Dt K mg "is_tuple_of" s_is_tuple_of pr_is_tuple_of) : Df P w K mg base CX0 1 "is_tuple_of" pr_is_tuple_of (spIsTupleOf K) := by
  refine D.ok sc_is_tuple_of (fun vs H Q E h => ?_) (fun f cdv A outer s H vs Q E hr h => ?_)
  · obtain ⟨v, d, n, rfl, _⟩ := h
    rfl
  · obtain ⟨v, d, n, rfl, hd, k⟩ := h
    refine ⟨_, (pss_one (ps_ret (pe_and (pe_callB call_isi (by rfl) B.isinstance boot_isinstance (pa_cons (pv 0) (pa_cons (pe_bltn (v := .ty "tuple") (by rfl) B.tuple PyProof.Rows.boot_tuple rfl) pa_nil))) (pe_one (pe_cmpR op_eq (pe_callB call_len_seq (by rfl) B.len PySem.boot_len (pa_cons (pv 0) pa_nil)) (pv 1) (nomark _)))))), ?_⟩
    walk_at "nf"
    walk_at "sx"
    refine isi_tuple hd ⟨_, rfl, ?_⟩
    cases hd with
    | tup hs ha =>
      refine iteT ⟨_, _, rfl, .inr hs, rfl, ?_⟩
      rename_i a xs ds
      have e : isTn (.tuple ds) n = decide (((xs.length : Nat) : Int) = n) := by
        have := ha.length
        simp only [isTn, this]
      rw [← e]
      exact k
    | _ => exact iteF k
end
/-! ### the defs that the laws share -/
local macro_rules | `(tactic| walk_at "nf") => `(tactic| dsimp only [tNext, tSeq, tDrop, tRet, tRetN, tIfS, tAsg, gName, gTup, gCons, gNil, tVar, tC, tOp, tUn, rI, rI0, rU, rEq, rNe, tTest, tChain, tAnd, tOr, tNot, tAndV, tOrV, tNotV, tIf, tCB, tCKw, tCons, tNil, tTup, tLst, tCa, tCallS, tB, rIxT, rIxL, rIxS, cxOf, Cx.nox, Cx.wish, Cx.blk, L2.start, tPar, tPar3, tNever, tYes, tBits, tRz, tBM, rAppend, tyV, tXf, suiteEnds, gSub, rSetL, tBreak, rMax, tDGet, sDPut, tSl, tNoPart, tPart, tDisp, tPairs, tDGet2, tDNewK])
local macro_rules | `(tactic| walk_at "sx") => `(tactic| simp only [wipe, List.cons.injEq, and_assoc, exists_and_left, and_true, List.map_cons, List.map_nil, List.length_cons, List.length_nil, List.cons_append, List.nil_append, List.append_nil, Nat.reduceAdd, Nat.reduceSub, List.replicate, List.getElem?_cons_zero, List.getElem?_cons_succ, List.set_cons_zero, List.set_cons_succ, Option.some.injEq, V.int.injEq, V.bl.injEq, V.ref.injEq, V.str.injEq, exists_eq_left', exists_eq_left, true_and, Bool.true_eq_false, Bool.false_eq_true, if_true, if_false])

def spDrawW : Sp := fun vs H Q _ => ∃ (a l c : Addr) (n : Nat) (lim : Int), vs = [.ref a, .int lim] ∧ LSt H a l c n ∧ n ≤ 1000000 ∧ 1 ≤ lim ∧ lim < 2 ^ 220 ∧ ∀ H' (r : Int), Sbt a l H H' → LSt H' a l c (n + 1) → 0 ≤ r → r < lim → Q (.int r) H'
def spOf : Sp := fun vs H Q _ => ∃ (a l c p : Addr) (n : Nat) (xs : List V), vs = [.ref a, .ref p] ∧ LSt H a l c n ∧ n ≤ 1000000 ∧ H p = some (.lst xs) ∧ p ≠ a ∧ p ≠ l ∧ 1 ≤ xs.length ∧ xs.length ≤ 1000 ∧ ∀ H' x, Sbt a l H H' → LSt H' a l c (n + 1) → x ∈ xs → Q x H'
abbrev s__law_mixed : Stmt := top 38
abbrev nm__law_mixed : List Str := ["cell", "k"]
abbrev pr__law_mixed : List Str := ["cell", "k"]
theorem sc__law_mixed : FnScope nm__law_mixed pr__law_mixed (defScope s__law_mixed) := ⟨rfl, rfl, rfl, by decide +kernel, rfl, by decide +kernel, by decide +kernel⟩
abbrev s__law_draw : Stmt := top 40
abbrev nm__law_draw : List Str := ["state", "limit", "at", "place", "left", "number"]
abbrev pr__law_draw : List Str := ["state", "limit"]
theorem sc__law_draw : FnScope nm__law_draw pr__law_draw (defScope s__law_draw) := ⟨rfl, rfl, rfl, by decide +kernel, rfl, by decide +kernel, by decide +kernel⟩
abbrev s__law_like : Stmt := top 45
abbrev nm__law_like : List Str := ["got", "due"]
abbrev pr__law_like : List Str := ["got", "due"]
theorem sc__law_like : FnScope nm__law_like pr__law_like (defScope s__law_like) := ⟨rfl, rfl, rfl, by decide +kernel, rfl, by decide +kernel, by decide +kernel⟩
abbrev s__law_begin : Stmt := top 39
abbrev nm__law_begin : List Str := ["script", "cells_so", "cell"]
abbrev pr__law_begin : List Str := ["script"]
theorem sc__law_begin : FnScope nm__law_begin pr__law_begin (defScope s__law_begin) := ⟨rfl, rfl, rfl, by decide +kernel, rfl, by decide +kernel, by decide +kernel⟩
section
variable {P : Program} {w : World} {K : PySem.W.Frag} {mg : Str → Option Value} {base : Heap}
theorem ok_mixed (B : Bl mg) (D : Dt K mg "_law_mixed" s__law_mixed pr__law_mixed) : Df P w K mg base CX0 1 "_law_mixed" pr__law_mixed spMixed := by
  refine D.ok sc__law_mixed (fun vs H Q E h => ?_) (fun f cdv A outer s H vs Q E hr h => ?_)
  · obtain ⟨i, k, rfl, _⟩ := h
    rfl
  · obtain ⟨i, k, rfl, hk1, hk2, q⟩ := h
    refine ⟨_, (pss_cons (ps_set (i := 0) sc__law_mixed.nd rfl (Or.inl rfl) (pe_op op_mod (pe_callTy call_int1 (by rfl) B.int PyProof.Rows.boot_int (pa_cons (pv 0) pa_nil)) pe_int)) (pss_one (ps_ret (pe_op op_mod (pe_op op_mul (pe_op op_mod (pe_op op_add (pe_op op_add (pe_op op_mul (pv 0) (pe_op op_add pe_int (pe_op op_mul (pe_op op_mul pe_int (pv 1)) (pv 1)))) (pe_op op_mul pe_int (pv 1))) pe_int) pe_int) pe_int) pe_int)))), ?_⟩
    walk_at "nf"
    walk_at "sx"
    have m1 := Int.emod_nonneg i (show (2147483647 : Int) ≠ 0 by decide)
    have m2 := Int.emod_lt_of_pos i (show (0 : Int) < 2147483647 by decide)
    generalize hz : (i % 2147483647 * (48271 + 2 * k * k) + 69621 * k + 11) = z
    refine .inl ⟨by decide, .inl ⟨by decide, by decide⟩, .inr ⟨by omega, by omega⟩, .inl ⟨by omega, by omega⟩, .inl ⟨by decide, by decide⟩, by decide, .inr ⟨by decide, by decide⟩, by decide, q _ (Int.emod_nonneg _ (by decide)) (Int.emod_lt_of_pos _ (by decide))⟩
theorem ok_draw (B : Bl mg) (F1 : Df P w K mg base CX0 1 "_law_mixed" pr__law_mixed spMixed) (D : Dt K mg "_law_draw" s__law_draw pr__law_draw) : Df P w K mg base CX0 2 "_law_draw" pr__law_draw spDrawW := by
  refine D.ok sc__law_draw (fun vs H Q E h => ?_) (fun f cdv A outer s H vs Q E hr h => ?_)
  · obtain ⟨a, l, c, n, lim, rfl, _⟩ := h
    rfl
  · obtain ⟨a, l, c, n, lim, rfl, hs, hn, h1, h2, k⟩ := h
    refine ⟨_, (pss_cons (ps_set (i := 2) sc__law_draw.nd rfl (Or.inl rfl) (pe_dget (hu_of hr) (pv 0) pe_str (fun _ _ => rfl))) (pss_cons (ps_dput (hu_of hr) (pv 0) pe_str (pe_op op_add (pv 2) pe_int) rfl) (pss_cons (ps_set (i := 3) sc__law_draw.nd rfl (Or.inl rfl) (pe_op op_mod (pe_callTy call_int1 (by rfl) B.int PyProof.Rows.boot_int (pa_cons (pv 2) pa_nil)) (pe_callB call_len_seq (by rfl) B.len PySem.boot_len (pa_cons (pe_dget (hu_of hr) (pv 0) pe_str (fun _ _ => rfl)) pa_nil)))) (pss_cons (ps_set (i := 4) sc__law_draw.nd rfl (Or.inl rfl) (pe_ix ix_list (pe_dget (hu_of hr) (pv 0) pe_str (fun _ _ => rfl)) (pv 3) (fun _ _ => rfl))) (pss_cons (ps_if (pt_cmpR op_gt (pv 4) pe_int (nomark _)) (pss_cons (ps_asg (pe_op op_fdivW (pv 4) (pv 1)) (pg_sub (pe_dget (hu_of hr) (pv 0) pe_str (fun _ _ => rfl)) (pv 3) set_list)) (pss_one (ps_ret (pe_op op_mod (pe_callTy call_int1 (by rfl) B.int PyProof.Rows.boot_int (pa_cons (pv 4) pa_nil)) (pv 1))))) pss_nil) (pss_cons (ps_set (i := 5) sc__law_draw.nd rfl (Or.inl rfl) (pe_f F1 (hr.mono (by decide)) pass0 (pa_cons (pe_f F1 (hr.mono (by decide)) pass0 (pa_cons (pe_ix ix_list (pe_dget (hu_of hr) (pv 0) pe_str (fun _ _ => rfl)) (pv 3) (fun _ _ => rfl)) (pa_cons (pv 2) pa_nil))) (pa_cons (pe_op op_add pe_int (pv 2)) pa_nil)))) (pss_one (ps_ret (pe_op op_mod (pe_op op_fdiv (pe_callTy call_int1 (by rfl) B.int PyProof.Rows.boot_int (pa_cons (pe_op op_add (pe_op op_mul (pv 5) pe_int) (pe_f F1 (hr.mono (by decide)) pass0 (pa_cons (pv 5) (pa_cons (pe_op op_add pe_int (pv 2)) pa_nil)))) pa_nil)) pe_int) (pv 1)))))))))), ?_⟩
    walk_at "nf"
    walk_at "sx"
    obtain ⟨cs, ls, m, S⟩ := hs
    have hac : a ≠ c := ne_of S.top S.cells (by intro z; cases z)
    have hal : a ≠ l := ne_of S.top S.lefts (by intro z; cases z)
    have hq : m % cs.length < cs.length := Nat.mod_lt _ S.pos
    have hq2 : m % cs.length < ls.length := by rw [S.len]; exact hq
    have em : ((m : Nat) : Int) % (((cs.map V.int).length : Nat) : Int) = ((m % cs.length : Nat) : Int) := by
      rw [List.length_map]
      exact (Int.natCast_emod m cs.length).symm
    have top1 : upd H a (.dK (stK c l (m + 1))) a = some (.dK (stK c l (m + 1))) := upd_same
    have cells1 : upd H a (.dK (stK c l (m + 1))) c = some (.lst (cs.map V.int)) := by rw [upd_ne (Ne.symm hac)]; exact S.cells
    have lefts1 : upd H a (.dK (stK c l (m + 1))) l = some (.lst (ls.map V.int)) := by rw [upd_ne (Ne.symm hal)]; exact S.lefts
    have few := S.few
    refine ⟨_, dg_at S.top, m, rfl, _, dp_at S.top, .inl ⟨m, rfl, _, dg_cells top1, c, rfl, _, .inl (.of cells1), by rw [List.length_map]; have := S.pos; omega, _, dg_lefts top1, l, rfl, _, .of lefts1, ?_⟩⟩
    rw [em]
    refine ⟨V.int (ls.getD (m % cs.length) 0), atI_nat (by simp [hq2]), _, rfl, ?_⟩
    generalize hleft : ls.getD (m % cs.length) 0 = left
    by_cases hp : 0 < left
    · rw [decide_eq_true hp]
      refine iteT ⟨left, rfl, wide_div (b := 220) (by omega) (by omega) (by decide) (by decide), _, dg_lefts top1, l, rfl, _, lefts1, m % cs.length, ?_, .inl ⟨left, rfl, by omega, ?_⟩⟩
      · unfold ixN
        rw [if_pos (by omega), List.length_map, if_pos (by omega), Int.toNat_natCast]
      · refine k _ _ (Sbt.refl H).a.l ⟨cs, ls.set (m % cs.length) (left / lim), m + 1, ?_, ?_, ?_, by rw [List.length_set]; exact S.len, S.pos, by omega, S.apart⟩ (Int.emod_nonneg _ (by omega)) (Int.emod_lt_of_pos _ (by omega))
        · rw [upd_ne hal]
          exact top1
        · rw [upd_ne S.apart]
          exact cells1
        · rw [upd_same, List.map_set]
    · rw [decide_eq_false hp]
      have fin : ∀ r : Int, 0 ≤ r → r < lim → Q (.int r) (upd H a (.dK (stK c l (m + 1)))) := fun r r1 r2 => k _ r (Sbt.refl H).a ⟨cs, ls, m + 1, top1, cells1, lefts1, S.len, S.pos, by omega, S.apart⟩ r1 r2
      refine iteF ⟨_, dg_cells top1, c, rfl, _, .of cells1, V.int (cs.getD (m % cs.length) 0), atI_nat (by simp [hq]), _, _, rfl, by omega, by omega, fun r1 a1 b1 => ⟨m, rfl, _, _, rfl, by omega, by omega, fun r2 a2 b2 => ⟨r2, rfl, .inr ⟨by decide, by decide⟩, m, rfl, _, _, rfl, by omega, by omega, fun r3 a3 b3 => ⟨r3, rfl, .inl ⟨⟨by decide, by decide⟩, by omega, ?_⟩⟩⟩⟩⟩
      exact fin _ (Int.emod_nonneg _ (by omega)) (Int.emod_lt_of_pos _ (by omega))
theorem ok_like (B : Bl mg) (D : Dt K mg "_law_like" s__law_like pr__law_like) : DfG P w K mg base CX0 1 "_law_like" pr__law_like (spLike K) := by
  refine D.okG sc__law_like (fun vs H Q E h => ?_) (fun f cdv A outer s H vs Q E hG hr h => ?_)
  · obtain ⟨v, u, d, N, D, rfl, _⟩ := h
    rfl
  · obtain ⟨v, u, d, N, D, rfl, hv, hu, hs, hN, hD, k⟩ := h
    refine ⟨_, (pss_one (ps_ret (pe_cmpR op_eq (pe_callB (call_reprD hG hr.units) (by rfl) B.repr boot_repr (pa_cons (pv 0) pa_nil)) (pe_callB (call_reprD hG hr.units) (by rfl) B.repr boot_repr (pa_cons (pv 1) pa_nil)) (nomark _)))), ?_⟩
    walk_at "nf"
    walk_at "sx"
    refine ⟨d, hv, hs.sh, hs.nd, by have := hs.dp; omega, hs.fits hN, d, hu, hs.sh, hs.nd, by have := hs.dp; omega, hs.fits hN, rfl, ?_⟩
    rw [decide_eq_true rfl]
    exact k
theorem ok_begin (B : Bl mg) (D : Dt K mg "_law_begin" s__law_begin pr__law_begin) : Df P w K mg base CX0 1 "_law_begin" pr__law_begin (spBegin K) := by
  refine D.ok sc__law_begin (fun vs H Q E h => ?_) (fun f cdv A outer s H vs Q E hr h => ?_)
  · obtain ⟨p, is, rfl, _⟩ := h
    rfl
  · obtain ⟨p, is, rfl, hs, hl, k⟩ := h
    refine ⟨_, (pss_cons (ps_set (i := 1) sc__law_begin.nd rfl (Or.inl rfl) (pe_ifExp (pt_cmpR (op_neD hr.units) (pv 0) (pe_lst pa_nil) (nomark _)) (pe_callTy call_list_of (by rfl) B.list PyProof.Rows.boot_list (pa_cons (pv 0) pa_nil)) (pe_lst (pa_cons pe_int pa_nil)))) (pss_one (ps_ret (pe_disp (pps_cons pe_str (pv 1) (pps_cons pe_str (pe_lc (own := [("cell", 2)]) (g := gName 2) (tt := tYes) (by rfl) sc__law_begin.nd (pi_list (pv 1)) (blkOk_by (own := [("cell", 2)]) (N := nm__law_begin) (sc := defScope s__law_begin) (by decide +kernel)) (fun _ _ _ _ _ => pg_name (i := 2) sc__law_begin.nd rfl (Or.inl rfl)) (fun _ _ _ _ _ => pts_nil) (fun _ _ _ _ _ => (pe_ifExp (pt_cmpR op_ge (pv 2) (pe_op op_pow pe_int pe_int) (nomark _)) (pv 2) pe_int))) (pps_cons pe_str pe_int pps_nil))) (by rfl) (by rfl) (fun z => by cases z) (by decide))))), ?_⟩
    walk_at "nf"
    walk_at "sx"
    have fin : ∀ (G : Hp) (l : Addr) (zs : List Int), Same H G → G l = some (.lst (zs.map V.int)) → 0 < zs.length → zs.length ≤ 1000 → ∀ p2, G p2 = none →
        tLc (iList K (tVar 1)) (gName 2) tYes (tIf (tTest (tOp (rI0 fun i j => V.bl (decide (j ≤ i))) (tVar 2) (tOp (rI CPow fun i j => V.int (i ^ j.toNat)) (tC (V.int 10)) (tC (V.int 18))))) (tVar 2) (tC (V.int 0)))
          [2] [some (V.ref p), some (V.ref l), none] (upd G p2 (HO.dK [])) fun y H2 => H2 p2 = some (HO.dK []) ∧ ∃ kvs : List (Key × V),
            [(V.str (Str.ofString "cells"), V.ref l), (V.str (Str.ofString "lefts"), y), (V.str (Str.ofString "at"), V.int 0)] = List.map (fun kv => (kV kv.fst, kv.snd)) kvs ∧ kvs.length ≤ 15 ∧ Q (V.ref p2) (upd H2 p2 (HO.dK (mergeK [] kvs))) := by
      intro G l zs e hl2 hz1 hz2 p2 hp2
      have hl3 : upd G p2 (HO.dK []) l = some (.lst (zs.map V.int)) := by rw [upd_ne (ne_of_none hl2 hp2)]; exact hl2
      try walk_at "nf"
      try walk_at "sx"
      refine ⟨_, rfl, l, rfl, ⟨_, .of hl3⟩, fun D hD => lcS walk_list hD (by rw [List.length_map]; exact slt (by omega)) (fun _ y => ∃ z : Int, y = .int z) (fun H1 e1 => .of (e1 _ _ hl3)) (fun i x H1 H2 Q1 hi1 e1 y q => ?_) (fun H1 ys e1 hy hn hr => ?_)⟩
      · obtain ⟨rfl, hx⟩ := y
        obtain ⟨z, hz, rfl⟩ := List.mem_map.mp (List.mem_of_getElem? hx)
        try walk_at "nf"
        try walk_at "sx"
        refine ⟨⟨by decide, by decide, by decide⟩, ?_⟩
        refine ite2 (fun _ => q _ _ ⟨_, rfl⟩ (Same.refl _)) (fun _ => q _ _ ⟨_, rfl⟩ (Same.refl _))
      · obtain ⟨ls, rfl, hlen⟩ := ints_any hr
        have hp3 : H1 p2 = some (.dK []) := e1 _ _ upd_same
        refine ⟨hp3, [(.inr "cells", .ref l), (.inr "lefts", .ref D), (.inr "at", .int 0)], rfl, by show 3 ≤ 15; omega, ?_⟩
        have em : mergeK [] [((.inr ("cells" : Str) : Key), V.ref l), (.inr ("lefts" : Str), V.ref D), (.inr ("at" : Str), V.int 0)] = stK l D 0 := by
          have k4 : ¬ (("lefts" : Str) = "cells") := by decide +kernel
          have k5 : ¬ (("cells" : Str) = "lefts") := ks3
          simp [mergeK, putK, stK, ks1, ks2, k4, k5]
        rw [em]
        have hl4 := e1 _ _ hl3
        have hDl : D ≠ l := fun z => by rw [z, hl3] at hD; cases hD
        refine k _ p2 D l ?_ ⟨zs, ls, 0, upd_same, by rw [upd_ne (ne_of_none hl2 hp2)]; exact hl4, by rw [upd_ne (fun z => by rw [z, upd_same] at hD; cases hD)]; exact hy, by rw [hlen, hn, List.length_map], hz1, Nat.le_refl _, Ne.symm hDl⟩
        intro b o hb
        have hb2 := e _ _ hb
        have nb : b ≠ p2 := ne_of_none hb2 hp2
        rw [upd_ne nb]
        exact e1 _ _ (by rw [upd_ne nb]; exact hb2)
    refine ⟨by decide, fun p1 hp1 => ⟨.list (is.map PyData.int), .list [], .lst ((Same.new hp1).seq hs) (DpAll.ints is), .lst (.of upd_same) .nil, shaped_ints is, rfl, _, rfl, ?_⟩⟩
    cases is with
    | nil => exact iteF ⟨by decide, fun p2 hp2 => fun p3 hp3 => fin _ p2 [0] ((Same.new hp1).then_new hp2) upd_same (by decide) (by decide) p3 hp3⟩
    | cons z zs =>
      refine iteT ⟨_, .inl ((Same.new hp1).seq hs), fun p2 hp2 => fun p3 hp3 => fin _ p2 (z :: zs) ((Same.new hp1).then_new hp2) upd_same (by simp) hl p3 hp3⟩
end
end Ws
/-! ## U27 -/
namespace Ws
open PySem PySem.Spec PyProof.Rows L2 RZ
theorem walk_zipT {K : PySem.W.Frag} {a b : Addr} {xs ys : List V} : Walk (ItzT K a b) (min xs.length ys.length) (fun H => SqT K H a xs ∧ SqT K H b ys) (YPair (fun i => xs[i]?) (fun i => ys[i]?)) := by
  refine ⟨fun i _ hi q => ⟨xs, ys, xs[i]'(by omega), ys[i]'(by omega), q.1, q.2, by rw [List.getElem?_eq_getElem], by rw [List.getElem?_eq_getElem]⟩, fun _ q => ⟨xs, ys, q.1, q.2, by omega⟩, fun i H v H' _ q y => ?_⟩
  obtain ⟨T, x, z, h1, h2, h3, h4, h5⟩ := y
  exact ⟨T, x, z, h1, h2, h3, h4 xs q.1, h5 ys q.2⟩
def intsD (xs : List Int) : PyData := .tuple (xs.map PyData.int)
section
variable {K : PySem.W.Frag}
def isS : PyData → Bool
  | .str _ => true
  | _ => false
theorem kit_str : ∀ d : PyData, PySem.W.kitOne K (.type (tyName d)) (.type "str") = some (isS d)
  | .none => kit_ty (by decide +kernel)
  | .bool _ => kit_ty (by show kitB "bool" "str" = some false; decide +kernel)
  | .int _ => kit_ty (by show kitB "int" "str" = some false; decide +kernel)
  | .str _ => kit_ty (by show kitB "str" "str" = some true; decide +kernel)
  | .list _ => kit_ty (by show kitB "list" "str" = some false; decide +kernel)
  | .tuple _ => kit_ty (by show kitB "tuple" "str" = some false; decide +kernel)
  | .dict _ => kit_ty (by show kitB "dict" "str" = some false; decide +kernel)
theorem isi_str {H : Hp} {v : V} {d : PyData} {Q : VK} (h : Dp K H v d) (q : Q (.bl (isS d)) H) : rIsi K [v, .ty "str"] H Q := ⟨v, _, _, _, _, rfl, .ty _, dp_ty h, kit_str d, q⟩
end
/-- an error of the class at C with a field f of the data d is handed on -/
def OutF (K : PySem.W.Frag) (C : Addr) (f : Str) (d : PyData) (H : Hp) (E : XK) : Prop := ∀ H' dd u, Same H H' → Dp K H' u d → H' dd = some (.xd [(f, u)]) → E (.ref C) (some dd) H'
theorem OutF.to {K : PySem.W.Frag} {C : Addr} {f : Str} {d : PyData} {H H1 : Hp} {E : XK} (h : OutF K C f d H E) (e : Same H H1) : OutF K C f d H1 E := fun H' dd u e' => h H' dd u (e.trans e')
theorem rz_f {K : PySem.W.Frag} {C : Addr} {f : Str} {d : PyData} {H H1 : Hp} {E : XK} {v : V} {σ : L2.St} (h : OutF K C f d H E) (e : Same H H1) (hv : Dp K H1 v d) : rzQ C f (fun cls d _ H => E cls d H) σ v H1 := rz_ok fun dd hd => h _ dd v (e.then_new hd) (hv.to (Same.new hd)) upd_same
def OutW (C : Addr) (f : Str) (v : V) (H : Hp) (E : XK) : Prop := ∀ H' dd, Same H H' → H' dd = some (.xd [(f, v)]) → E (.ref C) (some dd) H'
theorem rz_w {C : Addr} {f : Str} {H H1 : Hp} {E : XK} {v : V} {σ : L2.St} (h : OutW C f v H E) (e : Same H H1) : rzQ C f (fun cls d _ H => E cls d H) σ v H1 := rz_ok fun dd hd => h _ dd (e.then_new hd) upd_same

theorem noList_ints (xs : List Int) : noList (intsD xs) = true := noListAll_of fun x hx => by
  obtain ⟨i, _, rfl⟩ := List.mem_map.mp hx
  rfl
/-! ### what a tuple of told data is -/
theorem tup_view {K : PySem.W.Frag} {H : Hp} {α : Type} {f : α → PyData} {xs : List α} {v : V} (h : Dp K H v (.tuple (xs.map f))) : ∃ p zs, v = .ref p ∧ SqT K H p zs ∧ zs.length = xs.length ∧ (∀ (i : Nat) z, zs[i]? = some z → ∃ x, xs[i]? = some x ∧ Dp K H z (f x)) ∧ DpAll K H zs (xs.map f) := by
  obtain ⟨p, zs, rfl, hs, ha⟩ := h.tup_inv
  have hl := ha.length
  rw [List.length_map] at hl
  refine ⟨p, zs, rfl, hs, hl, fun i z hz => ?_, ha⟩
  obtain ⟨d, h1, h2⟩ := ha.getV hz
  rw [List.getElem?_map] at h1
  cases e : xs[i]? with
  | none => rw [e] at h1; cases h1
  | some x =>
    rw [e] at h1
    cases h1
    exact ⟨x, rfl, h2⟩
theorem row_view {K : PySem.W.Frag} {H : Hp} {v : V} {ns : List Nat} (h : Dp K H v (rowD ns)) : ∃ p, v = .ref p ∧ SqT K H p ((nI ns).map V.int) := h.ints_tup
theorem row_of {K : PySem.W.Frag} {H : Hp} {p : Addr} {ns : List Nat} (h : SqT K H p ((nI ns).map V.int)) : Dp K H (.ref p) (rowD ns) := Dp.tup_ints h
theorem nI_get {ns : List Nat} {i : Nat} {x : V} (h : ((nI ns).map V.int)[i]? = some x) : ∃ n, ns[i]? = some n ∧ x = .int (n : Nat) := by
  unfold nI at h
  rw [List.map_map, List.getElem?_map] at h
  cases e : ns[i]? with
  | none => rw [e] at h; cases h
  | some n => rw [e] at h; cases h; exact ⟨n, rfl, rfl⟩
theorem nI_app (a b : List Nat) : nI (a ++ b) = nI a ++ nI b := List.map_append
end Ws
/-! ## C27 -/
namespace Ws
open PySem PySem.Spec PyProof.Rows L2 LamX
/-! ### data that is drawn: what an expression that draws may make -/
theorem Tabs.sbt {T : List (Addr × Str)} {a l c : Addr} {m : Nat} {H H' : Hp} (t : Tabs T H) (s : LSt H a l c m) (e : Sbt a l H H') : Tabs T H' := fun x hx => by
  obtain ⟨ps, h1, h2, h3⟩ := t x hx
  obtain ⟨cs, ls, k, S⟩ := s
  refine ⟨ps, e _ _ h1 (fun z => by rw [z, S.top] at h1; cases h1) (fun z => by rw [z, S.lefts] at h1; cases h1), h2, fun pos cv hc => ?_⟩
  obtain ⟨c, e1, e2⟩ := h3 pos cv hc
  exact ⟨c, e1, e _ _ e2 (fun z => by rw [z, S.top] at e2; cases e2) (fun z => by rw [z, S.lefts] at e2; cases e2)⟩
def GX (S : List Addr) (H H' : Hp) : Prop := ExtN (hid S H) (hid S H') ∧ ∀ T, Tabs T H → Tabs T H'
theorem GX.refl {S : List Addr} (H : Hp) : GX S H H := ⟨ExtN.refl _, fun _ t => t⟩
theorem GX.trans {S : List Addr} {H H1 H2 : Hp} (a : GX S H H1) (b : GX S H1 H2) : GX S H H2 := ⟨ExtN.trans a.1 b.1, fun T t => b.2 T (a.2 T t)⟩
theorem GX.of {S : List Addr} {H H1 : Hp} (e : Same H H1) : GX S H H1 := ⟨hid_ext (Same.extN e), fun T t => Tabs.same t e⟩
theorem GX.new {S : List Addr} {H : Hp} {p : Addr} {o : HO} (h : H p = none) : GX S H (upd H p o) := GX.of (Same.new h)
theorem gx_sbt {a l c : Addr} {m : Nat} {H H1 : Hp} (s : LSt H a l c m) (e : Sbt a l H H1) : GX [a, l] H H1 := ⟨fun b o h n => by
  unfold hid at h ⊢
  split at h
  · cases h
  · rename_i m
    rw [if_neg m]
    simp only [List.mem_cons, List.not_mem_nil, or_false, not_or] at m
    exact e b o h m.1 m.2, fun T t => Tabs.sbt t s e⟩
theorem lst_st {H : Hp} {a l c : Addr} {m : Nat} (h : LSt H a l c m) : Lsts [a, l] H := fun b hb => by
  obtain ⟨cs, ls, k, S⟩ := h
  simp only [List.mem_cons, List.not_mem_nil, or_false] at hb
  rcases hb with rfl | rfl
  · exact ⟨_, S.top, .inr ⟨_, rfl⟩⟩
  · exact ⟨_, S.lefts, .inl ⟨_, rfl⟩⟩
section
variable {K : PySem.W.Frag} {S : List Addr} {H H1 : Hp}
theorem _root_.L2.Dp.gx {v : V} {d : PyData} (h : Dp K (hid S H) v d) (e : GX S H H1) : Dp K (hid S H1) v d := Dp.ext e.1 d v h
theorem _root_.L2.DpAll.gx {v : List V} {d : List PyData} (h : DpAll K (hid S H) v d) (e : GX S H H1) : DpAll K (hid S H1) v d := Dp.exts e.1 d v h
end
section
variable (K : PySem.W.Frag) (a l c : Addr)
def DW (s : Nat) (te : TE) (σ : L2.St) (H : Hp) (P : PyData → Prop) : Prop := ∀ H1 m, GX [a, l] H H1 → LSt H1 a l c m → m + s ≤ 1000000 → ∀ Q : VK, (∀ H' v d, GX [a, l] H1 H' → LSt H' a l c (m + s) → P d → Dp K (hid [a, l] H') v d → Q v H') → te σ H1 Q
def DWs (s : Nat) (ta : TA) (σ : L2.St) (H : Hp) (P : List PyData → Prop) : Prop := ∀ H1 m, GX [a, l] H H1 → LSt H1 a l c m → m + s ≤ 1000000 → ∀ Q : List V → Hp → Prop, (∀ H' vs ds, GX [a, l] H1 H' → LSt H' a l c (m + s) → P ds → DpAll K (hid [a, l] H') vs ds → Q vs H') → ta σ H1 Q
end
def OW (to : TO) (σ : L2.St) (o : Option Int) : Prop := ∀ H Q, Q o H → to σ H Q
theorem OW.no {σ : L2.St} : OW tNoPart σ none := fun _ _ q => q
theorem OW.int {σ : L2.St} {i : Int} : OW (tPart (tC (.int i))) σ (some i) := fun _ _ q => ⟨i, rfl, q⟩
theorem OW.neg {σ : L2.St} {i : Int} : OW (tPart (tUn (rU fun i => V.int (-i)) (tC (.int i)))) σ (some (-i)) := fun _ _ q => ⟨i, rfl, -i, rfl, q⟩
theorem OW.var {σ : L2.St} {j : Nat} {i : Int} (h : σ[j]? = some (some (.int i))) : OW (tPart (tVar j)) σ (some i) := fun _ _ q => ⟨_, h, i, rfl, q⟩
theorem OW.add {σ : L2.St} {j : Nat} {i k : Int} (h : σ[j]? = some (some (.int i))) : OW (tPart (tOp (rI0 fun i j => V.int (i + j)) (tVar j) (tC (.int k)))) σ (some (i + k)) := fun _ _ q => ⟨_, h, i, k, rfl, rfl, i + k, rfl, q⟩
def cutD (xs : List PyData) (lo hi : Option Int) : List PyData := (xs.drop (HT.sIx xs.length 0 lo)).take (HT.sIx xs.length xs.length hi - HT.sIx xs.length 0 lo)
section
variable {K : PySem.W.Frag} {a l c : Addr} {s s1 s2 : Nat} {te ta tb : TE} {tas : TA} {σ : L2.St} {H : Hp} {P R : PyData → Prop} {Ps : List PyData → Prop}
theorem cut_dp {H : Hp} {xs : List V} {ds : List PyData} (h : DpAll K H xs ds) (lo hi : Option Int) : DpAll K H (cutV xs lo hi) (cutD ds lo hi) := by
  unfold cutV cutD
  rw [h.length]
  exact (h.drop _).take _
theorem DW.mono (h : DW K a l c s te σ H P) (hp : ∀ d, P d → R d) (hs : s ≤ s1 := by omega) : DW K a l c s1 te σ H R := fun H1 m g t b Q q => h H1 m g t (by omega) Q fun H' v d g2 t2 p hv => q H' v d g2 (t2.mono (by omega)) (hp d p) hv
theorem DW.int {i : Int} : DW K a l c 0 (tC (.int i)) σ H (· = .int i) := fun H1 m _ t _ Q q => q H1 _ _ (GX.refl _) t rfl (.int i)
theorem DW.str {x : Str} : DW K a l c 0 (tC (.str x)) σ H (· = .str x) := fun H1 m _ t _ Q q => q H1 _ _ (GX.refl _) t rfl (.str x)
theorem DW.bl {b : Bool} : DW K a l c 0 (tC (.bl b)) σ H (· = .bool b) := fun H1 m _ t _ Q q => q H1 _ _ (GX.refl _) t rfl (.bl b)
theorem DW.non : DW K a l c 0 (tC .non) σ H (· = .none) := fun H1 m _ t _ Q q => q H1 _ _ (GX.refl _) t rfl .non
theorem DW.var {i : Nat} {v : V} {d : PyData} (h : σ[i]? = some (some v)) (hd : Dp K (hid [a, l] H) v d) : DW K a l c 0 (tVar i) σ H (· = d) := fun H1 m g t _ Q q => ⟨v, h, q H1 v d (GX.refl _) t rfl (hd.gx g)⟩
theorem DWs.nil : DWs K a l c 0 tNil σ H (· = []) := fun H1 m _ t _ Q q => q H1 [] [] (GX.refl _) t rfl .nil
theorem DWs.cons (x : DW K a l c s1 te σ H P) (y : DWs K a l c s2 tas σ H Ps) : DWs K a l c (s1 + s2) (tCons te tas) σ H (fun ds => ∃ d es, ds = d :: es ∧ P d ∧ Ps es) := fun H1 m g t b Q q =>
  x H1 m g t (by omega) _ fun H2 v d g2 t2 p hv => y H2 _ (g.trans g2) t2 (by omega) _ fun H3 vs es g3 t3 ps hs => q H3 (v :: vs) (d :: es) (g2.trans g3) (t3.mono (by omega)) ⟨d, es, rfl, p, ps⟩ (.cons (hv.gx g3) hs)
theorem DWs.one (x : DW K a l c s te σ H P) : DWs K a l c s (tCons te tNil) σ H (fun ds => ∃ d, ds = [d] ∧ P d) := fun H1 m g t b Q q =>
  x H1 m g t b _ fun H2 v d g2 t2 p hv => q H2 [v] [d] g2 t2 ⟨d, rfl, p⟩ (.cons hv .nil)
theorem DW.tup (x : DWs K a l c s tas σ H Ps) (hl : ∀ ds, Ps ds → ds.length ≤ 100000) : DW K a l c s (tTup tas) σ H (fun d => ∃ ds, d = .tuple ds ∧ Ps ds) := fun H1 m g t b Q q =>
  x H1 m g t b _ fun H2 vs ds g2 t2 p hs => ⟨by have := hl ds p; rw [hs.length, sizeLine_eq]; omega, fun r hr => q _ _ _ (g2.trans (GX.new hr)) (t2.new hr) ⟨ds, rfl, p⟩ (.tup (seqT_hid (lst_st (t2.new hr)) (.of upd_same)) (hs.gx (GX.new hr)))⟩
theorem DW.cat (x : DW K a l c s1 ta σ H P) (y : DW K a l c s2 tb σ H R) (hp : ∀ d, P d → ∃ ds, d = .tuple ds ∧ ds.length ≤ 100000) (hr : ∀ d, R d → ∃ ds, d = .tuple ds ∧ ds.length ≤ 100000) :
    DW K a l c (s1 + s2) (tOp (rCatA K) ta tb) σ H (fun d => ∃ ds es, d = .tuple (ds ++ es) ∧ P (.tuple ds) ∧ R (.tuple es)) := fun H1 m g t b Q q =>
  x H1 m g t (by omega) _ fun H2 v d g2 t2 p hv => y H2 _ (g.trans g2) t2 (by omega) _ fun H3 u e g3 t3 r hu => by
    obtain ⟨ds, rfl, hl1⟩ := hp d p
    obtain ⟨es, rfl, hl2⟩ := hr e r
    obtain ⟨p1, xs, rfl, hs1, ha1⟩ := hv.tup_inv
    obtain ⟨p2, ys, rfl, hs2, ha2⟩ := hu.tup_inv
    refine cat_ok (seqTE hid_out (seqTE g3.1 hs1)) (seqTE hid_out hs2) (by rw [ha1.length, ha2.length, sizeLine_eq]; omega) fun r1 H4 e4 h4 => ?_
    have t4 := t3.same e4
    exact q _ _ _ ((g2.trans g3).trans (GX.of e4)) (t4.mono (by omega)) ⟨ds, es, rfl, p, r⟩ (.tup (seqT_hid (lst_st t4) h4) ((ha1.gx (g3.trans (GX.of e4))).append (ha2.gx (GX.of e4))))
theorem DW.cut {lo hi : Option Int} {to tu : TO} (x : DW K a l c s te σ H P) (h1 : OW to σ lo) (h2 : OW tu σ hi) (hp : ∀ d, P d → ∃ ds, d = .tuple ds) :
    DW K a l c s (L2.tSl (rSlA K) te to tu) σ H (fun d => ∃ ds, d = .tuple (cutD ds lo hi) ∧ P (.tuple ds)) := fun H1 m g t b Q q =>
  x H1 m g t b _ fun H2 v d g2 t2 p hv => h1 _ _ (h2 _ _ (by
    obtain ⟨ds, rfl⟩ := hp d p
    obtain ⟨p1, xs, rfl, hs1, ha1⟩ := hv.tup_inv
    refine sl_ok (seqTE hid_out hs1) fun r1 H4 e4 h4 => ?_
    have t4 := t2.same e4
    exact q _ _ _ (g2.trans (GX.of e4)) t4 ⟨ds, rfl, p⟩ (.tup (seqT_hid (lst_st t4) h4) ((cut_dp ha1 lo hi).gx (GX.of e4)))))
theorem at_dp {H : Hp} {xs : List V} {ds : List PyData} {i : Int} {d : PyData} (h : DpAll K H xs ds) (e : atI ds i = some d) : ∃ x, atI xs i = some x ∧ Dp K H x d := by
  unfold atI at e ⊢
  rw [h.length]
  cases hi : ixN ds.length i with
  | none => rw [hi] at e; cases e
  | some j =>
    rw [hi] at e
    have hj : j < ds.length := (List.getElem?_eq_some_iff.mp (show ds[j]? = some d from e)).1
    obtain ⟨x, hx, _, hd⟩ := h.at_ hj
    refine ⟨x, hx, ?_⟩
    have e2 : ds[j]? = some d := e
    have : ds.getD j .none = d := by rw [List.getD_eq_getElem?_getD, e2]; rfl
    rwa [this] at hd
theorem DW.ixv {i : Nat} {k : Int} {v : V} {ds : List PyData} {d : PyData} {ti : TE} (h : σ[i]? = some (some v)) (hd : Dp K (hid [a, l] H) v (.tuple ds)) (e : atI ds k = some d) (hti : ∀ H (Q : VK), Q (.int k) H → ti σ H Q) : DW K a l c 0 (tOp (rIxT K) (tVar i) ti) σ H (· = d) := fun H1 m g t _ Q q => by
  obtain ⟨p1, xs, rfl, hs1, ha1⟩ := (hd.gx g).tup_inv
  obtain ⟨x, hx, hdx⟩ := at_dp ha1 e
  exact ⟨_, h, hti _ _ ⟨p1, xs, k, x, rfl, rfl, seqTE hid_out hs1, hx, q H1 x d (GX.refl _) t rfl hdx⟩⟩
theorem DW.draw {i : Nat} {lim : Int} {ti : TE} (h : σ[i]? = some (some (.ref a))) (hti : ∀ H (Q : VK), Q (.int lim) H → ti σ H Q) (h1 : 1 ≤ lim) (h2 : lim < 2 ^ 220) : DW K a l c 1 (tCa spDrawW E0 (tCons (tVar i) (tCons ti tNil))) σ H (fun d => ∃ r, d = .int r ∧ 0 ≤ r ∧ r < lim) := fun H1 m g t b Q q =>
  ⟨_, h, hti _ _ ⟨a, l, c, m, lim, rfl, t, by omega, h1, h2, fun H' r e s r1 r2 => q H' _ _ (gx_sbt t e) s ⟨r, rfl, r1, r2⟩ (.int r)⟩⟩
theorem DW.of {i : Nat} (h : σ[i]? = some (some (.ref a))) (x : DWs K a l c s tas σ H Ps) (hl : ∀ ds, Ps ds → 1 ≤ ds.length ∧ ds.length ≤ 1000) : DW K a l c (s + 1) (tCa spOf E0 (tCons (tVar i) (tCons (tLst tas) tNil))) σ H (fun d => ∃ ds, Ps ds ∧ d ∈ ds) := fun H1 m g t b Q q =>
  ⟨_, h, x H1 m g t (by omega) _ fun H2 vs ds g2 t2 p hs => by
    have hl2 := hl ds p
    refine ⟨by rw [hs.length, sizeLine_eq]; omega, fun r hr => ?_⟩
    obtain ⟨ra, rl, rc⟩ := t2.off hr
    refine ⟨a, l, c, r, _, vs, rfl, t2.new hr, by omega, upd_same, ra, rl, by rw [hs.length]; omega, by rw [hs.length]; omega, fun H' y e s' hy => ?_⟩
    obtain ⟨j, hj⟩ := List.mem_iff_getElem?.mp hy
    obtain ⟨d, hd1, hd2⟩ := hs.getV hj
    exact q H' y d ((g2.trans (GX.new hr)).trans (gx_sbt (t2.new hr) e)) (s'.mono (by omega)) ⟨ds, p, List.mem_of_getElem? hd1⟩ (hd2.gx ((GX.new hr).trans (gx_sbt (t2.new hr) e)))⟩
theorem DW.list (x : DW K a l c s te σ H P) (hp : ∀ d, P d → ∃ ds, d = .tuple ds) :
    DW K a l c s (tCB (fun xs H Q => ∃ p ys, xs = [.ref p] ∧ (SqL K H p ys ∨ SqT K H p ys) ∧ ∀ l, H l = none → Q (.ref l) (upd H l (.lst ys))) (tCons te tNil)) σ H (fun d => ∃ ds, d = .list ds ∧ P (.tuple ds)) := fun H1 m g t b Q q =>
  x H1 m g t b _ fun H2 v d g2 t2 p hv => by
    obtain ⟨ds, rfl⟩ := hp d p
    obtain ⟨p1, xs, rfl, hs1, ha1⟩ := hv.tup_inv
    refine ⟨p1, xs, rfl, .inr (seqTE hid_out hs1), fun r hr => q _ _ _ (g2.trans (GX.new hr)) (t2.new hr) ⟨ds, rfl, p⟩ (.lst (.of ?_) (ha1.gx (GX.new hr)))⟩
    obtain ⟨ra, rl, rc⟩ := t2.off hr
    unfold hid
    rw [if_neg (by simp [ra, rl])]
    exact upd_same
theorem rep_dp {H : Hp} {xs : List V} {ds : List PyData} (h : DpAll K H xs ds) : ∀ n : Nat, DpAll K H (List.replicate n xs).flatten (List.replicate n ds).flatten
  | 0 => .nil
  | n + 1 => by rw [List.replicate_succ, List.replicate_succ, List.flatten_cons, List.flatten_cons]; exact h.append (rep_dp h n)
theorem DW.rep {k : Int} (x : DW K a l c s te σ H P) (hp : ∀ d, P d → ∃ ds, d = .tuple ds ∧ ds.length ≤ 1000) (h1 : 2 ≤ k := by decide) (h2 : k ≤ 1000 := by decide) :
    DW K a l c s (tOp (rRepA K) te (tC (.int k))) σ H (fun d => ∃ ds, d = .tuple (List.replicate k.toNat ds).flatten ∧ P (.tuple ds)) := fun H1 m g t b Q q =>
  x H1 m g t b _ fun H2 v d g2 t2 p hv => by
    obtain ⟨ds, rfl, hl⟩ := hp d p
    obtain ⟨p1, xs, rfl, hs1, ha1⟩ := hv.tup_inv
    have hxl := ha1.length
    refine ⟨p1, k, xs, rfl, rfl, seqTE hid_out hs1, h1, h2, by omega, fun e => ?_, fun _ r hr => ?_⟩
    · subst e
      cases ha1
      refine q _ _ _ g2 t2 ⟨[], rfl, p⟩ (.tup (xs := []) hs1 ?_)
      rw [show (List.replicate k.toNat ([] : List PyData)).flatten = [] by simp]
      exact .nil
    · refine q _ _ _ (g2.trans (GX.new hr)) (t2.new hr) ⟨ds, rfl, p⟩ (.tup (seqT_hid (lst_st (t2.new hr)) (.of upd_same)) ?_)
      exact rep_dp (ha1.gx (GX.new hr)) _
theorem DWs.consE {d : PyData} {ds : List PyData} (x : DW K a l c s1 te σ H (· = d)) (y : DWs K a l c s2 tas σ H (· = ds)) : DWs K a l c (s1 + s2) (tCons te tas) σ H (· = d :: ds) := fun H1 m g t b Q q =>
  DWs.cons x y H1 m g t b Q fun H' vs es g2 t2 ⟨d', es', e1, e2, e3⟩ hs => q H' vs es g2 t2 (by rw [e1, e2, e3]) hs
theorem DWs.consC {d : PyData} {ds : List PyData} (x : DW K a l c 0 te σ H (· = d)) (y : DWs K a l c 0 tas σ H (· = ds)) : DWs K a l c 0 (tCons te tas) σ H (· = d :: ds) := DWs.consE x y
theorem DW.neg {i : Int} : DW K a l c 0 (tUn (rU fun i => V.int (-i)) (tC (.int i))) σ H (· = .int (-i)) := fun H1 m _ t _ Q q => ⟨i, rfl, q H1 _ _ (GX.refl _) t rfl (.int (-i))⟩
theorem DW.pick {i : Nat} {ds : List PyData} (h : σ[i]? = some (some (.ref a))) (x : DWs K a l c s tas σ H (· = ds)) (h1 : 1 ≤ ds.length := by exact Nat.le_of_ble_eq_true rfl) (h2 : ds.length ≤ 1000 := by exact Nat.le_of_ble_eq_true rfl) : DW K a l c (s + 1) (tCa spOf E0 (tCons (tVar i) (tCons (tLst tas) tNil))) σ H (· ∈ ds) :=
  (DW.of h x fun es e => by rw [e]; exact ⟨h1, h2⟩).mono fun d ⟨es, e, m⟩ => by rw [← e]; exact m
theorem DW.tupE {ds : List PyData} (x : DWs K a l c s tas σ H (· = ds)) (hl : ds.length ≤ 100000 := by exact Nat.le_of_ble_eq_true rfl) : DW K a l c s (tTup tas) σ H (· = .tuple ds) :=
  (DW.tup x fun es e => by rw [e]; exact hl).mono fun d ⟨es, e, e2⟩ => by rw [e, e2]
theorem DW.listE {ds : List PyData} (x : DW K a l c s te σ H (· = .tuple ds)) :
    DW K a l c s (tCB (fun xs H Q => ∃ p ys, xs = [.ref p] ∧ (SqL K H p ys ∨ SqT K H p ys) ∧ ∀ l, H l = none → Q (.ref l) (upd H l (.lst ys))) (tCons te tNil)) σ H (· = .list ds) :=
  (DW.list x fun d e => ⟨ds, e⟩).mono fun d ⟨es, e, e2⟩ => by rw [e, PyData.tuple.inj e2]
theorem DW.ix {k : Int} {ds : List PyData} {d : PyData} {ti : TE} (x : DW K a l c s te σ H (· = .tuple ds)) (e : atI ds k = some d) (hti : ∀ H (Q : VK), Q (.int k) H → ti σ H Q) : DW K a l c s (tOp (rIxT K) te ti) σ H (· = d) := fun H1 m g t b Q q =>
  x H1 m g t b _ fun H2 v d' g2 t2 p hv => by
    subst p
    obtain ⟨p1, xs, rfl, hs1, ha1⟩ := hv.tup_inv
    obtain ⟨y, hx, hdx⟩ := at_dp ha1 e
    exact hti _ _ ⟨p1, xs, k, y, rfl, rfl, seqTE hid_out hs1, hx, q H2 y d g2 t2 rfl hdx⟩
theorem DW.addk {i k : Int} (x : DW K a l c s te σ H (· = .int i)) : DW K a l c s (tOp (rI0 fun i j => V.int (i + j)) te (tC (.int k))) σ H (· = .int (i + k)) := fun H1 m g t b Q q =>
  x H1 m g t b _ fun H2 v d' g2 t2 p hv => by
    subst p
    obtain rfl := hv.int_inv
    exact ⟨i, k, rfl, rfl, q H2 _ _ g2 t2 rfl (.int _)⟩
theorem DW.drawW {i : Nat} {lim : Int} {ti : TE} (h : σ[i]? = some (some (.ref a))) (x : DW K a l c 0 ti σ H (· = .int lim)) (h1 : 1 ≤ lim) (h2 : lim < 2 ^ 220) : DW K a l c 1 (tCa spDrawW E0 (tCons (tVar i) (tCons ti tNil))) σ H (fun d => ∃ r, d = .int r ∧ 0 ≤ r ∧ r < lim) := fun H1 m g t b Q q =>
  ⟨_, h, x H1 m g t (by omega) _ fun H2 v d g2 t2 p hv => by
    subst p
    obtain rfl := hv.int_inv
    exact ⟨a, l, c, m, lim, rfl, t2, by omega, h1, h2, fun H' r e s r1 r2 => q H' _ _ (g2.trans (gx_sbt t2 e)) s ⟨r, rfl, r1, r2⟩ (.int r)⟩⟩
theorem DW.len {ds : List PyData} (x : DW K a l c s te σ H (· = .tuple ds)) : DW K a l c s (tCB (fun xs H Q => ∃ p ys, xs = [.ref p] ∧ (SqL K H p ys ∨ SqT K H p ys) ∧ Q (.int ys.length) H) (tCons te tNil)) σ H (· = .int ds.length) := fun H1 m g t b Q q =>
  x H1 m g t b _ fun H2 v d g2 t2 p hv => by
    subst p
    obtain ⟨p1, xs, rfl, hs1, ha1⟩ := hv.tup_inv
    exact ⟨p1, xs, rfl, .inr (seqTE hid_out hs1), q H2 _ _ g2 t2 (by rw [ha1.length]) (.int _)⟩
theorem DW.repE {k : Int} {ds : List PyData} (x : DW K a l c s te σ H (· = .tuple ds)) (hl : ds.length ≤ 1000) (h1 : 2 ≤ k := by decide) (h2 : k ≤ 1000 := by decide) :
    DW K a l c s (tOp (rRepA K) te (tC (.int k))) σ H (· = .tuple (List.replicate k.toNat ds).flatten) :=
  (DW.rep x (fun d e => ⟨ds, e, hl⟩) h1 h2).mono fun d ⟨es, e, e2⟩ => by rw [e, PyData.tuple.inj e2]
theorem DW.catE {ds es : List PyData} (x : DW K a l c s1 ta σ H (· = .tuple ds)) (y : DW K a l c s2 tb σ H (· = .tuple es)) (h1 : ds.length ≤ 100000) (h2 : es.length ≤ 100000) :
    DW K a l c (s1 + s2) (tOp (rCatA K) ta tb) σ H (· = .tuple (ds ++ es)) :=
  (DW.cat x y (fun d e => ⟨ds, e, h1⟩) (fun d e => ⟨es, e, h2⟩)).mono fun d ⟨xs, ys, e, e2, e3⟩ => by rw [e, PyData.tuple.inj e2, PyData.tuple.inj e3]
theorem DW.cutE {ds : List PyData} {lo hi : Option Int} {to tu : TO} (x : DW K a l c s te σ H (· = .tuple ds)) (h1 : OW to σ lo) (h2 : OW tu σ hi) :
    DW K a l c s (L2.tSl (rSlA K) te to tu) σ H (· = .tuple (cutD ds lo hi)) := (DW.cut x h1 h2 (fun d e => ⟨_, e⟩)).mono fun d ⟨es, e, e2⟩ => by rw [e, PyData.tuple.inj e2]
theorem DW.repB {k : Int} {ds : List PyData} (x : DW K a l c s1 te σ H (· = .tuple ds)) (y : DW K a l c s2 tb σ H (· = .int k)) (hl : ds.length ≤ 1000) (h1 : 1 ≤ k) (h2 : k ≤ 1000) :
    DW K a l c (s1 + s2) (tOp (rRepB K) te tb) σ H (· = .tuple (List.replicate k.toNat ds).flatten) := fun H1 m g t b Q q =>
  x H1 m g t (by omega) _ fun H2 v d g2 t2 p hv => y H2 _ (g.trans g2) t2 (by omega) _ fun H3 u e g3 t3 r hu => by
    subst p r
    obtain rfl := hu.int_inv
    have hv3 := hv.gx g3
    obtain ⟨p1, xs, rfl, hs1, ha1⟩ := hv3.tup_inv
    have hxl := ha1.length
    refine ⟨p1, k, xs, rfl, rfl, seqTE hid_out hs1, h1, h2, by omega, fun e => ?_, fun _ _ r hr => ?_⟩
    · refine q _ _ _ (g2.trans g3) (t3.mono (by omega)) rfl (.tup (xs := xs) hs1 ?_)
      rcases e with rfl | rfl
      · cases ha1
        rw [show (List.replicate k.toNat ([] : List PyData)).flatten = [] by simp]
        exact .nil
      · rw [show (List.replicate (Int.toNat 1) ds).flatten = ds by simp]
        exact ha1
    · exact q _ _ _ ((g2.trans g3).trans (GX.new hr)) ((t3.new hr).mono (by omega)) rfl (.tup (seqT_hid (lst_st (t3.new hr)) (.of upd_same)) (rep_dp (ha1.gx (GX.new hr)) _))
theorem DW.repL {k : Int} {ds : List PyData} (x : DWs K a l c s1 tas σ H (· = ds)) (y : DW K a l c s2 tb σ H (· = .int k)) (hl : ds.length ≤ 1000) (h1 : 1 ≤ k) (h2 : k ≤ 1000) :
    DW K a l c (s1 + s2) (tOp rRep (tLst tas) tb) σ H (· = .list (List.replicate k.toNat ds).flatten) := fun H1 m g t b Q q =>
  x H1 m g t (by omega) _ fun H2 vs es g2 t2 p hs => by
    subst p
    refine ⟨by rw [hs.length, sizeLine_eq]; omega, fun r hr => y _ _ (g.trans (g2.trans (GX.new hr))) (t2.new hr) (by omega) _ fun H3 u e g3 t3 re hu => ?_⟩
    subst re
    obtain rfl := hu.int_inv
    obtain ⟨ra, rl, rc⟩ := t2.off hr
    have h0 : hid [a, l] (upd H2 r (.lst vs)) r = some (.lst vs) := by
      unfold hid
      rw [if_neg (by simp [ra, rl])]
      exact upd_same
    have h3 : H3 r = some (.lst vs) := hid_out _ _ (g3.1 _ _ h0 (fun ps z => by cases z)) (fun ps z => by cases z)
    have hk : k.toNat ≤ 1000 := by omega
    have hm : vs.length * k.toNat ≤ 1000 * 1000 := Nat.mul_le_mul (by rw [hs.length]; exact hl) hk
    refine ⟨r, k, vs, rfl, rfl, h3, by omega, by omega, by rw [sizeLine_eq]; omega, fun q1 hq1 => q _ _ _ (((g2.trans (GX.new hr)).trans g3).trans (GX.new hq1)) ((t3.new hq1).mono (by omega)) rfl (.lst (.of ?_) (rep_dp (((hs.gx (GX.new hr)).gx g3).gx (GX.new hq1)) _))⟩
    obtain ⟨qa, ql, qc⟩ := t3.off hq1
    unfold hid
    rw [if_neg (by simp [qa, ql])]
    exact upd_same
/-! statements -/
theorem sw_val {i m : Nat} {u : TS} {D : Ends} (x : DW K a l c s te σ H P) (g : LSt H a l c m) (b : m + s ≤ 1000000) (q : ∀ H' v d, GX [a, l] H H' → LSt H' a l c (m + s) → P d → Dp K (hid [a, l] H') v d → u D (σ.set i (some v)) H') : tSeq (tAsg te (gName i)) u D σ H := x H m (GX.refl _) g b _ q
theorem sw_ret {m : Nat} {D : Ends} (x : DW K a l c s te σ H P) (g : LSt H a l c m) (b : m + s ≤ 1000000) (q : ∀ H' v d, GX [a, l] H H' → LSt H' a l c (m + s) → P d → Dp K (hid [a, l] H') v d → D.rt v H') : tRet te D σ H := x H m (GX.refl _) g b _ q
theorem sw_ifk {i : Nat} {k z : Int} {t u : TS} {D : Ends} (h : σ[i]? = some (some (.int z))) (y : z = k → t { D with nx := u D } σ H) (n : z ≠ k → u D σ H) : tSeq (tIfS (tTest (tOp rEq (tVar i) (tC (.int k)))) t tNext) u D σ H := by
  refine ⟨_, h, rfl, _, rfl, ?_⟩
  by_cases e : z = k
  · rw [decide_eq_true (by rw [e])]
    exact iteT (y e)
  · rw [decide_eq_false (fun w => e (V.int.inj w))]
    exact iteF (n e)
theorem sw_ifx {i : Nat} {k z : Int} {Q : VK} (h : σ[i]? = some (some (.int z))) (y : z = k → ta σ H Q) (n : z ≠ k → tb σ H Q) : tIf (tTest (tOp rEq (tVar i) (tC (.int k)))) ta tb σ H Q := by
  refine ⟨_, h, rfl, _, rfl, ?_⟩
  by_cases e : z = k
  · rw [decide_eq_true (by rw [e])]
    exact iteT (y e)
  · rw [decide_eq_false (fun w => e (V.int.inj w))]
    exact iteF (n e)
/-! tuples of small data -/
def TI (k : Nat) (d : PyData) : Prop := ∃ ds, d = .tuple ds ∧ ds.length ≤ k ∧ ∀ x ∈ ds, Sm 40 5 x
def TH (k : Nat) (d : PyData) : Prop := ∃ x ds, d = .tuple (x :: ds) ∧ (match x with | .list _ => false | .tuple _ => false | .dict _ => false | _ => true) = true ∧ ds.length + 1 ≤ k ∧ ∀ y ∈ x :: ds, Sm 40 5 y
theorem TH.ti {k : Nat} {d : PyData} (h : TH k d) : TI k d := let ⟨x, ds, e, _, l, s⟩ := h; ⟨x :: ds, e, l, s⟩
theorem DW.catI {k1 k2 : Nat} (x : DW K a l c s1 ta σ H (TI k1)) (y : DW K a l c s2 tb σ H (TI k2)) (h1 : k1 ≤ 100000 := by decide) (h2 : k2 ≤ 100000 := by decide) : DW K a l c (s1 + s2) (tOp (rCatA K) ta tb) σ H (TI (k1 + k2)) :=
  (DW.cat x y (fun d ⟨ds, e, hl, _⟩ => ⟨ds, e, by omega⟩) (fun d ⟨ds, e, hl, _⟩ => ⟨ds, e, by omega⟩)).mono fun d ⟨ds, es, e, ⟨ds1, e1, l1, s1⟩, ⟨es1, e2, l2, s2⟩⟩ => by
    obtain rfl := PyData.tuple.inj e1
    obtain rfl := PyData.tuple.inj e2
    exact ⟨ds ++ es, e, by rw [List.length_append]; omega, fun z hz => (List.mem_append.mp hz).elim (s1 z) (s2 z)⟩
theorem DW.catH {k1 k2 : Nat} (x : DW K a l c s1 ta σ H (TH k1)) (y : DW K a l c s2 tb σ H (TI k2)) (h1 : k1 ≤ 100000 := by decide) (h2 : k2 ≤ 100000 := by decide) : DW K a l c (s1 + s2) (tOp (rCatA K) ta tb) σ H (TH (k1 + k2)) :=
  (DW.cat x y (fun d h => let ⟨ds, e, hl, _⟩ := h.ti; ⟨ds, e, by omega⟩) (fun d ⟨ds, e, hl, _⟩ => ⟨ds, e, by omega⟩)).mono fun d ⟨ds, es, e, ⟨x, ds1, e1, f, l1, s1⟩, ⟨es1, e2, l2, s2⟩⟩ => by
    obtain rfl := PyData.tuple.inj e1
    obtain rfl := PyData.tuple.inj e2
    exact ⟨x, ds1 ++ es, e, f, by rw [List.length_append]; omega, fun z hz => (List.mem_append.mp (show z ∈ (x :: ds1) ++ es from hz)).elim (s1 z) (s2 z)⟩
theorem DW.tupI {k : Nat} (x : DWs K a l c s tas σ H Ps) (h : ∀ ds, Ps ds → ds.length ≤ k ∧ ∀ x ∈ ds, Sm 40 5 x) (hk : k ≤ 100000 := by decide) : DW K a l c s (tTup tas) σ H (TI k) :=
  (DW.tup x fun ds p => by have := (h ds p).1; omega).mono fun d ⟨ds, e, p⟩ => ⟨ds, e, (h ds p).1, (h ds p).2⟩
theorem DW.tupH {k : Nat} (x : DWs K a l c s tas σ H Ps) (h : ∀ ds, Ps ds → ds.length ≤ k ∧ (∀ x ∈ ds, Sm 40 5 x) ∧ ∃ y ys, ds = y :: ys ∧ (match y with | .list _ => false | .tuple _ => false | .dict _ => false | _ => true) = true) (hk : k ≤ 100000 := by decide) : DW K a l c s (tTup tas) σ H (TH k) :=
  (DW.tup x fun ds p => by have := (h ds p).1; omega).mono fun d ⟨ds, e, p⟩ => by
    obtain ⟨h1, h2, y, ys, rfl, f⟩ := h ds p
    exact ⟨y, ys, e, f, by simpa using h1, h2⟩
end
end Ws
/-! ## V03 -/
namespace Ws
open PySem PySem.Spec PyProof.Rows L2
theorem cutV_from (xs : List V) (k : Nat) : cutV xs (some (k : Int)) none = xs.drop k := by
  unfold cutV
  rw [HT.sIx_nat, HT.sIx_none]
  by_cases h : k ≤ xs.length
  · rw [Nat.min_eq_left h, List.take_of_length_le (by rw [List.length_drop]; omega)]
  · rw [Nat.min_eq_right (by omega), List.drop_eq_nil_of_le (Nat.le_refl _), List.drop_eq_nil_of_le (by omega)]
    simp
theorem cutV_to (xs : List V) (k : Nat) : cutV xs none (some (k : Int)) = xs.take k := by
  unfold cutV
  rw [HT.sIx_nat, HT.sIx_none, List.drop_zero, Nat.sub_zero]
  by_cases h : k ≤ xs.length
  · rw [Nat.min_eq_left h]
  · rw [Nat.min_eq_right (by omega), List.take_of_length_le (Nat.le_refl _), List.take_of_length_le (by omega)]
theorem sq_go {te : TE} {i : Nat} {u : TS} {D : Ends} {σ : L2.St} {H : Hp} (h : te σ H fun v H1 => u D (σ.set i (some v)) H1) : tSeq (tAsg te (gName i)) u D σ H := h
theorem sq_if0 {t : TT} {r u : TS} {D : Ends} {σ : L2.St} {H : Hp} (h : t σ H fun b H1 => if b = true then r { D with nx := u D } σ H1 else u D σ H1) : tSeq (tIfS t r tNext) u D σ H := h
theorem sq_fr {w : L2.TI} {g : TG} {b u : TS} {D : Ends} {σ : L2.St} {H : Hp} (h : tFor w g b { D with nx := u D } σ H) : tSeq (tFor w g b) u D σ H := h
/-- what a list of told data is -/
theorem lst_view {K : PySem.W.Frag} {H : Hp} {α : Type} {f : α → PyData} {xs : List α} {v : V} (h : Dp K H v (.list (xs.map f))) : ∃ p zs, v = .ref p ∧ SqL K H p zs ∧ zs.length = xs.length ∧ (∀ (i : Nat) z, zs[i]? = some z → ∃ x, xs[i]? = some x ∧ Dp K H z (f x)) ∧ DpAll K H zs (xs.map f) := by
  cases h with
  | lst hs ha =>
    have hl := ha.length
    rw [List.length_map] at hl
    refine ⟨_, _, rfl, hs, hl, fun i z hz => ?_, ha⟩
    obtain ⟨d, h1, h2⟩ := ha.getV hz
    rw [List.getElem?_map] at h1
    cases e : xs[i]? with
    | none => rw [e] at h1; cases h1
    | some x =>
      rw [e] at h1
      cases h1
      exact ⟨x, rfl, h2⟩
theorem noList_ints' (xs : List Int) : noList (intsD xs) = true := noList_ints xs
theorem sq_as {te : TE} {g : TG} {u : TS} {D : Ends} {σ : L2.St} {H : Hp} (h : te σ H fun v H1 => g v σ H1 fun σ2 H2 => u D σ2 H2) : tSeq (tAsg te g) u D σ H := h
theorem sq_dr {te : TE} {u : TS} {D : Ends} {σ : L2.St} {H : Hp} (h : te σ H fun _ H1 => u D σ H1) : tSeq (tDrop te) u D σ H := h
theorem hu64 {A : Around} {k : Nat} (hr : Room k A) : A.units + 64 < cLine := by have := hr.un; omega
theorem hu65 {A : Around} {k : Nat} (hr : Room k A) : A.units + 65 < cLine := by have := hr.un; omega
/-- as lcF; that the list under way is there is told, too -/
theorem lcG {J : It} {n : Nat} {G : Hp → Prop} {Y : Nat → Hp → V → Hp → Prop} (w : Walk J n G Y) {g : TG} {tt : TT} {te : TE} {vs : List Nat} {σ : L2.St} {H1 : Hp} {D : Addr} {Qd : Hp → Prop} (hD : H1 D = none) (hn : n < sizeLine) (keep : Nat → Bool) (R : Nat → V → Hp → Prop)
    (hR : ∀ i y H H', Sbt D D H H' → NoT H D → R i y H → R i y H') (hG : ∀ H, Same H1 H → G H)
    (hs : ∀ i x H H' (Q1 : VK) (Q0 : Hp → Prop), i < n → Same H1 H → H D ≠ none → Y i H x H' → (keep i = true → ∀ y H4, R i y H4 → Same H H4 → Q1 y H4) → (keep i = false → ∀ H4, Same H H4 → Q0 H4) →
      g x (wipe σ vs) H' fun σ2 H2 => wipe σ2 vs = wipe σ vs ∧ tt σ2 H2 fun b H3 => if b = true then te σ2 H3 Q1 else Q0 H3)
    (hd : ∀ H ys, Same H1 H → H D = some (.lst ys) → Got R keep n H ys → Qd H) :
    ∃ W : Nat → Nat → Hp → Prop, (∃ m, W 0 m (upd H1 D (.lst []))) ∧ ∀ i m H, W i m H →
      (J.stop i H ∧ Qd H) ∨ (J.go i H ∧ ∃ Nx : Hp → Prop, (∀ H', Nx H' → ∃ m', m' < m ∧ W (i + 1) m' H') ∧ ∀ x H', J.yld i H x H' → g x (wipe σ vs) H' fun σ2 H2 => wipe σ2 vs = wipe σ vs ∧ tt σ2 H2 fun b H3 =>
        if b = true then te σ2 H3 fun y H4 => ∃ acc, H4 D = some (.lst acc) ∧ acc.length < sizeLine ∧ Nx (upd H4 D (.lst (acc ++ [y]))) else Nx H3) := by
  have short : ∀ i, ((List.range i).filter keep).length ≤ i := fun i => by
    have := List.length_filter_le keep (List.range i)
    simpa using this
  refine lc_it w (fun i H => Same H1 H ∧ ∃ ys, H D = some (.lst ys) ∧ Got R keep i H ys) ⟨Same.new hD, [], upd_same, rfl, fun j i y h _ => by simp at h⟩ (fun i H _ p => hG H p.1) (fun i x H H' hi p y => ?_) (fun H p => ?_)
  · obtain ⟨s, ys, hy, hg⟩ := p
    refine hs i x H H' _ _ hi s (by rw [hy]; exact fun z => by cases z) y (fun k z H4 r s4 => ?_) (fun k H4 s4 => ?_)
    · have hy4 := s4 _ _ hy
      have no : NoT H4 D := .lst hy4
      have sb : Sbt D D H4 (upd H4 D (.lst (ys ++ [z]))) := (Sbt.refl H4).a
      have sb0 : Sbt D D H (upd H4 D (.lst (ys ++ [z]))) := (Sbt.of s4).trans sb
      exact ⟨ys, hy4, by have := short i; rw [hg.len]; omega, (Same.trans s s4).mut hD, _, upd_same, (hg.map fun i y q => hR i y _ _ sb0 (.lst hy) q).add k (hR i z _ _ sb no r)⟩
    · exact ⟨Same.trans s s4, ys, s4 _ _ hy, (hg.map fun i y q => hR i y _ _ (Sbt.of s4) (.lst hy) q).skip k⟩
  · obtain ⟨s, ys, hy, hg⟩ := p
    exact hd H ys s hy hg
/-- a list of data, whatever they hold; the list under way is put aside, and what is put aside already -/
theorem lcH {K : PySem.W.Frag} {S : List Addr} {J : L2.It} {n : Nat} {G : Hp → Prop} {Y : Nat → Hp → V → Hp → Prop} (w : Walk J n G Y) {g : TG} {te : TE} {vs : List Nat} {σ : L2.St} {H1 : Hp} {D : Addr} {Qd : Hp → Prop} (hD : H1 D = none) (hn : n < sizeLine) (lS : Lsts S H1) (f : Nat → PyData)
    (hG : ∀ H, Same H1 H → G H)
    (hs : ∀ i x H H' (Q : VK), i < n → Same H1 H → Lsts (D :: S) H → Y i H x H' → (∀ y H4, Same H H4 → Dp K (hid (D :: S) H4) y (f i) → Q y H4) → g x (wipe σ vs) H' fun σ2 H2 => wipe σ2 vs = wipe σ vs ∧ te σ2 H2 Q)
    (hd : ∀ H ys, Same H1 H → H D = some (.lst ys) → ys.length = n → DpAll K (hid S H) ys ((List.range n).map f) → Qd H) :
    ∃ W : Nat → Nat → Hp → Prop, (∃ m, W 0 m (upd H1 D (.lst []))) ∧ ∀ i m H, W i m H →
      (J.stop i H ∧ Qd H) ∨ (J.go i H ∧ ∃ Nx : Hp → Prop, (∀ H', Nx H' → ∃ m', m' < m ∧ W (i + 1) m' H') ∧ ∀ x H', J.yld i H x H' → g x (wipe σ vs) H' fun σ2 H2 => wipe σ2 vs = wipe σ vs ∧ tYes σ2 H2 fun b H3 =>
        if b = true then te σ2 H3 fun y H4 => ∃ acc, H4 D = some (.lst acc) ∧ acc.length < sizeLine ∧ Nx (upd H4 D (.lst (acc ++ [y]))) else Nx H3) := by
  refine lc_it w (fun i H => Same H1 H ∧ ∃ ys, H D = some (.lst ys) ∧ ys.length = i ∧ DpAll K (hid (D :: S) H) ys ((List.range i).map f)) ⟨Same.new hD, [], upd_same, rfl, .nil⟩ (fun i H _ p => hG H p.1) (fun i x H H' hi p y => ?_) (fun H p => ?_)
  · obtain ⟨s, ys, hy, hl, ha⟩ := p
    have q := hs i x H H' (fun y H4 => ∃ acc, H4 D = some (.lst acc) ∧ acc.length < sizeLine ∧ (Same H1 (upd H4 D (.lst (acc ++ [y]))) ∧ ∃ ys, upd H4 D (.lst (acc ++ [y])) D = some (.lst ys) ∧ ys.length = i + 1 ∧ DpAll K (hid (D :: S) (upd H4 D (.lst (acc ++ [y])))) ys ((List.range (i + 1)).map f))) hi s
      (fun b m => by
        rcases List.mem_cons.mp m with rfl | m
        · exact ⟨_, hy, .inl ⟨_, rfl⟩⟩
        · obtain ⟨o, q, z⟩ := lS b m
          exact ⟨o, s _ _ q, z⟩) y (fun v H4 s4 hv => ?_)
    · have e : (fun σ2 H2 => wipe σ2 vs = wipe σ vs ∧ tYes σ2 H2 fun b H3 =>
        if b = true then te σ2 H3 fun y H4 => ∃ acc, H4 D = some (.lst acc) ∧ acc.length < sizeLine ∧ (Same H1 (upd H4 D (.lst (acc ++ [y]))) ∧ ∃ ys, upd H4 D (.lst (acc ++ [y])) D = some (.lst ys) ∧ ys.length = i + 1 ∧ DpAll K (hid (D :: S) (upd H4 D (.lst (acc ++ [y])))) ys ((List.range (i + 1)).map f))
        else (Same H1 H3 ∧ ∃ ys, H3 D = some (.lst ys) ∧ ys.length = i + 1 ∧ DpAll K (hid (D :: S) H3) ys ((List.range (i + 1)).map f))) =
        (fun σ2 H2 => wipe σ2 vs = wipe σ vs ∧ te σ2 H2 fun y H4 => ∃ acc, H4 D = some (.lst acc) ∧ acc.length < sizeLine ∧ (Same H1 (upd H4 D (.lst (acc ++ [y]))) ∧ ∃ ys, upd H4 D (.lst (acc ++ [y])) D = some (.lst ys) ∧ ys.length = i + 1 ∧ DpAll K (hid (D :: S) (upd H4 D (.lst (acc ++ [y])))) ys ((List.range (i + 1)).map f))) := by
        funext σ2 H2
        simp only [tYes, if_true]
      rw [e]
      exact q
    · have hy4 := s4 _ _ hy
      refine ⟨ys, hy4, by omega, (Same.trans s s4).mut hD, _, upd_same, by simp [hl], ?_⟩
      rw [hid_upd (by simp), List.range_succ, List.map_append]
      exact (Dp.exts (hid_ext (Same.extN s4)) _ _ ha).append (.cons hv .nil)
  · obtain ⟨s, ys, hy, hl, ha⟩ := p
    exact hd H ys s hy hl (Dp.exts (hid_sub fun a m => List.mem_cons_of_mem _ m) _ _ ha)
/-- what stood before a list was laid is not put aside with it -/
theorem same_hid {S : List Addr} {H1 H : Hp} {D : Addr} (hD : H1 D = none) (e : Same H1 H) : Same (hid S H1) (hid (D :: S) H) := fun b o hb => by
  unfold hid at hb ⊢
  split at hb
  · cases hb
  · rename_i m
    rw [if_neg (by
      intro m2
      rcases List.mem_cons.mp m2 with rfl | m2
      · rw [hb] at hD; cases hD
      · exact m m2)]
    exact e b o hb
theorem same_hid2 {S : List Addr} {H H4 : Hp} (e : Same H H4) : Same (hid S H) (hid S H4) := fun b o hb => by
  unfold hid at hb ⊢
  split at hb
  · cases hb
  · rename_i m
    rw [if_neg m]
    exact e b o hb
theorem lsts_to {H H4 : Hp} {S : List Addr} (l : Lsts S H) (e : Same H H4) : Lsts S H4 := fun b m => by
  obtain ⟨o, q, z⟩ := l b m
  exact ⟨o, e _ _ q, z⟩
theorem lsts_nil {H : Hp} : Lsts [] H := fun b m => by cases m
theorem _root_.L2.Same.back {H H1 : Hp} {p : Addr} (e : Same H H1) (h : H1 p = none) : H p = none := by
  cases z : H p with
  | none => rfl
  | some o => rw [e _ _ z] at h; cases h
end Ws
/-! ## P03a -/
namespace Ws
open PySem PySem.Spec PyProof.Rows L2
local macro_rules | `(tactic| walk_at "nf") => `(tactic| dsimp only [tNext, tSeq, tDrop, tRet, tRetN, tIfS, tAsg, gName, gTup, gCons, gNil, tVar, tC, tOp, tUn, rI, rI0, rU, rEq, rNe, tTest, tChain, tAnd, tOr, tNot, tAndV, tOrV, tNotV, tIf, tCB, tCKw, tCons, tNil, tTup, tLst, tCa, tCallS, tB, rIxT, rIxL, rIxS, cxOf, Cx.nox, Cx.wish, Cx.blk, L2.start, tPar, tPar3, tNever, tYes, tBits, tRz, tBM, rAppend, tyV, tXf, suiteEnds, gSub, rSetL, tBreak, rMax, tDGet, sDPut, tSl, tNoPart, tPart, tDisp, tPairs, tDGet2, tDNewK])
local macro_rules | `(tactic| walk_at "sx") => `(tactic| simp only [wipe, List.cons.injEq, and_assoc, exists_and_left, and_true, List.map_cons, List.map_nil, List.length_cons, List.length_nil, List.cons_append, List.nil_append, List.append_nil, Nat.reduceAdd, Nat.reduceSub, List.replicate, List.getElem?_cons_zero, List.getElem?_cons_succ, List.set_cons_zero, List.set_cons_succ, Option.some.injEq, V.int.injEq, V.bl.injEq, V.ref.injEq, V.str.injEq, exists_eq_left', exists_eq_left, true_and, Bool.true_eq_false, Bool.false_eq_true, if_true, if_false])

def isNm (d : PyData) : Bool := isBt d 0 9
def isFc (d : PyData) : Bool := isBt d (-(10 ^ 9)) (10 ^ 9)
def isPr (d : PyData) : Bool := isTn d 2 && isNm ((itm d).getD 0 .none) && isFc ((itm d).getD 1 .none)
def tmOk : Int → List PyData → Bool
  | _, [] => true
  | last, p :: r => isPr p && decide (last < iOf ((itm p).getD 0 .none)) && !decide (iOf ((itm p).getD 1 .none) = 0) && tmOk (iOf ((itm p).getD 0 .none)) r
def isTm (d : PyData) : Bool := isTn d 2 && isFc ((itm d).getD 0 .none) && isT ((itm d).getD 1 .none) && tmOk (-1) (itm ((itm d).getD 1 .none))
def spIsName (K : PySem.W.Frag) : Sp := fun vs H Q _ => ∃ v d, vs = [v] ∧ Dp K H v d ∧ Q (.bl (isNm d)) H
def spIsFactor (K : PySem.W.Frag) : Sp := fun vs H Q _ => ∃ v d, vs = [v] ∧ Dp K H v d ∧ Q (.bl (isFc d)) H
def spIsPair (K : PySem.W.Frag) : Sp := fun vs H Q _ => ∃ v d, vs = [v] ∧ Dp K H v d ∧ Q (.bl (isPr d)) H
def spIsTerm (K : PySem.W.Frag) : Sp := fun vs H Q _ => ∃ v d, vs = [v] ∧ Dp K H v d ∧ Q (.bl (isTm d)) H
abbrev s_is_name : Stmt := top 9
abbrev nm_is_name : List Str := ["value"]
abbrev pr_is_name : List Str := ["value"]
theorem sc_is_name : FnScope nm_is_name pr_is_name (defScope s_is_name) := ⟨rfl, rfl, rfl, by decide +kernel, rfl, by decide +kernel, by decide +kernel⟩
abbrev s_is_factor : Stmt := top 10
abbrev nm_is_factor : List Str := ["value"]
abbrev pr_is_factor : List Str := ["value"]
theorem sc_is_factor : FnScope nm_is_factor pr_is_factor (defScope s_is_factor) := ⟨rfl, rfl, rfl, by decide +kernel, rfl, by decide +kernel, by decide +kernel⟩
abbrev s_is_pair_of_name : Stmt := top 11
abbrev nm_is_pair_of_name : List Str := ["value"]
abbrev pr_is_pair_of_name : List Str := ["value"]
theorem sc_is_pair_of_name : FnScope nm_is_pair_of_name pr_is_pair_of_name (defScope s_is_pair_of_name) := ⟨rfl, rfl, rfl, by decide +kernel, rfl, by decide +kernel, by decide +kernel⟩
abbrev s_is_term : Stmt := top 12
abbrev nm_is_term : List Str := ["value", "last", "pair"]
abbrev pr_is_term : List Str := ["value"]
theorem sc_is_term : FnScope nm_is_term pr_is_term (defScope s_is_term) := ⟨rfl, rfl, rfl, by decide +kernel, rfl, by decide +kernel, by decide +kernel⟩
/-! ### errors -/
structure ErS (P : Program) (w : World) (K : PySem.W.Frag) (mg : Str → Option Value) (base : Heap) (BF TG : Addr) : Prop where
  BadFormula : ErC P w K mg base "BadFormula" "path" BF
  TooGreat : ErC P w K mg base "TooGreat" "most" TG
section
variable {P : Program} {w : World} {K : PySem.W.Frag} {mg : Str → Option Value} {base : Heap} {BF TG : Addr}
theorem ok_is_name (F1 : Df P w K mg base CX0 2 "is_between" pr_is_between (spIsBetween K)) (D : Dt K mg "is_name" s_is_name pr_is_name) : Df P w K mg base CX0 3 "is_name" pr_is_name (spIsName K) := by
  refine D.ok sc_is_name (fun vs H Q E h => ?_) (fun f cdv A outer s H vs Q E hr h => ?_)
  · obtain ⟨v, d, rfl, _⟩ := h
    rfl
  · obtain ⟨v, d, rfl, hd, k⟩ := h
    refine ⟨_, (pss_one (ps_ret (pe_f F1 (hr.mono (by decide)) pass0 (pa_cons (pv 0) (pa_cons pe_int (pa_cons pe_int pa_nil)))))), ?_⟩
    walk_at "nf"
    walk_at "sx"
    exact ⟨v, d, 0, 9, rfl, hd, k⟩
theorem ok_is_factor (C : Cs0 mg) (F1 : Df P w K mg base CX0 2 "is_between" pr_is_between (spIsBetween K)) (D : Dt K mg "is_factor" s_is_factor pr_is_factor) : Df P w K mg base CX0 3 "is_factor" pr_is_factor (spIsFactor K) := by
  refine D.ok sc_is_factor (fun vs H Q E h => ?_) (fun f cdv A outer s H vs Q E hr h => ?_)
  · obtain ⟨v, d, rfl, _⟩ := h
    rfl
  · obtain ⟨v, d, rfl, hd, k⟩ := h
    refine ⟨_, (pss_one (ps_ret (pe_f F1 (hr.mono (by decide)) pass0 (pa_cons (pv 0) (pa_cons (pe_un un_neg (pe_glob (v := .int (10 ^ 9)) rfl C.MOST_FACTOR.choose_spec ⟨_, rfl⟩)) (pa_cons (pe_glob (v := .int (10 ^ 9)) rfl C.MOST_FACTOR.choose_spec ⟨_, rfl⟩) pa_nil)))))), ?_⟩
    walk_at "nf"
    walk_at "sx"
    exact ⟨v, d, -(10 ^ 9), 10 ^ 9, rfl, hd, k⟩
theorem tn_two {d : PyData} (h : isTn d 2 = true) : ∃ a b, d = .tuple [a, b] := by
  obtain ⟨ds, rfl, hl⟩ := isTn_tup h
  match ds, hl with
  | [a, b], _ => exact ⟨a, b, rfl⟩
  | [], h => cases h
  | [_], h => cases h
  | _ :: _ :: _ :: _, h => simp only [List.length_cons] at h; omega
theorem _root_.L2.Dp.two {H : Hp} {v : V} {a b : PyData} (h : Dp K H v (.tuple [a, b])) : ∃ p x y, v = .ref p ∧ SqT K H p [x, y] ∧ Dp K H x a ∧ Dp K H y b := by
  obtain ⟨p, xs, rfl, hq, ha⟩ := h.tup_inv
  cases ha with
  | @cons x _ _ _ h1 ha =>
  cases ha with
  | @cons y _ _ _ h2 ha =>
  cases ha
  exact ⟨p, x, y, rfl, hq, h1, h2⟩
theorem ok_is_pair (F1 : Df P w K mg base CX0 1 "is_tuple_of" pr_is_tuple_of (spIsTupleOf K)) (F2 : Df P w K mg base CX0 3 "is_name" pr_is_name (spIsName K)) (F3 : Df P w K mg base CX0 3 "is_factor" pr_is_factor (spIsFactor K))
    (D : Dt K mg "is_pair_of_name" s_is_pair_of_name pr_is_pair_of_name) : Df P w K mg base CX0 4 "is_pair_of_name" pr_is_pair_of_name (spIsPair K) := by
  refine D.ok sc_is_pair_of_name (fun vs H Q E h => ?_) (fun f cdv A outer s H vs Q E hr h => ?_)
  · obtain ⟨v, d, rfl, _⟩ := h
    rfl
  · obtain ⟨v, d, rfl, hd, k⟩ := h
    refine ⟨_, (pss_one (ps_ret (pe_and (pe_f F1 (hr.mono (by decide)) pass0 (pa_cons (pv 0) (pa_cons pe_int pa_nil))) (pe_and (pe_f F2 (hr.mono (by decide)) pass0 (pa_cons (pe_ix ix_tup (pv 0) pe_int (fun _ _ => rfl)) pa_nil)) (pe_one (pe_f F3 (hr.mono (by decide)) pass0 (pa_cons (pe_ix ix_tup (pv 0) pe_int (fun _ _ => rfl)) pa_nil))))))), ?_⟩
    walk_at "nf"
    walk_at "sx"
    refine ⟨v, d, 2, rfl, hd, _, rfl, ?_⟩
    cases c : isTn d 2 with
    | false =>
      refine iteF ?_
      have e : isPr d = false := by simp [isPr, c]
      rw [← e]
      exact k
    | true =>
      obtain ⟨a, b, rfl⟩ := tn_two c
      obtain ⟨p, x, y, rfl, hq, h1, h2⟩ := Dp.two hd
      refine iteT ⟨p, rfl, _, hq, x, rfl, x, a, rfl, h1, _, rfl, ?_⟩
      cases c2 : isNm a with
      | false =>
        refine iteF ?_
        have e : isPr (.tuple [a, b]) = false := by simp [isPr, itm, c2]
        rw [← e]
        exact k
      | true =>
        refine iteT ⟨p, rfl, _, hq, y, rfl, y, b, rfl, h2, ?_⟩
        have e : isPr (.tuple [a, b]) = isFc b := by simp [isPr, itm, c2, c]
        rw [← e]
        exact k
theorem pr_two {d : PyData} (h : isPr d = true) : ∃ n f : Int, d = .tuple [.int n, .int f] := by
  simp only [isPr, Bool.and_eq_true] at h
  obtain ⟨⟨h1, h2⟩, h3⟩ := h
  obtain ⟨a, b, rfl⟩ := tn_two h1
  simp only [itm, List.getD_cons_zero, List.getD_cons_succ] at h2 h3
  cases a with
  | int n =>
    cases b with
    | int f => exact ⟨n, f, rfl⟩
    | _ => cases h3
  | _ => cases h2
theorem ok_is_term (B : Bl mg) (F1 : Df P w K mg base CX0 1 "is_tuple_of" pr_is_tuple_of (spIsTupleOf K)) (F2 : Df P w K mg base CX0 3 "is_factor" pr_is_factor (spIsFactor K)) (F3 : Df P w K mg base CX0 4 "is_pair_of_name" pr_is_pair_of_name (spIsPair K))
    (D : Dt K mg "is_term" s_is_term pr_is_term) : Df P w K mg base CX0 5 "is_term" pr_is_term (spIsTerm K) := by
  refine D.ok sc_is_term (fun vs H Q E h => ?_) (fun f cdv A outer s H vs Q E hr h => ?_)
  · obtain ⟨v, d, rfl, _⟩ := h
    rfl
  · obtain ⟨v, d, rfl, hd, k⟩ := h
    refine ⟨_, (pss_cons (ps_if (PW.pt (pw_or (pt_not (pt_val (pe_f F1 (hr.mono (by decide)) pass0 (pa_cons (pv 0) (pa_cons pe_int pa_nil))))) (pw_or (pt_not (pt_val (pe_f F2 (hr.mono (by decide)) pass0 (pa_cons (pe_ix ix_tup (pv 0) pe_int (fun _ _ => rfl)) pa_nil)))) (pw_or1 (pt_not (pt_val (pe_callB call_isi (by rfl) B.isinstance boot_isinstance (pa_cons (pe_ix ix_tup (pv 0) pe_int (fun _ _ => rfl)) (pa_cons (pe_bltn (v := .ty "tuple") (by rfl) B.tuple PyProof.Rows.boot_tuple rfl) pa_nil))))))))) (pss_one (ps_ret pe_bl)) pss_nil) (pss_cons (ps_set (i := 1) sc_is_term.nd rfl (Or.inl rfl) (pe_un un_neg pe_int)) (pss_cons (ps_for PassesOwn.never rfl (pi_tup (pe_ix ix_tup (pv 0) pe_int (fun _ _ => rfl))) (pg_name (i := 2) sc_is_term.nd rfl (Or.inl rfl)) (pss_cons (ps_if (PW.pt (pw_or (pt_not (pt_val (pe_f F3 (hr.mono (by decide)) pass0 (pa_cons (pv 2) pa_nil)))) (pw_or (pt_cmpR op_le (pe_ix ix_tup (pv 2) pe_int (fun _ _ => rfl)) (pv 1) (nomark _)) (pw_or1 (pt_cmpR op_eq (pe_ix ix_tup (pv 2) pe_int (fun _ _ => rfl)) pe_int (nomark _)))))) (pss_one (ps_ret pe_bl)) pss_nil) (pss_one (ps_set (i := 1) sc_is_term.nd rfl (Or.inl rfl) (pe_ix ix_tup (pv 2) pe_int (fun _ _ => rfl)))))) (pss_one (ps_ret pe_bl))))), ?_⟩
    walk_at "nf"
    walk_at "sx"
    refine ⟨v, d, 2, rfl, hd, _, rfl, ?_⟩
    cases c : isTn d 2 with
    | false =>
      refine iteT ?_
      have e : isTm d = false := by simp [isTm, c]
      rw [← e]
      exact k
    | true =>
    obtain ⟨a, b, rfl⟩ := tn_two c
    obtain ⟨p, x, y, rfl, hq, h1, h2⟩ := Dp.two hd
    refine iteF ⟨p, rfl, _, hq, x, rfl, x, a, rfl, h1, _, rfl, ?_⟩
    cases c2 : isFc a with
    | false =>
      refine iteT ?_
      have e : isTm (.tuple [a, b]) = false := by simp [isTm, itm, c2]
      rw [← e]
      exact k
    | true =>
    refine iteF ⟨p, rfl, _, hq, y, rfl, isi_tuple h2 ⟨_, rfl, ?_⟩⟩
    cases c3 : isT b with
    | false =>
      refine iteT ?_
      have e : isTm (.tuple [a, b]) = false := by simp [isTm, itm, c3]
      rw [← e]
      exact k
    | true =>
    obtain ⟨ds, rfl⟩ : ∃ ds, b = .tuple ds := by
      cases b with
      | tuple ds => exact ⟨ds, rfl⟩
      | _ => cases c3
    have e : isTm (.tuple [a, .tuple ds]) = tmOk (-1) ds := by simp [isTm, itm, c2, c3, c]
    rw [e] at k
    obtain ⟨q, zs, rfl, hqz, ha⟩ := h2.tup_inv
    have hl := ha.length
    refine iteF ⟨_, rfl, p, _, 1, _, rfl, rfl, hq, rfl, q, rfl, ⟨_, hqz⟩, for_tup (K := K) (a := q) (xs := zs) (fun i σ H' => ∃ (last : Int) (v2 : Option V), σ = [some (.ref p), some (.int last), v2] ∧ H' = H ∧ tmOk (-1) ds = tmOk last (ds.drop i))
      ⟨-1, none, rfl, rfl, rfl⟩ (fun i σ H' _ z => by obtain ⟨_, _, _, rfl, _⟩ := z; exact hqz) ?_ ?_⟩
    · rintro i x σ H' hx ⟨last, v2, rfl, rfl, ht⟩
      obtain ⟨d, hd1, hd2⟩ := ha.getV hx
      have hi : i < ds.length := (List.getElem?_eq_some_iff.mp hd1).1
      have hdr : ds.drop i = d :: ds.drop (i + 1) := by
        rw [List.drop_eq_getElem_cons hi]
        congr 1
        exact (List.getElem?_eq_some_iff.mp hd1).2
      rw [hdr] at ht
      try walk_at "nf"
      try walk_at "sx"
      refine ⟨x, d, rfl, hd2, _, rfl, ?_⟩
      cases c4 : isPr d with
      | false =>
        refine iteT ?_
        have e : tmOk last (d :: ds.drop (i + 1)) = false := by simp [tmOk, c4]
        rw [← e, ← ht]
        exact k
      | true =>
      obtain ⟨n, f, rfl⟩ := pr_two c4
      obtain ⟨r, x0, x1, rfl, hr0, hr1, hr2⟩ := Dp.two hd2
      obtain rfl := hr1.int_inv
      obtain rfl := hr2.int_inv
      have e : tmOk last (.tuple [.int n, .int f] :: ds.drop (i + 1)) = (decide (last < n) && !decide (f = 0) && tmOk n (ds.drop (i + 1))) := by simp [tmOk, c4, itm, iOf]
      rw [e] at ht
      refine iteF ⟨r, rfl, _, hr0, _, rfl, n, rfl, ?_⟩
      by_cases c5 : n ≤ last
      · rw [decide_eq_true c5]
        refine iteT ?_
        rw [decide_eq_false (by omega), Bool.false_and, Bool.false_and] at ht
        rw [ht] at k
        exact k
      rw [decide_eq_false c5]
      refine iteF ⟨r, rfl, _, hr0, _, rfl, rfl, ?_⟩
      by_cases c6 : f = 0
      · subst c6
        rw [decide_eq_true rfl]
        refine iteT ?_
        rw [decide_eq_true rfl, Bool.not_true, Bool.and_false, Bool.false_and] at ht
        rw [ht] at k
        exact k
      · rw [decide_eq_false (fun z => c6 (V.int.inj z))]
        refine iteF ⟨r, rfl, _, hr0, _, rfl, n, rfl, rfl, ?_⟩
        rw [decide_eq_true (by omega), decide_eq_false c6, Bool.not_false, Bool.true_and, Bool.true_and] at ht
        exact ht
    · rintro σ H' ⟨last, v2, rfl, rfl, ht⟩
      rw [hl, List.drop_length] at ht
      try walk_at "nf"
      rw [ht] at k
      exact k
end
/-! ### terms as data -/
abbrev Pr := Int × Int
def prD (p : Pr) : PyData := .tuple [.int p.1, .int p.2]
def prsD (ps : List Pr) : PyData := .tuple (ps.map prD)
def tmD (c : Int) (ps : List Pr) : PyData := .tuple [.int c, prsD ps]
def prOk (p : Pr) : Prop := 0 ≤ p.1 ∧ p.1 ≤ 9 ∧ -(10 ^ 9) ≤ p.2 ∧ p.2 ≤ 10 ^ 9
def asc : Int → List Pr → Prop
  | _, [] => True
  | last, p :: r => prOk p ∧ last < p.1 ∧ p.2 ≠ 0 ∧ asc p.1 r
structure TmOk (c : Int) (ps : List Pr) : Prop where
  c1 : -(10 ^ 9) ≤ c
  c2 : c ≤ 10 ^ 9
  as : asc (-1) ps
theorem isPr_pr (p : Pr) : isPr (prD p) = true ↔ prOk p := by
  simp only [isPr, prD, isTn, isNm, isFc, isBt, itm, List.getD_cons_zero, List.getD_cons_succ, Bool.and_eq_true, decide_eq_true_eq, List.length_cons, List.length_nil, prOk]
  constructor
  · rintro ⟨⟨_, h1, h2⟩, h3, h4⟩
    exact ⟨h1, h2, h3, h4⟩
  · rintro ⟨h1, h2, h3, h4⟩
    exact ⟨⟨by decide, h1, h2⟩, h3, h4⟩
theorem tmOk_asc : ∀ (ds : List PyData) (last : Int), tmOk last ds = true → ∃ ps : List Pr, ds = ps.map prD ∧ asc last ps
  | [], last, _ => ⟨[], rfl, trivial⟩
  | d :: r, last, h => by
    simp only [tmOk, Bool.and_eq_true, decide_eq_true_eq, Bool.not_eq_true', decide_eq_false_iff_not] at h
    obtain ⟨⟨⟨h1, h2⟩, h3⟩, h4⟩ := h
    obtain ⟨n, f, rfl⟩ := pr_two h1
    obtain ⟨ps, rfl, h5⟩ := tmOk_asc r n h4
    exact ⟨(n, f) :: ps, rfl, (isPr_pr (n, f)).mp h1, h2, h3, h5⟩
theorem asc_tmOk : ∀ (ps : List Pr) (last : Int), asc last ps → tmOk last (ps.map prD) = true
  | [], _, _ => rfl
  | p :: r, last, ⟨h1, h2, h3, h4⟩ => by
    have := asc_tmOk r p.1 h4
    simp only [List.map_cons, tmOk, (isPr_pr p).mpr h1, Bool.true_and]
    have e1 : iOf ((itm (prD p)).getD 0 .none) = p.1 := rfl
    have e2 : iOf ((itm (prD p)).getD 1 .none) = p.2 := rfl
    rw [e1, e2, decide_eq_true h2, decide_eq_false h3, this]
    rfl
theorem isTm_tm {d : PyData} (h : isTm d = true) : ∃ c ps, d = tmD c ps ∧ TmOk c ps := by
  simp only [isTm, Bool.and_eq_true] at h
  obtain ⟨⟨⟨h1, h2⟩, h3⟩, h4⟩ := h
  obtain ⟨a, b, rfl⟩ := tn_two h1
  simp only [itm, List.getD_cons_zero, List.getD_cons_succ] at h2 h3 h4
  cases a with
  | int c =>
    cases b with
    | tuple ds =>
      obtain ⟨ps, rfl, h5⟩ := tmOk_asc ds (-1) h4
      simp only [isFc, isBt, Bool.and_eq_true, decide_eq_true_eq] at h2
      exact ⟨c, ps, rfl, h2.1, h2.2, h5⟩
    | _ => cases h3
  | _ => cases h2
theorem tm_isTm {c : Int} {ps : List Pr} (h : TmOk c ps) : isTm (tmD c ps) = true := by
  have e : isTm (tmD c ps) = (isFc (.int c) && tmOk (-1) (ps.map prD)) := by simp [isTm, tmD, isTn, itm, prsD, isT]
  rw [e, asc_tmOk ps (-1) h.as]
  simp only [isFc, isBt, Bool.and_eq_true, decide_eq_true_eq, Bool.and_true]
  exact ⟨h.c1, h.c2⟩
/-- the pairs of a term as values -/
structure PrsV (K : PySem.W.Frag) (H : Hp) (q : Addr) (ps : List Pr) (zs : List V) : Prop where
  seq : SqT K H q zs
  len : zs.length = ps.length
  at_ : ∀ (i : Nat) (x : V), zs[i]? = some x → ∃ r, x = .ref r ∧ SqT K H r [.int (ps.getD i (0, 0)).1, .int (ps.getD i (0, 0)).2]
theorem prs_v {K : PySem.W.Frag} {H : Hp} {v : V} {ps : List Pr} (h : Dp K H v (prsD ps)) : ∃ q zs, v = .ref q ∧ PrsV K H q ps zs := by
  obtain ⟨q, zs, rfl, hq, ha⟩ := h.tup_inv
  have hl := ha.length
  rw [List.length_map] at hl
  refine ⟨q, zs, rfl, hq, hl, fun i x hx => ?_⟩
  have hi : i < ps.length := by
    have := (List.getElem?_eq_some_iff.mp hx).1
    omega
  obtain ⟨d, hd1, hd2⟩ := ha.getV hx
  have ed : d = prD (ps.getD i (0, 0)) := by
    simp [hi] at hd1
    rw [← hd1]
    simp [hi]
  subst ed
  obtain ⟨r, x, y, rfl, h1, h2, h3⟩ := Dp.two hd2
  obtain rfl := h2.int_inv
  obtain rfl := h3.int_inv
  exact ⟨r, rfl, h1⟩
theorem PrsV.to {K : PySem.W.Frag} {H H' : Hp} {q : Addr} {ps : List Pr} {zs : List V} (h : PrsV K H q ps zs) (e : Same H H') : PrsV K H' q ps zs :=
  ⟨e.seqT h.seq, h.len, fun i x hx => let ⟨r, h1, h2⟩ := h.at_ i x hx; ⟨r, h1, e.seqT h2⟩⟩
theorem tm_v {K : PySem.W.Frag} {H : Hp} {v : V} {c : Int} {ps : List Pr} (h : Dp K H v (tmD c ps)) : ∃ p q zs, v = .ref p ∧ SqT K H p [.int c, .ref q] ∧ PrsV K H q ps zs := by
  obtain ⟨p, x, y, rfl, h1, h2, h3⟩ := Dp.two h
  obtain rfl := h2.int_inv
  obtain ⟨q, zs, rfl, h4⟩ := prs_v h3
  exact ⟨p, q, zs, rfl, h1, h4⟩
def RPr (K : PySem.W.Frag) (f : Nat → Pr) : Nat → V → Hp → Prop := fun i y H => ∃ r, y = .ref r ∧ SqT K H r [.int (f i).1, .int (f i).2]
theorem rpr_keep (K : PySem.W.Frag) (f : Nat → Pr) {D : Addr} (i : Nat) (y : V) (H H' : Hp) (e : Sbt D D H H') (n : NoT H D) (h : RPr K f i y H) : RPr K f i y H' := let ⟨r, h1, h2⟩ := h; ⟨r, h1, seqTN e n n h2⟩
theorem rpr_dp {K : PySem.W.Frag} {f : Nat → Pr} {i : Nat} {y : V} {H : Hp} (h : RPr K f i y H) : Dp K H y (prD (f i)) := by
  obtain ⟨r, rfl, h2⟩ := h
  exact .tup h2 (.cons (.int _) (.cons (.int _) .nil))
def mulP (f : Int) (ps : List Pr) : List Pr := if f = 0 then [] else ps.map fun p => (p.1, f * p.2)
def spMultiplied (K : PySem.W.Frag) : Sp := fun vs H Q _ => ∃ (tv : V) (c : Int) (ps : List Pr) (f : Int), vs = [tv, .int f] ∧ Dp K H tv (tmD c ps) ∧ ps.length ≤ 1000 ∧ -(2 ^ 64) < f ∧ f < 2 ^ 64 ∧ ∀ H' u, Same H H' → Dp K H' u (tmD (f * c) (mulP f ps)) → Q u H'
abbrev s_multiplied : Stmt := top 26
abbrev nm_multiplied : List Str := ["term", "factor", "name", "each"]
abbrev pr_multiplied : List Str := ["term", "factor"]
theorem sc_multiplied : FnScope nm_multiplied pr_multiplied (defScope s_multiplied) := ⟨rfl, rfl, rfl, by decide +kernel, rfl, by decide +kernel, by decide +kernel⟩
/-! ### gathered -/
def sumOf (n : Int) : List Pr → Int
  | [] => 0
  | p :: r => (if p.1 = n then p.2 else 0) + sumOf n r
theorem sumOf_app (n : Int) : ∀ (a b : List Pr), sumOf n (a ++ b) = sumOf n a + sumOf n b
  | [], b => by simp [sumOf]
  | p :: a, b => by
    show (if p.1 = n then p.2 else 0) + sumOf n (a ++ b) = (if p.1 = n then p.2 else 0) + sumOf n a + sumOf n b
    rw [sumOf_app n a b]
    omega
theorem sumOf_none {n : Int} : ∀ {a : List Pr}, (∀ p ∈ a, p.1 ≠ n) → sumOf n a = 0
  | [], _ => rfl
  | p :: a, h => by
    show (if p.1 = n then p.2 else 0) + sumOf n a = 0
    rw [if_neg (h p (List.mem_cons_self ..)), sumOf_none fun q hq => h q (List.mem_cons_of_mem _ hq)]
    rfl
def ten : List Int := [0, 1, 2, 3, 4, 5, 6, 7, 8, 9]
/-- one pair for each name whose factors do not sum to 0 -/
def canon (ps : List Pr) : List Pr := (ten.filter fun n => decide (sumOf n ps ≠ 0)).map fun n => (n, sumOf n ps)
def fits (c : Int) (ps : List Pr) : Bool := decide (-(10 ^ 9) ≤ c ∧ c ≤ 10 ^ 9) && ps.all fun p => decide (-(10 ^ 9) ≤ p.2 ∧ p.2 ≤ 10 ^ 9)
theorem fits_all {c : Int} {ps : List Pr} (h : fits c ps = true) : ∀ z ∈ c :: ps.map (·.2), -(10 ^ 9) ≤ z ∧ z ≤ 10 ^ 9 := by
  simp only [fits, Bool.and_eq_true, decide_eq_true_eq, List.all_eq_true] at h
  intro z hz
  rcases List.mem_cons.mp hz with rfl | hz
  · exact h.1
  · obtain ⟨p, hp, rfl⟩ := List.mem_map.mp hz
    exact h.2 p hp
theorem all_fits {c : Int} {ps : List Pr} (h : ∀ z ∈ c :: ps.map (·.2), -(10 ^ 9) ≤ z ∧ z ≤ 10 ^ 9) : fits c ps = true := by
  simp only [fits, Bool.and_eq_true, decide_eq_true_eq, List.all_eq_true]
  exact ⟨h c (List.mem_cons_self ..), fun p hp => h p.2 (List.mem_cons_of_mem _ (List.mem_map.mpr ⟨p, hp, rfl⟩))⟩
def addK (ks : List Int) (n : Int) : List Int := if n ∈ ks then ks else ks ++ [n]
def keysOf (ps : List Pr) : List Int := ps.foldl (fun ks p => addK ks p.1) []
def kvOf (ps : List Pr) : List (Key × V) := (keysOf ps).map fun n => ((Sum.inl n : Key), V.int (sumOf n ps))
theorem addK_mem {ks : List Int} {n m : Int} : m ∈ addK ks n ↔ m ∈ ks ∨ m = n := by
  unfold addK
  by_cases h : n ∈ ks
  · rw [if_pos h]
    constructor
    · exact .inl
    · rintro (h1 | rfl)
      · exact h1
      · exact h
  · rw [if_neg h]
    simp
theorem addK_nodup {ks : List Int} {n : Int} (h : ks.Nodup) : (addK ks n).Nodup := by
  unfold addK
  by_cases c : n ∈ ks
  · rw [if_pos c]; exact h
  · rw [if_neg c]
    rw [List.nodup_append]
    refine ⟨h, by simp, fun a ha b hb => ?_⟩
    obtain rfl : b = n := by simpa using hb
    intro e
    subst e
    exact c ha
theorem keys_snoc (ps : List Pr) (p : Pr) : keysOf (ps ++ [p]) = addK (keysOf ps) p.1 := by simp [keysOf, List.foldl_append]
theorem keys_fold : ∀ (ps : List Pr) (ks : List Int), ks.Nodup → (ps.foldl (fun ks p => addK ks p.1) ks).Nodup ∧ ∀ m, m ∈ ps.foldl (fun ks p => addK ks p.1) ks ↔ m ∈ ks ∨ ∃ p ∈ ps, p.1 = m
  | [], ks, h => ⟨h, fun m => by simp⟩
  | p :: ps, ks, h => by
    obtain ⟨h1, h2⟩ := keys_fold ps (addK ks p.1) (addK_nodup h)
    refine ⟨h1, fun m => ?_⟩
    rw [List.foldl_cons, h2, addK_mem]
    constructor
    · rintro ((h | rfl) | ⟨q, hq, e⟩)
      · exact .inl h
      · exact .inr ⟨p, List.mem_cons_self .., rfl⟩
      · exact .inr ⟨q, List.mem_cons_of_mem _ hq, e⟩
    · rintro (h | ⟨q, hq, e⟩)
      · exact .inl (.inl h)
      · rcases List.mem_cons.mp hq with rfl | hq
        · exact .inl (.inr e.symm)
        · exact .inr ⟨q, hq, e⟩
theorem keys_nodup (ps : List Pr) : (keysOf ps).Nodup := (keys_fold ps [] List.nodup_nil).1
theorem keys_mem {ps : List Pr} {m : Int} : m ∈ keysOf ps ↔ ∃ p ∈ ps, p.1 = m := by
  rw [show keysOf ps = ps.foldl (fun ks p => addK ks p.1) [] from rfl, (keys_fold ps [] List.nodup_nil).2 m]
  simp
theorem sum_keys {ps : List Pr} {n : Int} (h : n ∉ keysOf ps) : sumOf n ps = 0 := sumOf_none fun p hp e => h (keys_mem.mpr ⟨p, hp, e⟩)
theorem valV_map (g : Int → V) (n : Int) : ∀ ks : List Int, valV (ks.map fun m => ((Sum.inl m : Key), g m)) (Sum.inl n) = if n ∈ ks then some (g n) else none
  | [] => by simp [valV]
  | m :: ks => by
    rw [List.map_cons]
    by_cases h : m = n
    · subst h
      rw [valV_pos rfl, if_pos (List.mem_cons_self ..)]
    · rw [valV_neg (fun z => h (Sum.inl.inj z)), valV_map g n ks]
      by_cases c : n ∈ ks
      · rw [if_pos c, if_pos (List.mem_cons_of_mem _ c)]
      · rw [if_neg c, if_neg (fun z => by
          rcases List.mem_cons.mp z with e | e
          · exact h e.symm
          · exact c e)]
theorem sum_snoc (n : Int) (ps : List Pr) (p : Pr) : sumOf n (ps ++ [p]) = sumOf n ps + if p.1 = n then p.2 else 0 := by
  rw [sumOf_app]
  simp [sumOf]
theorem val_kv (ps : List Pr) (n : Int) : valV (kvOf ps) (Sum.inl n) = if n ∈ keysOf ps then some (.int (sumOf n ps)) else none := valV_map (fun m => .int (sumOf m ps)) n _
theorem put_kv (ps : List Pr) (p : Pr) : putK (kvOf ps) (Sum.inl p.1 : Key) (.int (sumOf p.1 ps + p.2)) = kvOf (ps ++ [p]) := by
  by_cases c : p.1 ∈ keysOf ps
  · have e : keysOf (ps ++ [p]) = keysOf ps := by
      rw [keys_snoc]
      exact if_pos c
    have any : ((kvOf ps).any fun kv => decide (kv.1 = (Sum.inl p.1 : Key))) = true := by
      rw [valV_any, val_kv, if_pos c]
      rfl
    unfold putK
    rw [if_pos any]
    show (kvOf ps).map _ = (keysOf (ps ++ [p])).map _
    rw [e]
    unfold kvOf
    rw [List.map_map]
    refine List.map_congr_left fun m hm => ?_
    simp only [Function.comp]
    by_cases h : m = p.1
    · subst h
      rw [if_pos rfl, sum_snoc, if_pos rfl]
    · rw [if_neg (fun z => h (Sum.inl.inj z)), sum_snoc, if_neg (fun z => h z.symm), Int.add_zero]
  · have e : keysOf (ps ++ [p]) = keysOf ps ++ [p.1] := by
      rw [keys_snoc]
      exact if_neg c
    rw [putK_new _ (by rw [val_kv, if_neg c])]
    show kvOf ps ++ _ = (keysOf (ps ++ [p])).map _
    rw [e, List.map_append]
    have e2 : kvOf ps = (keysOf ps).map fun n => ((Sum.inl n : Key), V.int (sumOf n (ps ++ [p]))) := by
      refine List.map_congr_left fun m hm => ?_
      rw [sum_snoc, if_neg (fun z => c (by rw [z]; exact hm)), Int.add_zero]
    rw [← e2]
    simp only [List.map_cons, List.map_nil]
    rw [sum_snoc, if_pos rfl]
theorem keys_few {ps : List Pr} (h : ∀ p ∈ ps, 0 ≤ p.1 ∧ p.1 ≤ 9) : (keysOf ps).length ≤ 10 := by
  refine List.Nodup.length_le_of_subset (l₂ := ten) (keys_nodup ps) fun m hm => ?_
  obtain ⟨p, hp, rfl⟩ := keys_mem.mp hm
  obtain ⟨h1, h2⟩ := h p hp
  have : p.1 = 0 ∨ p.1 = 1 ∨ p.1 = 2 ∨ p.1 = 3 ∨ p.1 = 4 ∨ p.1 = 5 ∨ p.1 = 6 ∨ p.1 = 7 ∨ p.1 = 8 ∨ p.1 = 9 := by omega
  simp only [ten, List.mem_cons, List.not_mem_nil, or_false]
  exact this
theorem canon_of {ps : List Pr} {ys : List Int} (h : ∀ p ∈ ps, 0 ≤ p.1 ∧ p.1 ≤ 9) (hp : ys.Perm (keysOf ps)) (hs : ys.Pairwise (· ≤ ·)) : (ys.filter fun n => decide (sumOf n ps ≠ 0)).map (fun n => (n, sumOf n ps)) = canon ps := by
  unfold canon
  congr 1
  have hny : ys.Nodup := hp.nodup_iff.mpr (keys_nodup ps)
  refine List.Perm.eq_of_pairwise (le := (· ≤ ·)) (fun a b _ _ h1 h2 => Int.le_antisymm h1 h2) (hs.sublist List.filter_sublist) (List.Pairwise.sublist List.filter_sublist (by decide)) ?_
  rw [List.perm_ext_iff_of_nodup (hny.sublist List.filter_sublist) (List.Nodup.sublist List.filter_sublist (by decide))]
  intro m
  simp only [List.mem_filter, decide_eq_true_eq]
  constructor
  · rintro ⟨h1, h2⟩
    obtain ⟨p, hp2, rfl⟩ := keys_mem.mp (hp.mem_iff.mp h1)
    obtain ⟨h3, h4⟩ := h p hp2
    refine ⟨?_, h2⟩
    have : p.1 = 0 ∨ p.1 = 1 ∨ p.1 = 2 ∨ p.1 = 3 ∨ p.1 = 4 ∨ p.1 = 5 ∨ p.1 = 6 ∨ p.1 = 7 ∨ p.1 = 8 ∨ p.1 = 9 := by omega
    simp only [ten, List.mem_cons, List.not_mem_nil, or_false]
    exact this
  · rintro ⟨h1, h2⟩
    refine ⟨hp.mem_iff.mpr ?_, h2⟩
    by_cases c : m ∈ keysOf ps
    · exact c
    · exact absurd (sum_keys c) h2
def spGathered (K : PySem.W.Frag) (TG : Addr) : Sp := fun vs H Q E => ∃ (c : Int) (pv : V) (ps : List Pr), vs = [.int c, pv] ∧ Dp K H pv (prsD ps) ∧ ps.length ≤ 1000 ∧ (∀ p ∈ ps, 0 ≤ p.1 ∧ p.1 ≤ 9) ∧
  (fits c (canon ps) = true → ∀ H' u, Same H H' → Dp K H' u (tmD c (canon ps)) → Q u H') ∧ (fits c (canon ps) = false → OutF K TG "most" (.int (10 ^ 9)) H E)
abbrev s_gathered : Stmt := top 25
abbrev nm_gathered : List Str := ["const", "pairs", "sums", "name", "factor", "kept", "number", "_"]
abbrev pr_gathered : List Str := ["const", "pairs"]
theorem sc_gathered : FnScope nm_gathered pr_gathered (defScope s_gathered) := ⟨rfl, rfl, rfl, by decide +kernel, rfl, by decide +kernel, by decide +kernel⟩
section
variable {P : Program} {w : World} {K : PySem.W.Frag} {mg : Str → Option Value} {base : Heap} {BF TG : Addr}
theorem ok_multiplied (B : Bl mg) (D : Dt K mg "multiplied" s_multiplied pr_multiplied) : Df P w K mg base CX0 1 "multiplied" pr_multiplied (spMultiplied K) := by
  refine D.ok sc_multiplied (fun vs H Q E h => ?_) (fun f cdv A outer s H vs Q E hr h => ?_)
  · obtain ⟨tv, c, ps, n, rfl, _⟩ := h
    rfl
  · obtain ⟨tv, c, ps, n, rfl, hd, hz, h0, h2, k⟩ := h
    obtain ⟨p, q, zs, rfl, h1, hp⟩ := tm_v hd
    refine ⟨_, (pss_cons (ps_if (pt_cmpR op_eq (pv 1) pe_int (nomark _)) (pss_one (ps_ret (pe_tup (pa_cons pe_int (pa_cons (pe_tup pa_nil) pa_nil))))) pss_nil) (pss_one (ps_ret (pe_tup (pa_cons (pe_op op_mul (pv 1) (pe_ix ix_tup (pv 0) pe_int (fun _ _ => rfl))) (pa_cons (pe_callTy call_tuple_of (by rfl) B.tuple PyProof.Rows.boot_tuple (pa_cons (pe_lc (own := [("name", 2), ("each", 3)]) (g := gTup K 2 (gCons (gName 2) (gCons (gName 3) gNil))) (tt := tYes) (te := tTup (tCons (tVar 2) (tCons (tOp (rI CMul fun i j => .int (i * j)) (tVar 1) (tVar 3)) tNil))) (by rfl) sc_multiplied.nd (pi_tup (pe_ix ix_tup (pv 0) pe_int (fun _ _ => rfl))) (blkOk_by (own := [("name", 2), ("each", 3)]) (N := nm_multiplied) (sc := defScope s_multiplied) (by decide +kernel)) (fun _ _ _ _ _ => pg_tup rfl (pgs_cons (pg_name (i := 2) sc_multiplied.nd rfl (Or.inl rfl)) (pgs_cons (pg_name (i := 3) sc_multiplied.nd rfl (Or.inl rfl)) pgs_nil))) (fun _ _ _ _ _ => pts_nil) (fun _ _ _ _ _ => (pe_tup (pa_cons (pv 2) (pa_cons (pe_op op_mul (pv 1) (pv 3)) pa_nil))))) pa_nil)) pa_nil)))))), ?_⟩
    try walk_at "nf"
    try walk_at "sx"
    refine ⟨rfl, ?_⟩
    by_cases c0 : n = 0
    · subst c0
      rw [decide_eq_true rfl]
      refine iteT ⟨by decide, fun t ht => ⟨by decide, fun t2 ht2 => k _ _ ((Same.new ht).then_new ht2) ?_⟩⟩
      have e0 : tmD (0 * c) (mulP 0 ps) = .tuple [.int 0, .tuple []] := by
        rw [Int.zero_mul]
        rfl
      rw [e0]
      exact .tup (.of upd_same) (.cons (.int _) (.cons (.tup (.of (by rw [upd_ne (ne_of_none upd_same ht2), upd_same])) .nil) .nil))
    · rw [decide_eq_false c0]
      refine iteF ⟨_, h1, _, rfl, c, rfl, .inl ⟨h0, h2⟩, ?_⟩
      refine ⟨_, rfl, p, _, 1, _, rfl, rfl, h1, rfl, q, rfl, ⟨_, hp.seq⟩, fun D hD => lcF walk_tup hD (by rw [hp.len]; exact slt (by omega)) (fun _ => true) (RPr K fun i => ((ps.getD i (0, 0)).1, n * (ps.getD i (0, 0)).2)) (rpr_keep K _) (fun H1 e => e.seqT hp.seq) (fun i x H1 H2 Q1 Q0 hi e y q1 q0 => ?_) (fun H1 ys e hD1 g => ?_)⟩
      · obtain ⟨rfl, hx⟩ := y
        obtain ⟨r, rfl, hr1⟩ := hp.at_ i x hx
        try walk_at "nf"
        refine ⟨r, _, rfl, e.seqT hr1, rfl, ?_⟩
        try walk_at "sx"
        exact ⟨.inl ⟨h0, h2⟩, by decide, fun t ht => q1 rfl _ _ ⟨t, rfl, .of upd_same⟩ (Same.new ht)⟩
      · have ha := g.dp (K := K) (fun i => prD ((ps.getD i (0, 0)).1, n * (ps.getD i (0, 0)).2)) (fun i y hy => rpr_dp hy)
        have el : ((List.range zs.length).filter fun _ => true).map (fun i => prD ((ps.getD i (0, 0)).1, n * (ps.getD i (0, 0)).2)) = (mulP n ps).map prD := by
          unfold mulP
          rw [if_neg c0, hp.len, all_kept, List.map_map, ← by_places ps (0, 0) _]
          rfl
        rw [el] at ha
        refine ⟨D, rfl, ys, .inl ⟨.of hD1, fun t ht => ⟨by decide, fun t2 ht2 => ?_⟩⟩⟩
        have e2 : Same H1 (upd (upd H1 t (HO.tup ys)) t2 (HO.tup [V.int (n * c), V.ref t])) := (Same.new ht).then_new ht2
        exact k _ _ (e.trans e2) (.tup (.of upd_same) (.cons (.int _) (.cons (.tup (.of (by rw [upd_ne (ne_of_none upd_same ht2), upd_same])) (ha.to e2)) .nil)))
theorem ok_gathered (B : Bl mg) (C : Cs0 mg) (T : ErS P w K mg base BF TG) (D : Dt K mg "gathered" s_gathered pr_gathered) : Df P w K mg base (L2.CX P w) 3 "gathered" pr_gathered (spGathered K TG) := by
  refine D.okX sc_gathered (fun vs H Q E h => ?_) (fun f cdv A outer s H vs Q E hr h => ?_)
  · obtain ⟨c, pv, ps, rfl, _⟩ := h
    rfl
  · obtain ⟨c, pv, ps, rfl, hd, hz, hn, k1, k2⟩ := h
    obtain ⟨q, zs, rfl, hp⟩ := prs_v hd
    refine ⟨_, (pss_cons (ps_set (i := 2) sc_gathered.nd rfl (Or.inr rfl) pe_dnewK) (pss_cons (ps_for (passes_of rfl) rfl (pi_tup (pv 1)) (pg_tup rfl (pgs_cons (pg_name (i := 3) sc_gathered.nd rfl (Or.inl rfl)) (pgs_cons (pg_name (i := 4) sc_gathered.nd rfl (Or.inl rfl)) pgs_nil))) (pss_one (ps_dput (hu_of hr) (pv 2) (pv 3) (pe_op op_add (pe_dget2 (hu_of hr) (pv 2) (pv 3) pe_int ⟨rfl, rfl, rfl, rfl⟩) (pv 4)) rfl))) (pss_cons (ps_set (i := 5) sc_gathered.nd rfl (Or.inl rfl) (pe_callTy call_tuple_of (by rfl) B.tuple PyProof.Rows.boot_tuple (pa_cons (pe_lc (own := [("name", 3)]) (g := gName 3) (tt := (tTest (tOp rNe (tDGet (tVar 2) (tVar 3)) (tC (.int 0))))) (te := tTup (tCons (tVar 3) (tCons (tDGet (tVar 2) (tVar 3)) tNil))) (by rfl) sc_gathered.nd (pi_list (pe_callB (call_sortedDI rfl) (by rfl) B.sorted boot_sorted (pa_cons (pv 2) pa_nil))) (blkOk_by (own := [("name", 3)]) (N := nm_gathered) (sc := defScope s_gathered) (by decide +kernel)) (fun _ _ _ _ _ => pg_name (i := 3) sc_gathered.nd rfl (Or.inl rfl)) (fun _ _ _ _ _ => (pts_one (pt_cmpR op_ne (pe_dget (hu_of hr) (pv 2) (pv 3) (fun _ _ => rfl)) pe_int (nomark _)))) (fun _ _ _ _ _ => (pe_tup (pa_cons (pv 3) (pa_cons (pe_dget (hu_of hr) (pv 2) (pv 3) (fun _ _ => rfl)) pa_nil))))) pa_nil))) (pss_cons (ps_for (passes_of rfl) rfl (pi_list (pe_op op_cat (pe_lst (pa_cons (pv 0) pa_nil)) (pe_lc (own := [("_", 7), ("factor", 4)]) (g := gTup K 2 (gCons (gName 7) (gCons (gName 4) gNil))) (tt := tYes) (by rfl) sc_gathered.nd (pi_tup (pv 5)) (blkOk_by (own := [("_", 7), ("factor", 4)]) (N := nm_gathered) (sc := defScope s_gathered) (by decide +kernel)) (fun _ _ _ _ _ => pg_tup rfl (pgs_cons (pg_name (i := 7) sc_gathered.nd rfl (Or.inl rfl)) (pgs_cons (pg_name (i := 4) sc_gathered.nd rfl (Or.inl rfl)) pgs_nil))) (fun _ _ _ _ _ => pts_nil) (fun _ _ _ _ _ => (pv 4))))) (pg_name (i := 6) sc_gathered.nd rfl (Or.inl rfl)) (pss_one (ps_if (pt_cmpR op_gt (pe_callB call_abs (by rfl) B.abs boot_abs (pa_cons (pv 6) pa_nil)) (pe_glob (v := .int (10 ^ 9)) rfl C.MOST_FACTOR.choose_spec ⟨_, rfl⟩) (nomark _)) (pss_one (ps_rz rfl T.TooGreat (hr.mono (by decide)) (takes_of rfl rfl rfl rfl) (by rfl) (pe_glob (v := .int (10 ^ 9)) rfl C.MOST_FACTOR.choose_spec ⟨_, rfl⟩))) pss_nil))) (pss_one (ps_ret (pe_tup (pa_cons (pv 0) (pa_cons (pv 5) pa_nil))))))))), ?_⟩
    walk_at "nf"
    walk_at "sx"
    intro L hL
    have e0 : Same H (upd H L (HO.dK [])) := Same.new hL
    refine ⟨_, rfl, q, rfl, ⟨_, e0.seqT hp.seq⟩, for_tup (K := K) (a := q) (xs := zs) (fun i σ H' => ∃ v3 v4, σ = [some (.int c), some (.ref q), some (.ref L), v3, v4, none, none, none] ∧ Same H H' ∧ H' L = some (.dK (kvOf (ps.take i))))
      ⟨_, _, rfl, e0, upd_same⟩ (fun i σ H' _ z => by obtain ⟨_, _, _, e, _⟩ := z; exact e.seqT hp.seq) ?_ ?_⟩
    · rintro i x σ H' hx ⟨v3, v4, rfl, e, hL'⟩
      obtain ⟨r, rfl, hr1⟩ := hp.at_ i x hx
      have hi : i < ps.length := by
        have := (List.getElem?_eq_some_iff.mp hx).1
        rwa [hp.len] at this
      try walk_at "nf"
      refine ⟨r, _, rfl, e.seqT hr1, rfl, ?_⟩
      try walk_at "sx"
      have ht : ps.take (i + 1) = ps.take i ++ [ps.getD i (0, 0)] := by
        rw [List.take_add_one]
        simp [hi]
      have hfew : (kvOf (ps.take i)).length < sizeLine := by
        unfold kvOf
        rw [List.length_map]
        exact slt (Nat.lt_of_le_of_lt (keys_few fun p hp => hn p (List.mem_of_mem_take hp)) (by decide))
      have hg : DGet H' L (.int (ps.getD i (0, 0)).1) (valV (kvOf (ps.take i)) (Sum.inl (ps.getD i (0, 0)).1)) := DGet.k (k := Sum.inl (ps.getD i (0, 0)).1) hL'
      have ho : (valV (kvOf (ps.take i)) (Sum.inl (ps.getD i (0, 0)).1)).getD (.int 0) = .int (sumOf (ps.getD i (0, 0)).1 (ps.take i)) := by
        rw [val_kv]
        by_cases cc : (ps.getD i (0, 0)).1 ∈ keysOf (ps.take i)
        · rw [if_pos cc]
          rfl
        · rw [if_neg cc, sum_keys cc]
          rfl
      have hpt : DPut H' L (.int (ps.getD i (0, 0)).1) (.int (sumOf (ps.getD i (0, 0)).1 (ps.take i) + (ps.getD i (0, 0)).2)) (upd H' L (.dK (kvOf (ps.take i ++ [ps.getD i (0, 0)])))) := by
        rw [← put_kv]
        exact DPut.k (k := Sum.inl (ps.getD i (0, 0)).1) hL' hfew
      exact ⟨.inl ⟨_, .inl hL'⟩, _, hg, _, ho, _, hpt, e.mut hL, by rw [upd_same, ht]⟩
    · rintro σ H' ⟨v3, v4, rfl, e, hL'⟩
      rw [hp.len, List.take_length] at hL'
      try walk_at "nf"
      try walk_at "sx"
      have hkl := keys_few hn
      refine ⟨_, rfl, L, rfl, kvOf ps, .inl hL', keysOf ps, by unfold kvOf; rw [List.map_map]; rfl, by omega, fun ys p2 hperm hsort hp2 => ⟨p2, rfl, ⟨_, .of upd_same⟩, ?_⟩⟩
      have hyl : ys.length ≤ 10 := by rw [hperm.length_eq]; exact hkl
      have nLp : L ≠ p2 := ne_of_none hL' hp2
      refine fun D2 hD2 => lcF walk_list hD2 (by rw [List.length_map]; exact slt (by omega)) (fun i => decide (sumOf (ys.getD i 0) ps ≠ 0)) (RPr K fun i => (ys.getD i 0, sumOf (ys.getD i 0) ps)) (rpr_keep K _) (fun H1 e1 => .of (e1 _ _ upd_same)) (fun i x H1 H2 Q1 Q0 hi e1 y q1 q0 => ?_) (fun H1 ws e1 hD1 g => ?_)
      · obtain ⟨rfl, hx⟩ := y
        have hi2 : i < ys.length := by rw [List.length_map] at hi; exact hi
        obtain rfl : x = V.int (ys.getD i 0) := by
          simp [hi2] at hx
          rw [← hx]
          simp [hi2]
        have hLx : H2 L = some (.dK (kvOf ps)) := e1 _ _ (by rw [upd_ne nLp]; exact hL')
        have hmem : ys.getD i 0 ∈ keysOf ps := hperm.mem_iff.mp (by simp [hi2])
        have hg : DGet H2 L (.int (ys.getD i 0)) (some (.int (sumOf (ys.getD i 0) ps))) := by
          have := DGet.k (k := Sum.inl (ys.getD i 0)) hLx
          rw [val_kv, if_pos hmem] at this
          exact this
        try walk_at "nf"
        try walk_at "sx"
        refine ⟨_, hg, rfl, ?_⟩
        by_cases c0 : sumOf (ys.getD i 0) ps = 0
        · rw [decide_eq_true (by rw [c0])]
          exact iteF (q0 (decide_eq_false fun z => z c0) _ (Same.refl _))
        · rw [decide_eq_false (fun z => c0 (V.int.inj z))]
          exact iteT ⟨_, hg, by decide, fun t ht => q1 (decide_eq_true c0) _ _ ⟨t, rfl, .of upd_same⟩ (Same.new ht)⟩
      · have ha := g.dp (K := K) (fun i => prD (ys.getD i 0, sumOf (ys.getD i 0) ps)) (fun i y hy => rpr_dp hy)
        have el : ((List.range (ys.map V.int).length).filter fun i => decide (sumOf (ys.getD i 0) ps ≠ 0)).map (fun i => prD (ys.getD i 0, sumOf (ys.getD i 0) ps)) = (canon ps).map prD := by
          rw [List.length_map, ← canon_of hn hperm hsort, ← filter_get ys 0 (fun n => decide (sumOf n ps ≠ 0)), List.map_map, List.map_map]
          rfl
        rw [el] at ha
        have e3 : Same H H1 := (e.then_new hp2).trans e1
        refine ⟨D2, rfl, ws, .inl ⟨.of hD1, fun t ht => ?_⟩⟩
        have e4 : Same H (upd H1 t (HO.tup ws)) := e3.then_new ht
        have hkept : Dp K (upd H1 t (HO.tup ws)) (.ref t) (prsD (canon ps)) := .tup (.of upd_same) (ha.to (Same.new ht))
        obtain ⟨t', zs2, et, hp3⟩ := prs_v hkept
        cases et
        refine ⟨_, rfl, (by show 1 ≤ sizeLine; decide), fun p3 hp3' => ?_⟩
        have hp4 := hp3.to (Same.new (o := HO.lst [V.int c]) hp3')
        have e5 := e4.then_new (o := HO.lst [V.int c]) hp3'
        have hcl : (canon ps).length ≤ 10 := by
          unfold canon
          rw [List.length_map]
          exact List.length_filter_le _ ten
        refine ⟨_, rfl, t, rfl, ⟨_, hp4.seq⟩, fun D3 hD3 => lcF walk_tup hD3 (by rw [hp3.len]; exact slt (by omega)) (fun _ => true) (fun i y _ => y = .int ((canon ps).getD i (0, 0)).2) (fun i y _ _ _ _ h => h) (fun H2 e6 => e6.seqT hp4.seq) (fun i x H2 H3 Q1 Q0 hi e6 y q1 q0 => ?_) (fun H2 us e6 hD4 g2 => ?_)⟩
        · obtain ⟨rfl, hx⟩ := y
          obtain ⟨r, rfl, hr1⟩ := hp4.at_ i x hx
          try walk_at "nf"
          refine ⟨r, _, rfl, e6.seqT hr1, rfl, ?_⟩
          try walk_at "sx"
          exact q1 rfl _ _ rfl (Same.refl _)
        · have hv := g2.vals (fun i => .int ((canon ps).getD i (0, 0)).2) (fun i y h => h)
          have ev : us = ((canon ps).map (·.2)).map V.int := by
            rw [hv, hp3.len, all_kept, ← by_places (canon ps) (0, 0) (·.2), List.map_map]
            rfl
          subst ev
          have hc3 : H2 p3 = some (.lst [V.int c]) := e6 _ _ upd_same
          have e7 := e5.trans e6
          refine ⟨p3, D3, [V.int c], _, rfl, rfl, hc3, hD4, by rw [sizeLine_eq]; simp; omega, fun p5 hp5 => ⟨p5, rfl, ⟨_, .of upd_same⟩, ?_⟩⟩
          have e8 := e7.then_new (o := HO.lst ([V.int c] ++ ((canon ps).map (·.2)).map V.int)) hp5
          refine for_list (K := K) (a := p5) (xs := (c :: (canon ps).map (·.2)).map V.int) (fun i σ H' => ∃ v6, σ = [some (.int c), some (.ref q), some (.ref L), v3, v4, some (.ref t), v6, none] ∧ Same H H' ∧ H' = upd H2 p5 (HO.lst ([V.int c] ++ ((canon ps).map (·.2)).map V.int)) ∧ ∀ z ∈ (c :: (canon ps).map (·.2)).take i, -(10 ^ 9) ≤ z ∧ z ≤ 10 ^ 9)
            ⟨_, rfl, e8, rfl, fun z hz => absurd hz (by simp)⟩ (fun i σ H' _ z => by obtain ⟨_, _, _, rfl, _⟩ := z; exact .of upd_same) ?_ ?_
          · rintro i x σ H' hx ⟨v6, rfl, e9, rfl, hall⟩
            obtain ⟨z, hz1, rfl⟩ : ∃ z, (c :: (canon ps).map (·.2))[i]? = some z ∧ x = V.int z := by
              rw [List.getElem?_map] at hx
              cases e : (c :: (canon ps).map (·.2))[i]? with
              | none => rw [e] at hx; cases hx
              | some z => rw [e] at hx; exact ⟨z, rfl, (Option.some.inj hx).symm⟩
            try walk_at "nf"
            try walk_at "sx"
            by_cases cb : -(10 ^ 9) ≤ z ∧ z ≤ 10 ^ 9
            · have ca : ¬ ((10 ^ 9 : Int) < if z < 0 then -z else z) := by
                split <;> omega
              rw [decide_eq_false ca]
              refine iteF ⟨e9, fun y hy => ?_⟩
              rw [List.take_add_one, hz1] at hy
              rcases List.mem_append.mp hy with hy | hy
              · exact hall y hy
              · obtain rfl : y = z := by simpa using hy
                exact cb
            · have ca : ((10 ^ 9 : Int) < if z < 0 then -z else z) := by
                split <;> omega
              rw [decide_eq_true ca]
              refine iteT (rz_f (k2 ?_) e9 (.int _))
              have hzm := List.mem_of_getElem? hz1
              cases hf : fits c (canon ps) with
              | false => rfl
              | true => exact absurd (fits_all hf z hzm) cb
          · rintro σ H' ⟨v6, rfl, e9, rfl, hall⟩
            rw [List.length_map, List.take_length] at hall
            try walk_at "nf"
            try walk_at "sx"
            refine ⟨by decide, fun t9 ht9 => k1 (all_fits hall) _ _ (e9.then_new ht9) (.tup (.of upd_same) (.cons (.int _) (.cons ?_ .nil)))⟩
            exact (((hkept.to (Same.new hp3')).to e6).to (Same.new hp5)).to (Same.new ht9)
end
end Ws
/-! ## F03 -/
namespace Ws
open PySem PySem.Spec PyProof.Rows L2
theorem asc_len : ∀ (ps : List Pr) (last : Int), asc last ps → last ≤ 9 → (ps.length : Int) ≤ 9 - last
  | [], last, _, h => by simp; omega
  | p :: r, last, ⟨h1, h2, h3, h4⟩, h => by
    have := asc_len r p.1 h4 h1.2.1
    simp only [List.length_cons]
    omega
theorem TmOk.len {c : Int} {ps : List Pr} (h : TmOk c ps) : ps.length ≤ 10 := by
  have := asc_len ps (-1) h.as (by decide)
  omega
theorem asc_ok : ∀ {ps : List Pr} {last : Int}, asc last ps → ∀ p ∈ ps, prOk p ∧ last < p.1
  | [], _, _, p, hp => absurd hp (by simp)
  | q :: r, last, ⟨h1, h2, h3, h4⟩, p, hp => by
    rcases List.mem_cons.mp hp with rfl | hp
    · exact ⟨h1, h2⟩
    · obtain ⟨a, b⟩ := asc_ok h4 p hp
      exact ⟨a, by omega⟩
theorem TmOk.pr {c : Int} {ps : List Pr} (h : TmOk c ps) : ∀ p ∈ ps, prOk p := fun p hp => (asc_ok h.as p hp).1
theorem TmOk.nm {c : Int} {ps : List Pr} (h : TmOk c ps) : ∀ p ∈ ps, 0 ≤ p.1 ∧ p.1 ≤ 9 := fun p hp => ⟨(h.pr p hp).1, (h.pr p hp).2.1⟩
theorem mul_nm {ps : List Pr} {f : Int} (h : ∀ p ∈ ps, 0 ≤ p.1 ∧ p.1 ≤ 9) : ∀ p ∈ mulP f ps, 0 ≤ p.1 ∧ p.1 ≤ 9 := by
  unfold mulP
  split
  · exact fun p hp => absurd hp (by simp)
  · intro p hp
    obtain ⟨q, hq, rfl⟩ := List.mem_map.mp hp
    exact h q hq
theorem mul_len (ps : List Pr) (f : Int) : (mulP f ps).length ≤ ps.length := by
  unfold mulP
  split <;> simp
def facOf (n : Int) : List Pr → Int
  | [] => 0
  | p :: r => if p.1 = n then p.2 else facOf n r
theorem sum_at (n : Int) : ∀ {ps : List Pr} {last : Int}, asc last ps → sumOf n ps = facOf n ps
  | [], _, _ => rfl
  | p :: r, last, ⟨h1, h2, h3, h4⟩ => by
    show (if p.1 = n then p.2 else 0) + sumOf n r = if p.1 = n then p.2 else facOf n r
    by_cases c : p.1 = n
    · rw [if_pos c, if_pos c, sumOf_none fun q hq => by
        have := (asc_ok h4 q hq).2
        omega]
      omega
    · rw [if_neg c, if_neg c, sum_at n h4]
      omega
theorem fac_mem : ∀ {ps : List Pr} {last : Int}, asc last ps → ∀ p ∈ ps, facOf p.1 ps = p.2 ∧ p.2 ≠ 0
  | [], _, _, p, hp => absurd hp (by simp)
  | q :: r, last, ⟨h1, h2, h3, h4⟩, p, hp => by
    rcases List.mem_cons.mp hp with rfl | hp
    · exact ⟨if_pos rfl, h3⟩
    · obtain ⟨a, b⟩ := fac_mem h4 p hp
      have := (asc_ok h4 p hp).2
      exact ⟨(if_neg (by omega)).trans a, b⟩
theorem asc_pw : ∀ {ps : List Pr} {last : Int}, asc last ps → (ps.map (·.1)).Pairwise (· < ·)
  | [], _, _ => List.Pairwise.nil
  | q :: r, last, ⟨h1, h2, h3, h4⟩ => by
    rw [List.map_cons]
    refine List.Pairwise.cons (fun n hn => ?_) (asc_pw h4)
    obtain ⟨p, hp, rfl⟩ := List.mem_map.mp hn
    exact (asc_ok h4 p hp).2
theorem canon_asc {ps : List Pr} (h : asc (-1) ps) : canon ps = ps := by
  have hn : ∀ p ∈ ps, 0 ≤ p.1 ∧ p.1 ≤ 9 := fun p hp => ⟨(asc_ok h p hp).1.1, (asc_ok h p hp).1.2.1⟩
  have pw := asc_pw h
  have nd : (ps.map (·.1)).Nodup := pw.imp fun {a b} x => by omega
  have hp : (ps.map (·.1)).Perm (keysOf ps) := (List.perm_ext_iff_of_nodup nd (keys_nodup ps)).mpr fun m => by
    rw [keys_mem]
    simp
  have sm : ∀ p ∈ ps, sumOf p.1 ps = p.2 := fun p hp => (sum_at p.1 h).trans (fac_mem h p hp).1
  rw [← canon_of hn hp (pw.imp fun {a b} x => by omega)]
  have e : ((ps.map (·.1)).filter fun n => decide (sumOf n ps ≠ 0)) = ps.map (·.1) := List.filter_eq_self.mpr fun n hn => by
    obtain ⟨p, hp, rfl⟩ := List.mem_map.mp hn
    rw [sm p hp]
    exact decide_eq_true (fac_mem h p hp).2
  rw [e, List.map_map]
  refine (List.map_congr_left fun p hp => ?_).trans (List.map_id ps)
  show (p.1, sumOf p.1 ps) = p
  rw [sm p hp]
/-! ### formulas -/
namespace Fo
inductive Fm
  | ge (c : Int) (ps : List Pr)
  | eq (c : Int) (ps : List Pr)
  | mod (m c : Int) (ps : List Pr)
  | neg (f : Fm)
  | lst (w : Bool) (fs : List Fm)
  | bnd (w : Bool) (n : Int) (f : Fm)
  | bad (k : Nat)
instance : Inhabited Fm := ⟨.bad 0⟩
def lw (w : Bool) : Str := if w then "and" else "or"
def bw (w : Bool) : Str := if w then "some" else "all"
def badD : Nat → PyData
  | 0 => .none
  | 1 => .tuple [.str "not"]
  | _ => .tuple [.str "or", .list []]
mutual
def fmD : Fm → PyData
  | .ge c ps => .tuple [.str "ge", tmD c ps]
  | .eq c ps => .tuple [.str "eq", tmD c ps]
  | .mod m c ps => .tuple [.str "mod", .int m, tmD c ps]
  | .neg f => .tuple [.str "not", fmD f]
  | .lst w fs => .tuple [.str (lw w), .tuple (fmDs fs)]
  | .bnd w n f => .tuple [.str (bw w), .int n, fmD f]
  | .bad k => badD k
def fmDs : List Fm → List PyData
  | [] => []
  | f :: fs => fmD f :: fmDs fs
end
theorem fmDs_map : ∀ fs, fmDs fs = fs.map fmD
  | [] => rfl
  | f :: fs => by rw [fmDs, fmDs_map fs]; rfl
/-- the formulas right in it -/
def en : Nat → List Fm → List (List Int × Fm)
  | _, [] => []
  | i, f :: fs => ([1, (i : Int)], f) :: en (i + 1) fs
def ins : Fm → List (List Int × Fm)
  | .neg f => [([1], f)]
  | .lst _ fs => en 0 fs
  | .bnd _ _ f => [([2], f)]
  | _ => []
theorem en_snd : ∀ (fs : List Fm) (i : Nat) (x : List Int × Fm), x ∈ en i fs → x.2 ∈ fs
  | [], _, _, h => by cases h
  | f :: fs, i, x, h => by
    rcases List.mem_cons.mp h with rfl | h
    · exact List.mem_cons_self ..
    · exact List.mem_cons_of_mem _ (en_snd fs _ x h)
theorem en_len : ∀ (fs : List Fm) (i : Nat), (en i fs).length = fs.length
  | [], _ => rfl
  | f :: fs, i => by rw [en, List.length_cons, en_len fs, List.length_cons]
theorem en_get : ∀ (fs : List Fm) (i j : Nat), (en i fs)[j]? = (fs[j]?).map fun f => ([1, ((i + j : Nat) : Int)], f)
  | [], _, _ => by simp [en]
  | f :: fs, i, 0 => by simp [en]
  | f :: fs, i, j + 1 => by
    rw [en, List.getElem?_cons_succ, List.getElem?_cons_succ, en_get fs (i + 1) j]
    congr 1
    funext g
    rw [show i + 1 + j = i + (j + 1) from by omega]
mutual
theorem ind {M : Fm → Prop} (h : ∀ f, (∀ x ∈ ins f, M x.2) → M f) : ∀ f, M f
  | .ge c ps => h _ fun x hx => by cases hx
  | .eq c ps => h _ fun x hx => by cases hx
  | .mod m c ps => h _ fun x hx => by cases hx
  | .bad k => h _ fun x hx => by cases hx
  | .neg f => h _ fun x hx => by
    obtain rfl : x = ([1], f) := by simpa [ins] using hx
    exact ind h f
  | .bnd w n f => h _ fun x hx => by
    obtain rfl : x = ([2], f) := by simpa [ins] using hx
    exact ind h f
  | .lst w fs => h _ fun x hx => inds h fs x.2 (en_snd fs 0 x hx)
theorem inds {M : Fm → Prop} (h : ∀ f, (∀ x ∈ ins f, M x.2) → M f) : ∀ (fs : List Fm) (f : Fm), f ∈ fs → M f
  | [], _, m => by cases m
  | g :: fs, f, m => by
    rcases List.mem_cons.mp m with e | m
    · rw [e]; exact ind h g
    · exact inds h fs f m
end
mutual
def sz : Fm → Nat
  | .neg f => 1 + sz f
  | .lst _ fs => 1 + szs fs
  | .bnd _ _ f => 1 + sz f
  | .ge _ _ => 1
  | .eq _ _ => 1
  | .mod _ _ _ => 1
  | .bad _ => 1
def szs : List Fm → Nat
  | [] => 0
  | f :: fs => sz f + szs fs
end
mutual
def dp : Fm → Nat
  | .neg f => 1 + dp f
  | .lst _ fs => 1 + dps fs
  | .bnd _ _ f => 1 + dp f
  | .ge _ _ => 1
  | .eq _ _ => 1
  | .mod _ _ _ => 1
  | .bad _ => 1
def dps : List Fm → Nat
  | [] => 0
  | f :: fs => max (dp f) (dps fs)
end
/-- whether a part has the form of one, whatever the parts in it are -/
def hd : Fm → Bool
  | .ge c ps => isTm (tmD c ps)
  | .eq c ps => isTm (tmD c ps)
  | .mod m c ps => decide (2 ≤ m ∧ m ≤ 10 ^ 6) && isTm (tmD c ps)
  | .neg _ => true
  | .lst _ _ => true
  | .bnd _ n _ => decide (0 ≤ n ∧ n ≤ 9)
  | .bad _ => false
mutual
def okF : Fm → Bool
  | .neg f => okF f
  | .lst _ fs => okFs fs
  | .bnd _ n f => decide (0 ≤ n ∧ n ≤ 9) && okF f
  | .ge c ps => isTm (tmD c ps)
  | .eq c ps => isTm (tmD c ps)
  | .mod m c ps => decide (2 ≤ m ∧ m ≤ 10 ^ 6) && isTm (tmD c ps)
  | .bad _ => false
def okFs : List Fm → Bool
  | [] => true
  | f :: fs => okF f && okFs fs
end
theorem okFs_all : ∀ {fs : List Fm}, okFs fs = true ↔ ∀ f ∈ fs, okF f = true
  | [] => by simp [okFs]
  | f :: fs => by
    simp only [okFs, Bool.and_eq_true, List.mem_cons, forall_eq_or_imp]
    rw [okFs_all]
theorem okF_hd {f : Fm} (h : okF f = true) : hd f = true := by
  cases f with
  | bnd w n f => simp only [okF, Bool.and_eq_true] at h; exact h.1
  | neg f => rfl
  | lst w fs => rfl
  | _ => exact h
theorem okF_ins {f : Fm} (h : okF f = true) : ∀ x ∈ ins f, okF x.2 = true := fun x hx => by
  cases f with
  | bnd w n f =>
    simp only [okF, Bool.and_eq_true] at h
    obtain rfl : x = ([2], f) := by simpa [ins] using hx
    exact h.2
  | neg f =>
    obtain rfl : x = ([1], f) := by simpa [ins] using hx
    exact h
  | lst w fs => exact okFs_all.mp h x.2 (en_snd fs 0 x hx)
  | _ => cases hx
theorem sz_pos (f : Fm) : 1 ≤ sz f := by cases f <;> simp [sz]
theorem dp_pos (f : Fm) : 1 ≤ dp f := by cases f <;> simp [dp]
theorem dps_mem : ∀ {fs : List Fm} {f : Fm}, f ∈ fs → dp f ≤ dps fs
  | [], _, h => by cases h
  | g :: fs, f, h => by
    rw [dps]
    rcases List.mem_cons.mp h with rfl | h
    · exact Nat.le_max_left _ _
    · exact Nat.le_trans (dps_mem h) (Nat.le_max_right _ _)
theorem dps_le : ∀ {fs : List Fm} {n : Nat}, (∀ f ∈ fs, dp f ≤ n) → dps fs ≤ n
  | [], _, _ => Nat.zero_le _
  | g :: fs, n, h => by
    rw [dps]
    exact Nat.max_le.mpr ⟨h g (List.mem_cons_self ..), dps_le fun f m => h f (List.mem_cons_of_mem _ m)⟩
theorem dps_ex : ∀ {fs : List Fm}, fs ≠ [] → ∃ f ∈ fs, dp f = dps fs
  | [], h => absurd rfl h
  | [g], _ => ⟨g, by simp, by rw [dps, dps, Nat.max_zero]⟩
  | g :: g' :: fs, _ => by
    obtain ⟨f, m, e⟩ := dps_ex (fs := g' :: fs) (by simp)
    rw [dps, ← e]
    by_cases c : dp g ≤ dp f
    · exact ⟨f, List.mem_cons_of_mem _ m, (Nat.max_eq_right c).symm⟩
    · exact ⟨g, List.mem_cons_self .., (Nat.max_eq_left (by omega)).symm⟩
theorem szs_len : ∀ fs : List Fm, fs.length ≤ szs fs
  | [] => Nat.le_refl _
  | f :: fs => by
    have := szs_len fs
    have := sz_pos f
    rw [szs, List.length_cons]
    omega
theorem ins_dp {f : Fm} : ∀ x ∈ ins f, dp x.2 + 1 ≤ dp f := fun x hx => by
  cases f with
  | bnd w n f =>
    obtain rfl : x = ([2], f) := by simpa [ins] using hx
    simp only [dp]; omega
  | neg f =>
    obtain rfl : x = ([1], f) := by simpa [ins] using hx
    simp only [dp]; omega
  | lst w fs =>
    have := dps_mem (en_snd fs 0 x hx)
    simp only [dp]; omega
  | _ => cases hx
theorem ins_len (f : Fm) : (ins f).length + 1 ≤ sz f := by
  cases f with
  | lst w fs =>
    have := szs_len fs
    simp only [ins, en_len, sz]
    omega
  | neg f => have := sz_pos f; simp only [ins, sz, List.length_cons, List.length_nil]; omega
  | bnd w n f => have := sz_pos f; simp only [ins, sz, List.length_cons, List.length_nil]; omega
  | _ => simp [ins, sz]
/-! ### the walk -/
abbrev Wi := List Int × Nat × Fm
mutual
def wk (p : List Int) (d : Nat) : Fm → List Wi
  | .neg f => (p, d, .neg f) :: wk (p ++ [1]) (d + 1) f
  | .lst w fs => (p, d, .lst w fs) :: wks p (d + 1) 0 fs
  | .bnd w n f => (p, d, .bnd w n f) :: wk (p ++ [2]) (d + 1) f
  | .ge c ps => [(p, d, .ge c ps)]
  | .eq c ps => [(p, d, .eq c ps)]
  | .mod m c ps => [(p, d, .mod m c ps)]
  | .bad k => [(p, d, .bad k)]
def wks (p : List Int) (d : Nat) : Nat → List Fm → List Wi
  | _, [] => []
  | i, f :: fs => wk (p ++ [1, (i : Int)]) d f ++ wks p d (i + 1) fs
end
theorem wks_en (p : List Int) (d : Nat) : ∀ (i : Nat) (fs : List Fm), wks p d i fs = ((en i fs).map fun x => wk (p ++ x.1) d x.2).flatten
  | _, [] => rfl
  | i, f :: fs => by rw [wks, en, List.map_cons, List.flatten_cons, wks_en p d (i + 1) fs]
theorem wk_ins (p : List Int) (d : Nat) (f : Fm) : wk p d f = (p, d, f) :: ((ins f).map fun x => wk (p ++ x.1) (d + 1) x.2).flatten := by
  cases f with
  | neg f => simp [wk, ins]
  | bnd w n f => simp [wk, ins]
  | lst w fs => rw [wk, ins, wks_en]
  | _ => simp [wk, ins]
mutual
theorem wk_len (p : List Int) (d : Nat) : ∀ f : Fm, (wk p d f).length = sz f
  | .neg f => by rw [wk, sz, List.length_cons, wk_len _ _ f]; omega
  | .bnd w n f => by rw [wk, sz, List.length_cons, wk_len _ _ f]; omega
  | .lst w fs => by rw [wk, sz, List.length_cons, wks_len p _ 0 fs]; omega
  | .ge c ps => rfl
  | .eq c ps => rfl
  | .mod m c ps => rfl
  | .bad k => rfl
theorem wks_len (p : List Int) (d : Nat) : ∀ (i : Nat) (fs : List Fm), (wks p d i fs).length = szs fs
  | _, [] => rfl
  | i, f :: fs => by rw [wks, szs, List.length_append, wk_len _ _ f, wks_len p d (i + 1) fs]
end
theorem mem_wk {x : Wi} {p : List Int} {d : Nat} {f : Fm} : x ∈ wk p d f ↔ x = (p, d, f) ∨ ∃ y ∈ ins f, x ∈ wk (p ++ y.1) (d + 1) y.2 := by
  rw [wk_ins, List.mem_cons, List.mem_flatten]
  constructor
  · rintro (h | ⟨l, hl, hx⟩)
    · exact .inl h
    · obtain ⟨y, hy, rfl⟩ := List.mem_map.mp hl
      exact .inr ⟨y, hy, hx⟩
  · rintro (h | ⟨y, hy, hx⟩)
    · exact .inl h
    · exact .inr ⟨_, List.mem_map.mpr ⟨y, hy, rfl⟩, hx⟩
theorem wk_dp : ∀ (f : Fm) (p : List Int) (d : Nat), ∀ x ∈ wk p d f, x.2.1 + 1 ≤ d + dp f :=
  ind fun f ih p d x hx => by
    rcases mem_wk.mp hx with rfl | ⟨y, hy, hx⟩
    · have := dp_pos f
      show d + 1 ≤ d + dp f
      omega
    · have := ih y hy _ _ x hx
      have := ins_dp y hy
      omega
theorem wk_ok : ∀ (f : Fm) (p : List Int) (d : Nat), okF f = true → ∀ x ∈ wk p d f, hd x.2.2 = true ∧ okF x.2.2 = true ∧ dp x.2.2 ≤ dp f :=
  ind fun f ih p d o x hx => by
    rcases mem_wk.mp hx with rfl | ⟨y, hy, hx⟩
    · exact ⟨okF_hd o, o, Nat.le_refl _⟩
    · obtain ⟨a, b, c⟩ := ih y hy _ _ (okF_ins o y hy) x hx
      have := ins_dp y hy
      exact ⟨a, b, by omega⟩
theorem wk_ex : ∀ (f : Fm) (p : List Int) (d : Nat), ∃ x ∈ wk p d f, x.2.1 + 1 = d + dp f :=
  ind fun f ih p d => by
    by_cases z : ins f = []
    · refine ⟨(p, d, f), mem_wk.mpr (.inl rfl), ?_⟩
      have e : dp f = 1 := by
        cases f with
        | neg f => simp [ins] at z
        | bnd w n f => simp [ins] at z
        | lst w fs =>
          cases fs with
          | nil => rfl
          | cons g gs => simp [ins, en] at z
        | _ => rfl
      rw [e]
    · obtain ⟨y, hy, ey⟩ : ∃ y ∈ ins f, dp y.2 + 1 = dp f := by
        cases f with
        | neg f => exact ⟨([1], f), by simp [ins], by simp only [dp]; omega⟩
        | bnd w n f => exact ⟨([2], f), by simp [ins], by simp only [dp]; omega⟩
        | lst w fs =>
          have hne : fs ≠ [] := fun e => z (by rw [e]; rfl)
          obtain ⟨g, hg, e⟩ := dps_ex hne
          obtain ⟨j, hj⟩ := List.mem_iff_getElem?.mp hg
          refine ⟨([1, ((0 + j : Nat) : Int)], g), List.mem_of_getElem? (i := j) (by show (en 0 fs)[j]? = _; rw [en_get, hj]; rfl), ?_⟩
          simp only [dp]
          omega
        | _ => exact absurd rfl z
      obtain ⟨x, hx, ex⟩ := ih y hy (p ++ y.1) (d + 1)
      exact ⟨x, mem_wk.mpr (.inr ⟨y, hy, hx⟩), by omega⟩
/-! ### what is refused -/
inductive Er
  | ok
  | great (n : Nat)
  | bad (p : List Int)
def scan : List Wi → Nat → Er
  | [], _ => .ok
  | x :: r, m => if 20 < x.2.1 then .great 20 else if 2000 < m + 1 then .great 2000 else if hd x.2.2 = false then .bad x.1 else scan r (m + 1)
def needE (f : Fm) : Er := scan (wk [] 1 f) 0
theorem scan_ok : ∀ (l : List Wi) (m : Nat), (∀ x ∈ l, x.2.1 ≤ 20 ∧ hd x.2.2 = true) → m + l.length ≤ 2000 → scan l m = .ok
  | [], _, _, _ => rfl
  | x :: r, m, h, n => by
    obtain ⟨h1, h2⟩ := h x (List.mem_cons_self ..)
    rw [List.length_cons] at n
    rw [scan, if_neg (by omega), if_neg (by omega), if_neg (by rw [h2]; simp)]
    exact scan_ok r (m + 1) (fun y my => h y (List.mem_cons_of_mem _ my)) (by omega)
theorem scan_deep : ∀ (l : List Wi) (m : Nat), (∀ x ∈ l, hd x.2.2 = true) → m + l.length ≤ 2000 → (∃ x ∈ l, 20 < x.2.1) → scan l m = .great 20
  | [], _, _, _, ⟨_, h, _⟩ => by cases h
  | x :: r, m, h, n, hx => by
    rw [List.length_cons] at n
    rw [scan]
    by_cases c : 20 < x.2.1
    · rw [if_pos c]
    · rw [if_neg c, if_neg (by omega), if_neg (by rw [h x (List.mem_cons_self ..)]; simp)]
      obtain ⟨y, my, hy⟩ := hx
      refine scan_deep r (m + 1) (fun z mz => h z (List.mem_cons_of_mem _ mz)) (by omega) ⟨y, ?_, hy⟩
      rcases List.mem_cons.mp my with rfl | my
      · exact absurd hy c
      · exact my
theorem scan_many : ∀ (l : List Wi) (m : Nat), (∀ x ∈ l, x.2.1 ≤ 20 ∧ hd x.2.2 = true) → 2000 < m + l.length → m ≤ 2000 → scan l m = .great 2000
  | [], m, _, n, k => by simp at n; omega
  | x :: r, m, h, n, k => by
    obtain ⟨h1, h2⟩ := h x (List.mem_cons_self ..)
    rw [List.length_cons] at n
    rw [scan, if_neg (by omega)]
    by_cases c : 2000 < m + 1
    · rw [if_pos c]
    · rw [if_neg c, if_neg (by rw [h2]; simp)]
      exact scan_many r (m + 1) (fun y my => h y (List.mem_cons_of_mem _ my)) (by omega) (by omega)
theorem scan_bad : ∀ (l : List Wi) (m : Nat) (x : Wi) (r : List Wi), (∀ x ∈ l, x.2.1 ≤ 20 ∧ hd x.2.2 = true) → m + l.length < 2000 → x.2.1 ≤ 20 → hd x.2.2 = false → scan (l ++ x :: r) m = .bad x.1
  | [], m, x, r, _, n, h1, h2 => by
    simp only [List.length_nil] at n
    rw [List.nil_append, scan, if_neg (by omega), if_neg (by omega), if_pos h2]
  | y :: l, m, x, r, h, n, h1, h2 => by
    obtain ⟨k1, k2⟩ := h y (List.mem_cons_self ..)
    rw [List.length_cons] at n
    rw [List.cons_append, scan, if_neg (by omega), if_neg (by omega), if_neg (by rw [k2]; simp)]
    exact scan_bad l (m + 1) x r (fun z mz => h z (List.mem_cons_of_mem _ mz)) (by omega) h1 h2
theorem need_ok {f : Fm} (o : okF f = true) (s : sz f ≤ 2000) (d : dp f ≤ 20) : needE f = .ok := scan_ok _ _ (fun x hx => by
  have := wk_dp f [] 1 x hx
  exact ⟨by omega, (wk_ok f [] 1 o x hx).1⟩) (by rw [wk_len]; omega)
theorem need_deep {f : Fm} (o : okF f = true) (s : sz f ≤ 2000) (d : 20 < dp f) : needE f = .great 20 := scan_deep _ _ (fun x hx => (wk_ok f [] 1 o x hx).1) (by rw [wk_len]; omega) (by
  obtain ⟨x, hx, e⟩ := wk_ex f [] 1
  exact ⟨x, hx, by omega⟩)
theorem need_many {f : Fm} (o : okF f = true) (s : 2000 < sz f) (d : dp f ≤ 20) : needE f = .great 2000 := scan_many _ _ (fun x hx => by
  have := wk_dp f [] 1 x hx
  exact ⟨by omega, (wk_ok f [] 1 o x hx).1⟩) (by rw [wk_len]; omega) (by omega)
end Fo
end Ws
/-! ## F03b -/
namespace Ws
open PySem PySem.Spec PyProof.Rows L2
namespace Fo
/-! ### nots driven inward -/
def negP (ps : List Pr) : List Pr := ps.map fun p => (p.1, -p.2)
def fl (c w : Bool) : Bool := if c then !w else w
mutual
def inwF : Fm → Bool → Fm
  | .neg f, c => inwF f (!c)
  | .lst w fs, c => .lst (fl c w) (inwFs fs c)
  | .bnd w n f, c => .bnd (fl c w) n (inwF f c)
  | .mod m k ps, c => if c then .neg (.mod m k ps) else .mod m k ps
  | .ge k ps, c => if c then .ge (-1 - k) (negP ps) else .ge k ps
  | .eq k ps, c => if c then .lst false [.ge (k - 1) ps, .ge (-1 - k) (negP ps)] else .eq k ps
  | .bad k, _ => .bad k
def inwFs : List Fm → Bool → List Fm
  | [], _ => []
  | f :: fs, c => inwF f c :: inwFs fs c
end
theorem inwFs_map (c : Bool) : ∀ fs : List Fm, inwFs fs c = fs.map fun f => inwF f c
  | [] => rfl
  | f :: fs => by rw [inwFs, inwFs_map c fs]; rfl
def fitC (c : Int) : Bool := decide (-(10 ^ 9) ≤ c ∧ c ≤ 10 ^ 9)
mutual
def fitF : Fm → Bool
  | .neg f => fitF f
  | .lst _ fs => fitFs fs
  | .bnd _ _ f => fitF f
  | .ge c _ => fitC c
  | .eq c _ => fitC c
  | .mod _ c _ => fitC c
  | .bad _ => true
def fitFs : List Fm → Bool
  | [] => true
  | f :: fs => fitF f && fitFs fs
end
theorem fitFs_all : ∀ fs : List Fm, fitFs fs = fs.all fitF
  | [] => rfl
  | f :: fs => by rw [fitFs, fitFs_all fs]; rfl
theorem isTm_ok {c : Int} {ps : List Pr} (h : isTm (tmD c ps) = true) : TmOk c ps := by
  obtain ⟨c', ps', e, o⟩ := isTm_tm h
  have e2 := PyData.tuple.inj e
  injection e2 with e3 e4
  injection e4 with e5 e6
  have e7 := PyData.tuple.inj e5
  obtain rfl := PyData.int.inj e3
  have : ps = ps' := by
    refine List.map_inj_right (f := prD) (fun x y e => ?_) |>.mp e7
    have e2 := PyData.tuple.inj e
    injection e2 with e3 e4
    injection e4 with e5 e6
    exact Prod.ext (PyData.int.inj e3) (PyData.int.inj e5)
  rw [this]
  exact o
theorem ok_fitC {c : Int} {ps : List Pr} (h : isTm (tmD c ps) = true) : fitC c = true := by
  have := isTm_ok h
  exact decide_eq_true ⟨this.c1, this.c2⟩
theorem fitC_tm {c k : Int} {ps : List Pr} (h : isTm (tmD k ps) = true) (f : fitC c = true) : isTm (tmD c ps) = true := by
  have f := of_decide_eq_true f
  exact tm_isTm ⟨f.1, f.2, (isTm_ok h).as⟩
theorem asc_neg : ∀ {ps : List Pr} {last : Int}, asc last ps → asc last (negP ps)
  | [], _, _ => trivial
  | p :: r, last, ⟨h1, h2, h3, h4⟩ => by
    obtain ⟨a, b, c, d⟩ := h1
    exact ⟨⟨a, b, by show -(10 ^ 9) ≤ -p.2; omega, by show -p.2 ≤ 10 ^ 9; omega⟩, h2, by show -p.2 ≠ 0; omega, asc_neg (ps := r) h4⟩
theorem fitC_neg {c k : Int} {ps : List Pr} (h : isTm (tmD k ps) = true) (f : fitC c = true) : isTm (tmD c (negP ps)) = true := by
  have f := of_decide_eq_true f
  exact tm_isTm ⟨f.1, f.2, asc_neg (isTm_ok h).as⟩
mutual
theorem okF_fit : ∀ f : Fm, okF f = true → fitF f = true
  | .neg f, h => okF_fit f h
  | .lst _ fs, h => okFs_fit fs h
  | .bnd _ n f, h => okF_fit f (by simp only [okF, Bool.and_eq_true] at h; exact h.2)
  | .ge c ps, h => ok_fitC h
  | .eq c ps, h => ok_fitC h
  | .mod m c ps, h => ok_fitC (by simp only [okF, Bool.and_eq_true] at h; exact h.2)
  | .bad k, h => rfl
theorem okFs_fit : ∀ fs : List Fm, okFs fs = true → fitFs fs = true
  | [], _ => rfl
  | f :: fs, h => by
    simp only [okFs, Bool.and_eq_true] at h
    simp only [fitFs, Bool.and_eq_true]
    exact ⟨okF_fit f h.1, okFs_fit fs h.2⟩
end
mutual
theorem okF_inw : ∀ (f : Fm) (c : Bool), okF f = true → fitF (inwF f c) = true → okF (inwF f c) = true
  | .neg f, c, h, t => okF_inw f (!c) h t
  | .lst w fs, c, h, t => okFs_inw fs c h t
  | .bnd w n f, c, h, t => by
    simp only [okF, Bool.and_eq_true] at h
    simp only [inwF, okF, Bool.and_eq_true]
    exact ⟨h.1, okF_inw f c h.2 t⟩
  | .ge k ps, true, h, t => fitC_neg (k := k) h t
  | .ge k ps, false, h, t => h
  | .eq k ps, true, h, t => by
    simp only [inwF, if_true, fitF, fitFs, Bool.and_eq_true] at t
    simp only [inwF, if_true, okF, okFs, Bool.and_eq_true]
    exact ⟨fitC_tm h t.1, fitC_neg (k := k) h t.2.1, trivial⟩
  | .eq k ps, false, h, t => h
  | .mod m k ps, true, h, t => h
  | .mod m k ps, false, h, t => h
  | .bad k, c, h, t => h
theorem okFs_inw : ∀ (fs : List Fm) (c : Bool), okFs fs = true → fitFs (inwFs fs c) = true → okFs (inwFs fs c) = true
  | [], _, _, _ => rfl
  | f :: fs, c, h, t => by
    simp only [okFs, Bool.and_eq_true] at h
    simp only [inwFs, fitFs, Bool.and_eq_true] at t
    simp only [inwFs, okFs, Bool.and_eq_true]
    exact ⟨okF_inw f c h.1 t.1, okFs_inw fs c h.2 t.2⟩
end
mutual
theorem sz_inw : ∀ (f : Fm) (c : Bool), sz (inwF f c) ≤ 3 * sz f
  | .neg f, c => by have := sz_inw f (!c); simp only [inwF, sz]; omega
  | .lst w fs, c => by have := szs_inw fs c; simp only [inwF, sz]; omega
  | .bnd w n f, c => by have := sz_inw f c; simp only [inwF, sz]; omega
  | .ge k ps, true => by simp [inwF, sz]
  | .ge k ps, false => by simp [inwF, sz]
  | .eq k ps, true => by simp [inwF, sz, szs]
  | .eq k ps, false => by simp [inwF, sz]
  | .mod m k ps, true => by simp [inwF, sz]
  | .mod m k ps, false => by simp [inwF, sz]
  | .bad k, c => by simp [inwF, sz]
theorem szs_inw : ∀ (fs : List Fm) (c : Bool), szs (inwFs fs c) ≤ 3 * szs fs
  | [], _ => Nat.le_refl _
  | f :: fs, c => by
    have := sz_inw f c
    have := szs_inw fs c
    simp only [inwFs, szs]
    omega
end
mutual
theorem inw_inw : ∀ (f : Fm) (c : Bool), inwF (inwF f c) false = inwF f c
  | .neg f, c => inw_inw f (!c)
  | .lst w fs, c => by
    simp only [inwF]
    rw [inws_inw fs c]
    rfl
  | .bnd w n f, c => by
    simp only [inwF]
    rw [inw_inw f c]
    rfl
  | .ge k ps, true => rfl
  | .ge k ps, false => rfl
  | .eq k ps, true => rfl
  | .eq k ps, false => rfl
  | .mod m k ps, true => rfl
  | .mod m k ps, false => rfl
  | .bad k, c => rfl
theorem inws_inw : ∀ (fs : List Fm) (c : Bool), inwFs (inwFs fs c) false = inwFs fs c
  | [], _ => rfl
  | f :: fs, c => by
    simp only [inwFs]
    rw [inw_inw f c, inws_inw fs c]
end
/-- whether a not stands right ahead of a mod -/
def aheadP : Fm → Bool
  | .neg (.mod _ _ _) => true
  | .neg _ => false
  | _ => true
def aheadB (f : Fm) : Bool := (wk [] 1 f).all fun x => aheadP x.2.2
theorem ins_lst {w : Bool} {fs : List Fm} {x : List Int × Fm} (h : x ∈ ins (.lst w fs)) : x.2 ∈ fs := en_snd fs 0 x h
mutual
theorem ahead_wk : ∀ (f : Fm) (c : Bool) (p : List Int) (d : Nat), ∀ x ∈ wk p d (inwF f c), aheadP x.2.2 = true
  | .neg f, c, p, d, x, h => ahead_wk f (!c) p d x h
  | .lst w fs, c, p, d, x, h => by
    simp only [inwF] at h
    rcases mem_wk.mp h with rfl | ⟨y, hy, hx⟩
    · rfl
    · exact aheads_wk fs c y.2 (ins_lst hy) _ _ x hx
  | .bnd w n f, c, p, d, x, h => by
    simp only [inwF] at h
    rcases mem_wk.mp h with rfl | ⟨y, hy, hx⟩
    · rfl
    · obtain rfl : y = ([2], inwF f c) := by simpa [ins] using hy
      exact ahead_wk f c _ _ x hx
  | .ge k ps, true, p, d, x, h => by obtain rfl : x = _ := by simpa [inwF, wk] using h
                                     rfl
  | .ge k ps, false, p, d, x, h => by obtain rfl : x = _ := by simpa [inwF, wk] using h
                                      rfl
  | .eq k ps, true, p, d, x, h => by
    simp only [inwF, if_true, wk, wks, List.mem_cons, List.append_nil, List.cons_append, List.nil_append, List.mem_append, List.not_mem_nil, or_false] at h
    rcases h with rfl | rfl | rfl <;> rfl
  | .eq k ps, false, p, d, x, h => by obtain rfl : x = _ := by simpa [inwF, wk] using h
                                      rfl
  | .mod m k ps, true, p, d, x, h => by
    simp only [inwF, if_true, wk, List.mem_cons, List.not_mem_nil, or_false] at h
    rcases h with rfl | rfl <;> rfl
  | .mod m k ps, false, p, d, x, h => by obtain rfl : x = _ := by simpa [inwF, wk] using h
                                         rfl
  | .bad k, c, p, d, x, h => by obtain rfl : x = _ := by simpa [inwF, wk] using h
                                rfl
theorem aheads_wk : ∀ (fs : List Fm) (c : Bool), ∀ g ∈ inwFs fs c, ∀ (p : List Int) (d : Nat), ∀ x ∈ wk p d g, aheadP x.2.2 = true
  | [], _, g, h, _, _, _, _ => by cases h
  | f :: fs, c, g, h, p, d, x, hx => by
    rw [inwFs] at h
    rcases List.mem_cons.mp h with rfl | h
    · exact ahead_wk f c p d x hx
    · exact aheads_wk fs c g h p d x hx
end
theorem ahead_inw (f : Fm) (c : Bool) : aheadB (inwF f c) = true := List.all_eq_true.mpr fun x hx => ahead_wk f c [] 1 x hx
/-! ### no list in it -/
theorem noList_prs (ps : List Pr) : noList (prsD ps) = true := noListAll_of fun x hx => by
  obtain ⟨p, _, rfl⟩ := List.mem_map.mp hx
  rfl
theorem noList_tm (c : Int) (ps : List Pr) : noList (tmD c ps) = true := by
  show (noList (.int c) && (noList (prsD ps) && true)) = true
  rw [noList_prs]
  rfl
mutual
theorem noList_fm : ∀ f : Fm, okF f = true → noList (fmD f) = true
  | .neg f, h => by
    show (true && (noList (fmD f) && true)) = true
    rw [noList_fm f h]; rfl
  | .lst w fs, h => by
    show (true && (noListAll (fmDs fs) && true)) = true
    rw [noList_fms fs h]; rfl
  | .bnd w n f, h => by
    show (true && (true && (noList (fmD f) && true))) = true
    rw [noList_fm f (by simp only [okF, Bool.and_eq_true] at h; exact h.2)]; rfl
  | .ge k ps, h => by
    show (true && (noList (tmD k ps) && true)) = true
    rw [noList_tm]; rfl
  | .eq k ps, h => by
    show (true && (noList (tmD k ps) && true)) = true
    rw [noList_tm]; rfl
  | .mod m k ps, h => by
    show (true && (true && (noList (tmD k ps) && true))) = true
    rw [noList_tm]; rfl
  | .bad k, h => by cases h
theorem noList_fms : ∀ fs : List Fm, okFs fs = true → noListAll (fmDs fs) = true
  | [], _ => rfl
  | f :: fs, h => by
    simp only [okFs, Bool.and_eq_true] at h
    show (noList (fmD f) && noListAll (fmDs fs)) = true
    rw [noList_fm f h.1, noList_fms fs h.2]; rfl
end
end Fo
end Ws
/-! ## F03c -/
namespace Ws
open PySem PySem.Spec PyProof.Rows L2
namespace Fo
/-! ### formulas of the law: their constants may be a bit too great -/
def lwT (c : Int) (ps : List Pr) : Bool := decide (c.natAbs ≤ 10 ^ 10) && decide (ps.length ≤ 10) && ps.all fun p => decide (0 ≤ p.1 ∧ p.1 ≤ 9 ∧ -(10 ^ 9) ≤ p.2 ∧ p.2 ≤ 10 ^ 9)
mutual
def lwF : Fm → Bool
  | .neg f => lwF f
  | .lst _ fs => lwFs fs
  | .bnd _ n f => decide (0 ≤ n ∧ n ≤ 9) && lwF f
  | .ge c ps => lwT c ps
  | .eq c ps => lwT c ps
  | .mod m c ps => decide (2 ≤ m ∧ m ≤ 10 ^ 6) && lwT c ps
  | .bad _ => false
def lwFs : List Fm → Bool
  | [] => true
  | f :: fs => lwF f && lwFs fs
end
theorem lwFs_all : ∀ {fs : List Fm}, lwFs fs = true ↔ ∀ f ∈ fs, lwF f = true
  | [] => by simp [lwFs]
  | f :: fs => by
    simp only [lwFs, Bool.and_eq_true, List.mem_cons, forall_eq_or_imp]
    rw [lwFs_all]
theorem lwF_ins {f : Fm} (h : lwF f = true) : ∀ x ∈ ins f, lwF x.2 = true := fun x hx => by
  cases f with
  | bnd w n f =>
    simp only [lwF, Bool.and_eq_true] at h
    obtain rfl : x = ([2], f) := by simpa [ins] using hx
    exact h.2
  | neg f =>
    obtain rfl : x = ([1], f) := by simpa [ins] using hx
    exact h
  | lst w fs => exact lwFs_all.mp h x.2 (en_snd fs 0 x hx)
  | _ => cases hx
theorem wk_lw : ∀ (f : Fm) (p : List Int) (d : Nat), lwF f = true → ∀ x ∈ wk p d f, lwF x.2.2 = true ∧ dp x.2.2 ≤ dp f :=
  ind fun f ih p d o x hx => by
    rcases mem_wk.mp hx with rfl | ⟨y, hy, hx⟩
    · exact ⟨o, Nat.le_refl _⟩
    · obtain ⟨b, c⟩ := ih y hy _ _ (lwF_ins o y hy) x hx
      have := ins_dp y hy
      exact ⟨b, by omega⟩
theorem lwT_of {c k : Int} {ps : List Pr} (h : isTm (tmD k ps) = true) (b : c.natAbs ≤ 10 ^ 10) : lwT c ps = true := by
  have o := isTm_ok h
  simp only [lwT, Bool.and_eq_true, decide_eq_true_eq, List.all_eq_true]
  exact ⟨⟨b, o.len⟩, fun p hp => (asc_ok o.as p hp).1⟩
theorem lwT_tm {c : Int} {ps : List Pr} (h : isTm (tmD c ps) = true) : lwT c ps = true := lwT_of h (by have := (isTm_ok h).c1; have := (isTm_ok h).c2; omega)
theorem lwT_neg {c k : Int} {ps : List Pr} (h : isTm (tmD k ps) = true) (b : c.natAbs ≤ 10 ^ 10) : lwT c (negP ps) = true := by
  have o := isTm_ok h
  have oa := asc_neg o.as
  simp only [lwT, Bool.and_eq_true, decide_eq_true_eq, List.all_eq_true]
  exact ⟨⟨b, by unfold negP; rw [List.length_map]; exact o.len⟩, fun p hp => (asc_ok oa p hp).1⟩
mutual
theorem ok_lw : ∀ f : Fm, okF f = true → lwF f = true
  | .neg f, h => ok_lw f h
  | .lst _ fs, h => oks_lw fs h
  | .bnd _ n f, h => by
    simp only [okF, Bool.and_eq_true] at h
    simp only [lwF, Bool.and_eq_true]
    exact ⟨h.1, ok_lw f h.2⟩
  | .ge c ps, h => lwT_tm h
  | .eq c ps, h => lwT_tm h
  | .mod m c ps, h => by
    simp only [okF, Bool.and_eq_true] at h
    simp only [lwF, Bool.and_eq_true]
    exact ⟨h.1, lwT_tm h.2⟩
  | .bad k, h => by cases h
theorem oks_lw : ∀ fs : List Fm, okFs fs = true → lwFs fs = true
  | [], _ => rfl
  | f :: fs, h => by
    simp only [okFs, Bool.and_eq_true] at h
    simp only [lwFs, Bool.and_eq_true]
    exact ⟨ok_lw f h.1, oks_lw fs h.2⟩
end
theorem tm_abs {k : Int} {ps : List Pr} (h : isTm (tmD k ps) = true) : -(10 ^ 9) ≤ k ∧ k ≤ 10 ^ 9 := ⟨(isTm_ok h).c1, (isTm_ok h).c2⟩
mutual
theorem inw_lw : ∀ (f : Fm) (c : Bool), okF f = true → lwF (inwF f c) = true
  | .neg f, c, h => inw_lw f (!c) h
  | .lst _ fs, c, h => inws_lw fs c h
  | .bnd _ n f, c, h => by
    simp only [okF, Bool.and_eq_true] at h
    simp only [inwF, lwF, Bool.and_eq_true]
    exact ⟨h.1, inw_lw f c h.2⟩
  | .ge k ps, true, h => lwT_neg (k := k) h (by have := tm_abs (k := k) h; omega)
  | .ge k ps, false, h => lwT_tm h
  | .eq k ps, true, h => by
    have := tm_abs (k := k) h
    simp only [inwF, if_true, lwF, lwFs, Bool.and_eq_true]
    exact ⟨lwT_of (k := k) h (by omega), lwT_neg (k := k) h (by omega), trivial⟩
  | .eq k ps, false, h => lwT_tm h
  | .mod m k ps, true, h => ok_lw (.mod m k ps) h
  | .mod m k ps, false, h => ok_lw (.mod m k ps) h
  | .bad k, c, h => by cases h
theorem inws_lw : ∀ (fs : List Fm) (c : Bool), okFs fs = true → lwFs (inwFs fs c) = true
  | [], _, _ => rfl
  | f :: fs, c, h => by
    simp only [okFs, Bool.and_eq_true] at h
    simp only [inwFs, lwFs, Bool.and_eq_true]
    exact ⟨inw_lw f c h.1, inws_lw fs c h.2⟩
end
mutual
theorem dp_inw : ∀ (f : Fm) (c : Bool), dp (inwF f c) ≤ dp f + 1
  | .neg f, c => by have := dp_inw f (!c); simp only [inwF, dp]; omega
  | .lst w fs, c => by have := dps_inw fs c; simp only [inwF, dp]; omega
  | .bnd w n f, c => by have := dp_inw f c; simp only [inwF, dp]; omega
  | .ge k ps, true => by simp [inwF, dp]
  | .ge k ps, false => by simp [inwF, dp]
  | .eq k ps, true => by simp [inwF, dp, dps]
  | .eq k ps, false => by simp [inwF, dp]
  | .mod m k ps, true => by simp [inwF, dp]
  | .mod m k ps, false => by simp [inwF, dp]
  | .bad k, c => by simp [inwF, dp]
theorem dps_inw : ∀ (fs : List Fm) (c : Bool), dps (inwFs fs c) ≤ dps fs + 1
  | [], _ => by simp [inwFs, dps]
  | f :: fs, c => by
    have := dp_inw f c
    have := dps_inw fs c
    simp only [inwFs, dps]
    omega
end
mutual
theorem noList_lw : ∀ f : Fm, lwF f = true → noList (fmD f) = true
  | .neg f, h => by
    show (true && (noList (fmD f) && true)) = true
    rw [noList_lw f h]; rfl
  | .lst w fs, h => by
    show (true && (noListAll (fmDs fs) && true)) = true
    rw [noList_lws fs h]; rfl
  | .bnd w n f, h => by
    show (true && (true && (noList (fmD f) && true))) = true
    rw [noList_lw f (by simp only [lwF, Bool.and_eq_true] at h; exact h.2)]; rfl
  | .ge k ps, h => by
    show (true && (noList (tmD k ps) && true)) = true
    rw [noList_tm]; rfl
  | .eq k ps, h => by
    show (true && (noList (tmD k ps) && true)) = true
    rw [noList_tm]; rfl
  | .mod m k ps, h => by
    show (true && (true && (noList (tmD k ps) && true))) = true
    rw [noList_tm]; rfl
  | .bad k, h => by cases h
theorem noList_lws : ∀ fs : List Fm, lwFs fs = true → noListAll (fmDs fs) = true
  | [], _ => rfl
  | f :: fs, h => by
    simp only [lwFs, Bool.and_eq_true] at h
    show (noList (fmD f) && noListAll (fmDs fs)) = true
    rw [noList_lw f h.1, noList_lws fs h.2]; rfl
end
/-! ### what repr makes of it -/
theorem big60 : (10 : Nat) ^ 10 < 10 ^ 60 := by decide +kernel
theorem sm_i {N D : Nat} {i : Int} (h : i.natAbs ≤ 10 ^ 10) : Sm N D (.int i) := Sm.int' (Nat.lt_of_le_of_lt h big60)
theorem sm_tm {c : Int} {ps : List Pr} (h : lwT c ps = true) : Sm 32 3 (tmD c ps) := by
  simp only [lwT, Bool.and_eq_true, decide_eq_true_eq, List.all_eq_true] at h
  obtain ⟨⟨h1, h2⟩, h3⟩ := h
  refine SmA.tup (SmA.cons' (n := 0) (m := 31) (sm_i h1) (SmA.cons' (n := 30) (m := 0) ?_ SmA.nil' (by omega)) (by omega))
  refine SmA.tup (SmA.mono (SmA.of_all (n := 2) (D := 1) (xs := ps.map prD) fun x hx => ?_) (by rw [List.length_map]; omega))
  obtain ⟨p, hp, rfl⟩ := List.mem_map.mp hx
  obtain ⟨a1, a2, a3, a4⟩ := h3 p hp
  exact SmA.tup (SmA.cons' (n := 0) (m := 1) (sm_i (by omega)) (SmA.cons' (n := 0) (m := 0) (sm_i (by omega)) SmA.nil' (by omega)) (by omega))
theorem sm_s {x : Str} {D : Nat} (h : Sm 8 0 (.str x) := by exact ⟨by decide +kernel, by decide +kernel, by decide +kernel, by decide +kernel, by decide +kernel⟩) : Sm 8 D (.str x) := h.mono (Nat.le_refl _) (Nat.zero_le _)
theorem Sm.two {a b D : Nat} {x y : PyData} (h1 : Sm a D x) (h2 : Sm b D y) : Sm (a + b + 2) (D + 1) (.tuple [x, y]) := SmA.tup (SmA.cons' h1 (SmA.cons' (m := 0) h2 SmA.nil' (Nat.le_refl _)) (by omega))
theorem Sm.three {a b c D : Nat} {x y z : PyData} (h1 : Sm a D x) (h2 : Sm b D y) (h3 : Sm c D z) : Sm (a + b + c + 3) (D + 1) (.tuple [x, y, z]) := SmA.tup (SmA.cons' h1 (SmA.cons' h2 (SmA.cons' (m := 0) h3 SmA.nil' (Nat.le_refl _)) (Nat.le_refl _)) (by omega))
theorem sm_lw {w : Bool} {D : Nat} : Sm 8 D (.str (lw w)) := by cases w <;> exact sm_s
theorem sm_bw {w : Bool} {D : Nat} : Sm 8 D (.str (bw w)) := by cases w <;> exact sm_s
mutual
theorem sm_fm : ∀ f : Fm, lwF f = true → Sm (60 * sz f - 1) (2 * dp f + 3) (fmD f)
  | .neg f, h => (Sm.two (D := 2 * dp f + 3) sm_s (sm_fm f h)).mono (by have := sz_pos f; simp only [sz]; omega) (by simp only [dp]; omega)
  | .lst w fs, h => (Sm.two (D := 2 * dps fs + 4) sm_lw (SmA.tup (sms_fm fs h))).mono (by simp only [sz]; omega) (by simp only [dp]; omega)
  | .bnd w n f, h => by
    simp only [lwF, Bool.and_eq_true, decide_eq_true_eq] at h
    exact (Sm.three (D := 2 * dp f + 3) sm_bw (sm_i (N := 0) (by omega)) (sm_fm f h.2)).mono (by have := sz_pos f; simp only [sz]; omega) (by simp only [dp]; omega)
  | .ge k ps, h => (Sm.two (D := 3) sm_s (sm_tm h)).mono (by simp [sz]) (by simp [dp])
  | .eq k ps, h => (Sm.two (D := 3) sm_s (sm_tm h)).mono (by simp [sz]) (by simp [dp])
  | .mod m k ps, h => by
    simp only [lwF, Bool.and_eq_true, decide_eq_true_eq] at h
    exact (Sm.three (D := 3) sm_s (sm_i (N := 0) (by omega)) (sm_tm h.2)).mono (by simp [sz]) (by simp [dp])
  | .bad k, h => by cases h
theorem sms_fm : ∀ fs : List Fm, lwFs fs = true → SmA (60 * szs fs) (2 * dps fs + 3) (fmDs fs)
  | [], _ => SmA.nil'
  | f :: fs, h => by
    simp only [lwFs, Bool.and_eq_true] at h
    have h1 := sm_fm f h.1
    have h2 := sms_fm fs h.2
    have p := sz_pos f
    refine SmA.cons' (n := 60 * sz f - 1) (m := 60 * szs fs) (h1.mono (Nat.le_refl _) ?_) ⟨h2.sh, h2.lv, h2.nd, h2.bk, Nat.le_trans h2.dp ?_⟩ ?_
    · simp only [dps]; omega
    · simp only [dps]; omega
    · simp only [szs]; omega
end
/-! ### a part put in the place of another one -/
inductive Put (g : Fm) : Fm → List Int → Fm → Prop
  | here {f : Fm} : Put g f [] g
  | neg {f h : Fm} {r : List Int} : Put g f r h → Put g (.neg f) (1 :: r) (.neg h)
  | bnd {w : Bool} {n : Int} {f h : Fm} {r : List Int} : Put g f r h → Put g (.bnd w n f) (2 :: r) (.bnd w n h)
  | lst {w : Bool} {fs : List Fm} {i : Nat} {f h : Fm} {r : List Int} : fs[i]? = some f → Put g f r h → Put g (.lst w fs) (1 :: (i : Int) :: r) (.lst w (fs.set i h))
/-- each path of a part has such a place; the way to it -/
theorem put_ex (g : Fm) : ∀ (f : Fm) (p : List Int) (d : Nat) (x : Wi), x ∈ wk p d f → ∃ r h, x.1 = p ++ r ∧ Put g f r h :=
  ind fun f ih p d x hx => by
    rcases mem_wk.mp hx with rfl | ⟨y, hy, hx⟩
    · exact ⟨[], g, (List.append_nil _).symm, .here⟩
    · obtain ⟨r, h, e, q⟩ := ih y hy _ _ x hx
      cases f with
      | neg f =>
        obtain rfl : y = ([1], f) := by simpa [ins] using hy
        exact ⟨1 :: r, _, by rw [e]; simp, .neg q⟩
      | bnd w n f =>
        obtain rfl : y = ([2], f) := by simpa [ins] using hy
        exact ⟨2 :: r, _, by rw [e]; simp, .bnd q⟩
      | lst w fs =>
        obtain ⟨j, hj⟩ := List.mem_iff_getElem?.mp (show y ∈ en 0 fs from hy)
        rw [en_get] at hj
        cases e1 : fs[j]? with
        | none => rw [e1] at hj; cases hj
        | some f1 =>
          rw [e1] at hj
          cases hj
          refine ⟨1 :: (j : Int) :: r, _, by rw [e]; simp, .lst e1 q⟩
      | _ => cases hy
end Fo
end Ws
/-! ## F03d -/
namespace Ws
open PySem PySem.Spec PyProof.Rows L2
namespace Fo
def fitP : Fm → Bool
  | .ge c _ => fitC c
  | .eq c _ => fitC c
  | .mod _ c _ => fitC c
  | _ => true
def atomP : Fm → Bool
  | .ge _ _ => true
  | .eq _ _ => true
  | .mod _ _ _ => true
  | _ => false
theorem fit_wk : ∀ (f : Fm) (p : List Int) (d : Nat), fitF f = true ↔ ∀ x ∈ wk p d f, fitP x.2.2 = true :=
  ind fun f ih p d => by
    have go : fitF f = true ↔ fitP f = true ∧ ∀ y ∈ ins f, fitF y.2 = true := by
      cases f with
      | neg g => simp [fitF, fitP, ins]
      | bnd w n g => simp [fitF, fitP, ins]
      | lst w fs =>
        rw [show fitF (.lst w fs) = fitFs fs from rfl, fitFs_all, List.all_eq_true]
        constructor
        · exact fun h => ⟨rfl, fun y hy => h y.2 (en_snd fs 0 y hy)⟩
        · rintro ⟨_, h⟩ g hg
          obtain ⟨j, hj⟩ := List.mem_iff_getElem?.mp hg
          exact h ([1, ((0 + j : Nat) : Int)], g) (List.mem_of_getElem? (i := j) (by show (en 0 fs)[j]? = _; rw [en_get, hj]; rfl))
      | _ => simp [fitF, fitP, ins]
    rw [go]
    constructor
    · rintro ⟨h1, h2⟩ x hx
      rcases mem_wk.mp hx with rfl | ⟨y, hy, hx⟩
      · exact h1
      · exact (ih y hy _ _).mp (h2 y hy) x hx
    · intro h
      exact ⟨h (p, d, f) (mem_wk.mpr (.inl rfl)), fun y hy => (ih y hy (p ++ y.1) (d + 1)).mpr fun x hx => h x (mem_wk.mpr (.inr ⟨y, hy, hx⟩))⟩
/-- what is so of a formula with g in the place of a part x -/
structure PutP (f : Fm) (x : Wi) (g : Fm) (p : List Int) (d : Nat) (h : Fm) : Prop where
  sz_ : sz h + sz x.2.2 = sz f + sz g
  dp_ : d + dp h ≤ max (d + dp f) (x.2.1 + dp g)
  ok_ : okF f = true → okF g = true → okF h = true
  wk_ : ∃ pre post, wk p d h = pre ++ (wk x.1 x.2.1 g ++ post) ∧ pre.length < sz f ∧ (okF f = true → ∀ y ∈ pre, hd y.2.2 = true) ∧ ∀ y ∈ pre, y.2.1 + 1 ≤ d + dp f
theorem szs_set : ∀ {fs : List Fm} {i : Nat} {f h : Fm}, fs[i]? = some f → szs (fs.set i h) + sz f = szs fs + sz h
  | [], _, _, _, e => by simp at e
  | a :: fs, 0, f, h, e => by
    obtain rfl : a = f := by simpa using e
    simp only [List.set_cons_zero, szs]; omega
  | a :: fs, i + 1, f, h, e => by
    have := szs_set (fs := fs) (i := i) (f := f) (h := h) (by simpa using e)
    simp only [List.set_cons_succ, szs]; omega
theorem dps_set : ∀ {fs : List Fm} {i : Nat} {h : Fm}, dps (fs.set i h) ≤ max (dps fs) (dp h)
  | [], _, _ => by simp [dps]
  | a :: fs, 0, h => by simp only [List.set_cons_zero, dps]; omega
  | a :: fs, i + 1, h => by
    have := dps_set (fs := fs) (i := i) (h := h)
    simp only [List.set_cons_succ, dps]; omega
theorem okFs_set : ∀ {fs : List Fm} {i : Nat} {h : Fm}, okFs fs = true → okF h = true → okFs (fs.set i h) = true := fun {fs i h} o oh => okFs_all.mpr fun g hg => by
  rcases List.mem_or_eq_of_mem_set hg with m | e
  · exact okFs_all.mp o g m
  · rw [e]; exact oh
theorem wks_set (p : List Int) (d : Nat) : ∀ {fs : List Fm} {i j : Nat} {f h : Fm}, fs[i]? = some f →
    ∃ pre post, wks p d j (fs.set i h) = pre ++ (wk (p ++ [1, ((j + i : Nat) : Int)]) d h ++ post) ∧ pre.length + sz f ≤ szs fs ∧ ∀ y ∈ pre, ∃ g ∈ fs, ∃ q, y ∈ wk q d g
  | [], _, _, _, _, e => by simp at e
  | a :: fs, 0, j, f, h, e => by
    obtain rfl : a = f := by simpa using e
    refine ⟨[], wks p d (j + 1) fs, by simp [wks], by simp [szs], fun y hy => by cases hy⟩
  | a :: fs, i + 1, j, f, h, e => by
    obtain ⟨pre, post, e1, e2, e3⟩ := wks_set p d (fs := fs) (i := i) (j := j + 1) (f := f) (h := h) (by simpa using e)
    refine ⟨wk (p ++ [1, (j : Int)]) d a ++ pre, post, ?_, ?_, fun y hy => ?_⟩
    · rw [List.set_cons_succ, wks, e1, show j + 1 + i = j + (i + 1) from by omega, List.append_assoc]
    · rw [List.length_append, wk_len, szs]; omega
    · rcases List.mem_append.mp hy with hy | hy
      · exact ⟨a, List.mem_cons_self .., _, hy⟩
      · obtain ⟨g, m, q, k⟩ := e3 y hy
        exact ⟨g, List.mem_cons_of_mem _ m, q, k⟩
theorem put_all : ∀ (f : Fm) (p : List Int) (d : Nat) (x : Wi), x ∈ wk p d f → ∃ r, x.1 = p ++ r ∧ ∀ g, ∃ h, Put g f r h ∧ PutP f x g p d h :=
  ind fun f ih p d x hx => by
    rcases mem_wk.mp hx with rfl | ⟨y, hy, hx⟩
    · refine ⟨[], (List.append_nil _).symm, fun g => ⟨g, .here, ?_, ?_, fun _ o => o, [], [], by simp, by have := sz_pos f; simp; omega, fun _ y hy => (by cases hy), fun y hy => by cases hy⟩⟩
      · show sz g + sz f = sz f + sz g
        omega
      · exact Nat.le_max_right _ _
    · obtain ⟨r, e, q⟩ := ih y hy _ _ x hx
      have yd := ins_dp y hy
      cases f with
      | neg f =>
        obtain rfl : y = ([1], f) := by simpa [ins] using hy
        refine ⟨1 :: r, by rw [e]; simp, fun g => ?_⟩
        obtain ⟨h, P, Q⟩ := q g
        obtain ⟨pre, post, w1, w2, w3, w4⟩ := Q.wk_
        have s1 := Q.sz_
        have s2 := Q.dp_
        refine ⟨.neg h, .neg P, by simp only [sz] at s1 ⊢; omega, by simp only [dp] at s2 ⊢; omega, fun o og => Q.ok_ o og, (p, d, .neg h) :: pre, post, by rw [wk, w1]; rfl, by simp only [sz, List.length_cons] at w2 ⊢; omega, fun o z hz => ?_, fun z hz => ?_⟩
        · rcases List.mem_cons.mp hz with rfl | hz
          · rfl
          · exact w3 o z hz
        · rcases List.mem_cons.mp hz with rfl | hz
          · simp only [dp]; omega
          · have := w4 z hz; simp only [dp] at this ⊢; omega
      | bnd w n f =>
        obtain rfl : y = ([2], f) := by simpa [ins] using hy
        refine ⟨2 :: r, by rw [e]; simp, fun g => ?_⟩
        obtain ⟨h, P, Q⟩ := q g
        obtain ⟨pre, post, w1, w2, w3, w4⟩ := Q.wk_
        have s1 := Q.sz_
        have s2 := Q.dp_
        refine ⟨.bnd w n h, .bnd P, by simp only [sz] at s1 ⊢; omega, by simp only [dp] at s2 ⊢; omega, fun o og => ?_, (p, d, .bnd w n h) :: pre, post, by rw [wk, w1]; rfl, by simp only [sz, List.length_cons] at w2 ⊢; omega, fun o z hz => ?_, fun z hz => ?_⟩
        · simp only [okF, Bool.and_eq_true] at o ⊢
          exact ⟨o.1, Q.ok_ o.2 og⟩
        · simp only [okF, Bool.and_eq_true] at o
          rcases List.mem_cons.mp hz with rfl | hz
          · exact o.1
          · exact w3 o.2 z hz
        · rcases List.mem_cons.mp hz with rfl | hz
          · simp only [dp]; omega
          · have := w4 z hz; simp only [dp] at this ⊢; omega
      | lst w fs =>
        obtain ⟨j, hj⟩ := List.mem_iff_getElem?.mp (show y ∈ en 0 fs from hy)
        rw [en_get] at hj
        cases e1 : fs[j]? with
        | none => rw [e1] at hj; cases hj
        | some f1 =>
          rw [e1] at hj
          cases hj
          refine ⟨1 :: (j : Int) :: r, by rw [e]; simp, fun g => ?_⟩
          obtain ⟨h, P, Q⟩ := q g
          obtain ⟨pre, post, w1, w2, w3, w4⟩ := Q.wk_
          have s1 := Q.sz_
          have s2 := Q.dp_
          have m1 := List.mem_of_getElem? e1
          have z1 := szs_set (h := h) e1
          have d1 := dps_set (fs := fs) (i := j) (h := h)
          have d2 := dps_mem m1
          obtain ⟨pre2, post2, v1, v2, v3⟩ := wks_set p (d + 1) (j := 0) (h := h) e1
          have m2 : sz f1 ≤ szs fs := by omega
          have w1' : wk (p ++ [1, ((0 + j : Nat) : Int)]) (d + 1) h = pre ++ (wk x.1 x.2.1 g ++ post) := w1
          refine ⟨.lst w (fs.set j h), .lst e1 P, by simp only [sz] at s1 ⊢; omega, by simp only [dp] at s2 ⊢; omega, fun o og => okFs_set o (Q.ok_ (okFs_all.mp o f1 m1) og), (p, d, .lst w (fs.set j h)) :: (pre2 ++ pre), post ++ post2, ?_, ?_, fun o z hz => ?_, fun z hz => ?_⟩
          · rw [wk, v1, w1']
            simp
          · simp only [sz, List.length_cons, List.length_append] at w2 ⊢; omega
          · rcases List.mem_cons.mp hz with rfl | hz
            · rfl
            · rcases List.mem_append.mp hz with hz | hz
              · obtain ⟨g2, mg, q2, k2⟩ := v3 z hz
                exact (wk_ok g2 q2 (d + 1) (okFs_all.mp o g2 mg) z k2).1
              · exact w3 (okFs_all.mp o f1 m1) z hz
          · rcases List.mem_cons.mp hz with rfl | hz
            · simp only [dp]; omega
            · rcases List.mem_append.mp hz with hz | hz
              · obtain ⟨g2, mg, q2, k2⟩ := v3 z hz
                have := wk_dp g2 q2 (d + 1) z k2
                have := dps_mem mg
                simp only [dp]; omega
              · have := w4 z hz; simp only [dp] at this ⊢; omega
      | _ => cases hy
/-- the need refuses a bad part where it stands -/
theorem need_bad {f : Fm} {x : Wi} {k : Nat} {h : Fm} (o : okF f = true) (d20 : dp f ≤ 20) (s : sz f ≤ 2000) (hx : x ∈ wk [] 1 f) (P : PutP f x (.bad k) [] 1 h) : needE h = .bad x.1 := by
  obtain ⟨pre, post, e, l, h1, h2⟩ := P.wk_
  have xd := wk_dp f [] 1 x hx
  unfold needE
  rw [e]
  refine scan_bad pre 0 (x.1, x.2.1, .bad k) post (fun y hy => ⟨?_, h1 o y hy⟩) (by omega) (by show x.2.1 ≤ 20; omega) rfl
  have := h2 y hy
  omega
theorem wk_sub_sz : ∀ (f : Fm) (p : List Int) (d : Nat), ∀ x ∈ wk p d f, sz x.2.2 ≤ sz f :=
  ind fun f ih p d x hx => by
    rcases mem_wk.mp hx with rfl | ⟨y, hy, hx⟩
    · exact Nat.le_refl _
    · have h1 := ih y hy _ _ x hx
      have h2 : (wk (p ++ y.1) (d + 1) y.2).length ≤ (wk p d f).length := by
        rw [wk_ins p d f, List.length_cons]
        refine Nat.le_succ_of_le ?_
        rw [List.length_flatten]
        have : ∀ (l : List (List Int × Fm)), y ∈ l → (wk (p ++ y.1) (d + 1) y.2).length ≤ ((l.map fun x => wk (p ++ x.1) (d + 1) x.2).map List.length).sum := fun l hl => by
          induction l with
          | nil => cases hl
          | cons a l ihl =>
            rw [List.map_cons, List.map_cons, List.sum_cons]
            rcases List.mem_cons.mp hl with rfl | hl
            · omega
            · have := ihl hl; omega
        exact this _ hy
      rw [wk_len, wk_len] at h2
      omega
end Fo
end Ws
/-! ## P03b -/
namespace Ws
open PySem PySem.Spec PyProof.Rows L2 Fo
local macro_rules | `(tactic| walk_at "nf") => `(tactic| dsimp only [tNext, tSeq, tDrop, tRet, tRetN, tIfS, tAsg, gName, gTup, gCons, gNil, tVar, tC, tOp, tUn, rI, rI0, rU, rEq, rNe, tTest, tChain, tAnd, tOr, tNot, tAndV, tOrV, tNotV, tIf, tCB, tCKw, tCons, tNil, tTup, tLst, tCa, tCallS, tB, rIxT, rIxL, rIxS, cxOf, Cx.nox, Cx.wish, Cx.blk, L2.start, tPar, tPar3, tNever, tYes, tBits, tRz, tBM, rAppend, tyV, tXf, suiteEnds, gSub, rSetL, tBreak, rMax, tDGet, sDPut, tSl, tNoPart, tPart, tDisp, tPairs, tDGet2, tDNewK, tAugS, ipI, rGetL, tDIn, tDNotIn, tBM0, rPop])
local macro_rules | `(tactic| walk_at "sx") => `(tactic| simp only [wipe, List.cons.injEq, and_assoc, exists_and_left, and_true, List.map_cons, List.map_nil, List.length_cons, List.length_nil, List.cons_append, List.nil_append, List.append_nil, Nat.reduceAdd, Nat.reduceSub, List.replicate, List.getElem?_cons_zero, List.getElem?_cons_succ, List.set_cons_zero, List.set_cons_succ, Option.some.injEq, V.int.injEq, V.bl.injEq, V.ref.injEq, V.str.injEq, exists_eq_left', exists_eq_left, true_and, Bool.true_eq_false, Bool.false_eq_true, if_true, if_false])

structure Cs3 (K : PySem.W.Frag) (w : World) (mg : Str → Option Value) : Prop where
  ATOMS : ∃ a, mg "ATOMS" = some (.ref a) ∧ ∀ H, SqT K H a [.str "ge", .str "eq", .str "mod"]
  LISTS : ∃ a, mg "LISTS" = some (.ref a) ∧ ∀ H, SqT K H a [.str "and", .str "or"]
  BINDERS : ∃ a, mg "BINDERS" = some (.ref a) ∧ ∀ H, SqT K H a [.str "some", .str "all"]
  CONTRARY : ∃ a, mg "CONTRARY" = some (.ref a) ∧ KDct K w a "and" (.str "or") ∧ KDct K w a "or" (.str "and") ∧ KDct K w a "some" (.str "all") ∧ KDct K w a "all" (.str "some")
  MOST_MODULUS : ∃ t, mg "MOST_MODULUS" = some (.int (10 ^ 6) t)
  MOST_DEEP : ∃ t, mg "MOST_DEEP" = some (.int 20 t)
  MOST_PARTS : ∃ t, mg "MOST_PARTS" = some (.int 2000 t)
/-- a formula is a tuple that begins with its word -/
theorem fm_head {K : PySem.W.Frag} {H : Hp} {v : V} {f : Fm} (h : Dp K H v (fmD f)) (o : hd f = true) : ∃ (p : Addr) (k : Str) (xs : List V) (ds : List PyData), v = .ref p ∧ SqT K H p (.str k :: xs) ∧ fmD f = .tuple (.str k :: ds) ∧ DpAll K H xs ds := by
  have e : ∃ (k : Str) (ds : List PyData), fmD f = .tuple (.str k :: ds) := by
    cases f with
    | bad k => cases o
    | ge c ps => exact ⟨_, _, by rw [fmD]⟩
    | eq c ps => exact ⟨_, _, by rw [fmD]⟩
    | mod m c ps => exact ⟨_, _, by rw [fmD]⟩
    | neg f => exact ⟨_, _, by rw [fmD]⟩
    | lst w fs => exact ⟨_, _, by rw [fmD]⟩
    | bnd w n f => exact ⟨_, _, by rw [fmD]⟩
  obtain ⟨k, ds, e⟩ := e
  rw [e] at h
  obtain ⟨p, xs, rfl, hq, ha⟩ := h.tup_inv
  cases ha with
  | @cons x xs _ _ h1 h2 =>
    cases h1
    exact ⟨p, k, xs, ds, rfl, hq, e, h2⟩
def spHasForm (K : PySem.W.Frag) : Sp := fun vs H Q _ => ∃ (v : V) (f : Fm), vs = [v] ∧ Dp K H v (fmD f) ∧ ∀ H', Same H H' → Q (.bl (hd f)) H'
def insD (x : List Int × Fm) : PyData := .tuple [intsD x.1, fmD x.2]
def spInner (K : PySem.W.Frag) : Sp := fun vs H Q _ => ∃ (S : List Addr) (v : V) (f : Fm), vs = [v] ∧ Lsts S H ∧ Dp K (hid S H) v (fmD f) ∧ Fo.hd f = true ∧ (ins f).length < 100000 ∧ ∀ H' l zs, Same H H' → H l = none → H' l = some (.lst zs) → DpAll K (hid S H') zs ((ins f).map insD) → Q (.ref l) H'
abbrev s_has_form : Stmt := top 20
abbrev nm_has_form : List Str := ["value", "kind"]
abbrev pr_has_form : List Str := ["value"]
theorem sc_has_form : FnScope nm_has_form pr_has_form (defScope s_has_form) := ⟨rfl, rfl, rfl, by decide +kernel, rfl, by decide +kernel, by decide +kernel⟩
abbrev s_inner : Stmt := top 21
abbrev nm_inner : List Str := ["formula", "kind", "at", "part"]
abbrev pr_inner : List Str := ["formula"]
theorem sc_inner : FnScope nm_inner pr_inner (defScope s_inner) := ⟨rfl, rfl, rfl, by decide +kernel, rfl, by decide +kernel, by decide +kernel⟩
section
variable {P : Program} {w : World} {K : PySem.W.Frag} {mg : Str → Option Value} {base : Heap} {BF TG : Addr}
theorem ok_has_form (B : Bl mg) (C : Cs3 K w mg) (F1 : Df P w K mg base CX0 5 "is_term" pr_is_term (spIsTerm K)) (F2 : Df P w K mg base CX0 2 "is_between" pr_is_between (spIsBetween K)) (F3 : Df P w K mg base CX0 3 "is_name" pr_is_name (spIsName K))
    (D : Dt K mg "has_form" s_has_form pr_has_form) : Df P w K mg base CX0 6 "has_form" pr_has_form (spHasForm K) := by
  refine D.ok sc_has_form (fun vs H Q E h => ?_) (fun f cdv A outer s H vs Q E hr h => ?_)
  · obtain ⟨v, f, rfl, _⟩ := h
    rfl
  · obtain ⟨v, f, rfl, hd, k⟩ := h
    refine ⟨_, (pss_cons (ps_if (PW.pt (pw_or (pt_not (pt_val (pe_callB call_isi (by rfl) B.isinstance boot_isinstance (pa_cons (pv 0) (pa_cons (pe_bltn (v := .ty "tuple") (by rfl) B.tuple PyProof.Rows.boot_tuple rfl) pa_nil))))) (pw_or (pt_cmpR op_notIn_seq (pe_callB call_len_seq (by rfl) B.len PySem.boot_len (pa_cons (pv 0) pa_nil)) (pe_tup (pa_cons pe_int (pa_cons pe_int pa_nil))) (by rfl)) (pw_or1 (pt_not (pt_val (pe_callB call_isi (by rfl) B.isinstance boot_isinstance (pa_cons (pe_ix ix_tup (pv 0) pe_int (fun _ _ => rfl)) (pa_cons (pe_bltn (v := .ty "str") (by rfl) B.str PyProof.Rows.boot_str rfl) pa_nil))))))))) (pss_one (ps_ret pe_bl)) pss_nil) (pss_cons (ps_set (i := 1) sc_has_form.nd rfl (Or.inl rfl) (pe_ix ix_tup (pv 0) pe_int (fun _ _ => rfl))) (pss_cons (ps_if (pt_cmpR op_eq (pe_callB call_len_seq (by rfl) B.len PySem.boot_len (pa_cons (pv 0) pa_nil)) pe_int (nomark _)) (pss_cons (ps_if (pt_cmpR op_in_seq (pv 1) (pe_tup (pa_cons pe_str (pa_cons pe_str pa_nil))) (by rfl)) (pss_one (ps_ret (pe_f F1 (hr.mono (by decide)) pass0 (pa_cons (pe_ix ix_tup (pv 0) pe_int (fun _ _ => rfl)) pa_nil)))) pss_nil) (pss_one (ps_ret (pe_or (pe_cmpR op_eq (pv 1) pe_str (nomark _)) (pe_one (pe_and (pe_cmpR op_in_seq (pv 1) (pe_glob (v := .ref C.LISTS.choose) rfl C.LISTS.choose_spec.1 rfl) (by rfl)) (pe_one (pe_callB call_isi (by rfl) B.isinstance boot_isinstance (pa_cons (pe_ix ix_tup (pv 0) pe_int (fun _ _ => rfl)) (pa_cons (pe_bltn (v := .ty "tuple") (by rfl) B.tuple PyProof.Rows.boot_tuple rfl) pa_nil)))))))))) pss_nil) (pss_cons (ps_if (pt_cmpR op_eq (pv 1) pe_str (nomark _)) (pss_one (ps_ret (pe_and (pe_f F2 (hr.mono (by decide)) pass0 (pa_cons (pe_ix ix_tup (pv 0) pe_int (fun _ _ => rfl)) (pa_cons pe_int (pa_cons (pe_glob (v := .int (10 ^ 6)) rfl C.MOST_MODULUS.choose_spec ⟨_, rfl⟩) pa_nil)))) (pe_one (pe_f F1 (hr.mono (by decide)) pass0 (pa_cons (pe_ix ix_tup (pv 0) pe_int (fun _ _ => rfl)) pa_nil)))))) pss_nil) (pss_one (ps_ret (pe_and (pe_cmpR op_in_seq (pv 1) (pe_glob (v := .ref C.BINDERS.choose) rfl C.BINDERS.choose_spec.1 rfl) (by rfl)) (pe_one (pe_f F3 (hr.mono (by decide)) pass0 (pa_cons (pe_ix ix_tup (pv 0) pe_int (fun _ _ => rfl)) pa_nil)))))))))), ?_⟩
    walk_at "nf"
    walk_at "sx"
    refine isi_tuple hd ⟨_, rfl, ?_⟩
    -- behind the first test
    cases f with
    | bad n =>
      match n, hd with
      | 0, hd => exact iteT (k _ (Same.refl _))
      | 1, hd =>
        obtain ⟨p, zs, rfl, hq, ha⟩ := hd.tup_inv
        obtain ⟨x, rfl, hx⟩ := ha.one'
        exact iteF ⟨p, rfl, _, .inr hq, by decide, fun t ht => ⟨t, _, rfl, .inr (.of upd_same), rfl, rfl, _, rfl, iteT (k _ (Same.new ht))⟩⟩
      | n + 2, hd =>
        obtain ⟨p, x, y, rfl, hq, h1, h2⟩ := Dp.two (show Dp K H v (.tuple [.str "or", .list []]) from hd)
        cases h1
        refine iteF ⟨p, rfl, _, .inr hq, by decide, fun t ht => ⟨t, _, rfl, .inr (.of upd_same), rfl, rfl, _, rfl, ?_⟩⟩
        have e1 : Same H (upd H t (HO.tup [V.int 2, V.int 3])) := Same.new ht
        refine iteF ⟨p, rfl, _, e1.seqT hq, _, rfl, isi_str (.str _) ⟨_, rfl, iteF ⟨p, rfl, _, e1.seqT hq, _, rfl, p, rfl, _, .inr (e1.seqT hq), rfl, iteT ⟨by decide, fun t2 ht2 => ⟨t2, _, rfl, .inr (.of upd_same), rfl, rfl, _, rfl, ?_⟩⟩⟩⟩⟩
        have e2 := e1.then_new (o := HO.tup [V.str "ge", V.str "eq"]) ht2
        refine iteF ⟨rfl, iteF ⟨_, _, rfl, .inr (C.LISTS.choose_spec.2 _), rfl, rfl, _, rfl, iteT ⟨p, rfl, _, e2.seqT hq, _, rfl, isi_tuple (h2.to e2) ?_⟩⟩⟩
        exact k _ e2
    | ge c ps =>
      obtain ⟨p, x, y, rfl, hq, h1, h2⟩ := Dp.two (show Dp K H v (.tuple [.str "ge", tmD c ps]) from hd)
      cases h1
      refine iteF ⟨p, rfl, _, .inr hq, by decide, fun t ht => ⟨t, _, rfl, .inr (.of upd_same), rfl, rfl, _, rfl, ?_⟩⟩
      have e1 : Same H (upd H t (HO.tup [V.int 2, V.int 3])) := Same.new ht
      refine iteF ⟨p, rfl, _, e1.seqT hq, _, rfl, isi_str (.str _) ⟨_, rfl, iteF ⟨p, rfl, _, e1.seqT hq, _, rfl, p, rfl, _, .inr (e1.seqT hq), rfl, iteT ⟨by decide, fun t2 ht2 => ⟨t2, _, rfl, .inr (.of upd_same), rfl, rfl, _, rfl, ?_⟩⟩⟩⟩⟩
      have e2 := e1.then_new (o := HO.tup [V.str "ge", V.str "eq"]) ht2
      exact iteT ⟨p, rfl, _, e2.seqT hq, _, rfl, _, _, rfl, h2.to e2, k _ e2⟩
    | eq c ps =>
      obtain ⟨p, x, y, rfl, hq, h1, h2⟩ := Dp.two (show Dp K H v (.tuple [.str "eq", tmD c ps]) from hd)
      cases h1
      refine iteF ⟨p, rfl, _, .inr hq, by decide, fun t ht => ⟨t, _, rfl, .inr (.of upd_same), rfl, rfl, _, rfl, ?_⟩⟩
      have e1 : Same H (upd H t (HO.tup [V.int 2, V.int 3])) := Same.new ht
      refine iteF ⟨p, rfl, _, e1.seqT hq, _, rfl, isi_str (.str _) ⟨_, rfl, iteF ⟨p, rfl, _, e1.seqT hq, _, rfl, p, rfl, _, .inr (e1.seqT hq), rfl, iteT ⟨by decide, fun t2 ht2 => ⟨t2, _, rfl, .inr (.of upd_same), rfl, rfl, _, rfl, ?_⟩⟩⟩⟩⟩
      have e2 := e1.then_new (o := HO.tup [V.str "ge", V.str "eq"]) ht2
      exact iteT ⟨p, rfl, _, e2.seqT hq, _, rfl, _, _, rfl, h2.to e2, k _ e2⟩
    | neg g =>
      obtain ⟨p, x, y, rfl, hq, h1, h2⟩ := Dp.two (show Dp K H v (.tuple [.str "not", fmD g]) from hd)
      cases h1
      refine iteF ⟨p, rfl, _, .inr hq, by decide, fun t ht => ⟨t, _, rfl, .inr (.of upd_same), rfl, rfl, _, rfl, ?_⟩⟩
      have e1 : Same H (upd H t (HO.tup [V.int 2, V.int 3])) := Same.new ht
      refine iteF ⟨p, rfl, _, e1.seqT hq, _, rfl, isi_str (.str _) ⟨_, rfl, iteF ⟨p, rfl, _, e1.seqT hq, _, rfl, p, rfl, _, .inr (e1.seqT hq), rfl, iteT ⟨by decide, fun t2 ht2 => ⟨t2, _, rfl, .inr (.of upd_same), rfl, rfl, _, rfl, ?_⟩⟩⟩⟩⟩
      have e2 := e1.then_new (o := HO.tup [V.str "ge", V.str "eq"]) ht2
      exact iteF ⟨rfl, iteT (k _ e2)⟩
    | lst w fs =>
      obtain ⟨p, x, y, rfl, hq, h1, h2⟩ := Dp.two (show Dp K H v (.tuple [.str (lw w), .tuple (fmDs fs)]) from hd)
      cases h1
      refine iteF ⟨p, rfl, _, .inr hq, by decide, fun t ht => ⟨t, _, rfl, .inr (.of upd_same), rfl, rfl, _, rfl, ?_⟩⟩
      have e1 : Same H (upd H t (HO.tup [V.int 2, V.int 3])) := Same.new ht
      refine iteF ⟨p, rfl, _, e1.seqT hq, _, rfl, isi_str (.str _) ⟨_, rfl, iteF ⟨p, rfl, _, e1.seqT hq, _, rfl, p, rfl, _, .inr (e1.seqT hq), rfl, iteT ⟨by decide, fun t2 ht2 => ⟨t2, _, rfl, .inr (.of upd_same), rfl, rfl, _, rfl, ?_⟩⟩⟩⟩⟩
      have e2 := e1.then_new (o := HO.tup [V.str "ge", V.str "eq"]) ht2
      cases w with
      | true => exact iteF ⟨rfl, iteF ⟨_, _, rfl, .inr (C.LISTS.choose_spec.2 _), rfl, rfl, _, rfl, iteT ⟨p, rfl, _, e2.seqT hq, _, rfl, isi_tuple (h2.to e2) (k _ e2)⟩⟩⟩
      | false => exact iteF ⟨rfl, iteF ⟨_, _, rfl, .inr (C.LISTS.choose_spec.2 _), rfl, rfl, _, rfl, iteT ⟨p, rfl, _, e2.seqT hq, _, rfl, isi_tuple (h2.to e2) (k _ e2)⟩⟩⟩
    | mod m c ps =>
      obtain ⟨p, zs, rfl, hq, ha⟩ := (show Dp K H v (.tuple [.str "mod", .int m, tmD c ps]) from hd).tup_inv
      obtain ⟨x, y, z, rfl, h1, h2, h3⟩ := ha.three
      cases h1
      refine iteF ⟨p, rfl, _, .inr hq, by decide, fun t ht => ⟨t, _, rfl, .inr (.of upd_same), rfl, rfl, _, rfl, ?_⟩⟩
      have e1 : Same H (upd H t (HO.tup [V.int 2, V.int 3])) := Same.new ht
      refine iteF ⟨p, rfl, _, e1.seqT hq, _, rfl, isi_str (.str _) ⟨_, rfl, iteF ⟨p, rfl, _, e1.seqT hq, _, rfl, p, rfl, _, .inr (e1.seqT hq), rfl, iteF ⟨rfl, iteT ⟨p, rfl, _, e1.seqT hq, _, rfl, _, _, _, _, rfl, h2.to e1, ?_⟩⟩⟩⟩⟩
      have eb : isBt (.int m) 2 (10 ^ 6) = decide (2 ≤ m ∧ m ≤ 10 ^ 6) := by simp [isBt]
      rw [eb]
      refine ⟨_, rfl, ?_⟩
      have kk := k _ e1
      simp only [Fo.hd] at kk
      cases c0 : decide (2 ≤ m ∧ m ≤ 10 ^ 6) with
      | false =>
        rw [c0, Bool.false_and] at kk
        exact iteF kk
      | true =>
        rw [c0, Bool.true_and] at kk
        exact iteT ⟨p, rfl, _, e1.seqT hq, _, rfl, _, _, rfl, h3.to e1, kk⟩
    | bnd w n g =>
      obtain ⟨p, zs, rfl, hq, ha⟩ := (show Dp K H v (.tuple [.str (bw w), .int n, fmD g]) from hd).tup_inv
      obtain ⟨x, y, z, rfl, h1, h2, h3⟩ := ha.three
      cases h1
      refine iteF ⟨p, rfl, _, .inr hq, by decide, fun t ht => ⟨t, _, rfl, .inr (.of upd_same), rfl, rfl, _, rfl, ?_⟩⟩
      have e1 : Same H (upd H t (HO.tup [V.int 2, V.int 3])) := Same.new ht
      have kk := k _ e1
      have eb : Fo.hd (.bnd w n g) = isNm (.int n) := by simp [Fo.hd, isNm, isBt]
      rw [eb] at kk
      refine iteF ⟨p, rfl, _, e1.seqT hq, _, rfl, isi_str (.str _) ⟨_, rfl, iteF ⟨p, rfl, _, e1.seqT hq, _, rfl, p, rfl, _, .inr (e1.seqT hq), rfl, iteF ?_⟩⟩⟩
      cases w with
      | true => exact ⟨rfl, iteF ⟨_, _, rfl, .inr (C.BINDERS.choose_spec.2 _), rfl, rfl, _, rfl, iteT ⟨p, rfl, _, e1.seqT hq, _, rfl, _, _, rfl, h2.to e1, kk⟩⟩⟩
      | false => exact ⟨rfl, iteF ⟨_, _, rfl, .inr (C.BINDERS.choose_spec.2 _), rfl, rfl, _, rfl, iteT ⟨p, rfl, _, e1.seqT hq, _, rfl, _, _, rfl, h2.to e1, kk⟩⟩⟩
theorem ok_inner (B : Bl mg) (C : Cs3 K w mg) (D : Dt K mg "inner" s_inner pr_inner) : Df P w K mg base CX0 1 "inner" pr_inner (spInner K) := by
  refine D.ok sc_inner (fun vs H Q E h => ?_) (fun f cdv A outer s H vs Q E hr h => ?_)
  · obtain ⟨S, v, f, rfl, _⟩ := h
    rfl
  · obtain ⟨S, v, f, rfl, lS, hd, o, few, k⟩ := h
    refine ⟨_, (pss_cons (ps_set (i := 1) sc_inner.nd rfl (Or.inl rfl) (pe_ix ix_tup (pv 0) pe_int (fun _ _ => rfl))) (pss_cons (ps_if (pt_cmpR op_in_seq (pv 1) (pe_glob (v := .ref C.LISTS.choose) rfl C.LISTS.choose_spec.1 rfl) (by rfl)) (pss_one (ps_ret (pe_lc (own := [("at", 2), ("part", 3)]) (g := gTup K 2 (gCons (gName 2) (gCons (gName 3) gNil))) (tt := tYes) (by rfl) sc_inner.nd (pi_enumT (by rfl) B.enumerate (pa_cons (pe_ix ix_tup (pv 0) pe_int (fun _ _ => rfl)) pa_nil)) (blkOk_by (own := [("at", 2), ("part", 3)]) (N := nm_inner) (sc := defScope s_inner) (by decide +kernel)) (fun _ _ _ _ _ => pg_tup rfl (pgs_cons (pg_name (i := 2) sc_inner.nd rfl (Or.inl rfl)) (pgs_cons (pg_name (i := 3) sc_inner.nd rfl (Or.inl rfl)) pgs_nil))) (fun _ _ _ _ _ => pts_nil) (fun _ _ _ _ _ => (pe_tup (pa_cons (pe_tup (pa_cons pe_int (pa_cons (pv 2) pa_nil))) (pa_cons (pv 3) pa_nil))))))) pss_nil) (pss_cons (ps_if (pt_cmpR op_in_seq (pv 1) (pe_glob (v := .ref C.ATOMS.choose) rfl C.ATOMS.choose_spec.1 rfl) (by rfl)) (pss_one (ps_ret (pe_lst pa_nil))) pss_nil) (pss_one (ps_ret (pe_lst (pa_cons (pe_tup (pa_cons (pe_tup (pa_cons (pe_op op_sub (pe_callB call_len_seq (by rfl) B.len PySem.boot_len (pa_cons (pv 0) pa_nil)) pe_int) pa_nil)) (pa_cons (pe_ix ix_tup (pv 0) (pe_un un_neg pe_int) (fun _ _ => rfl)) pa_nil))) pa_nil))))))), ?_⟩
    dsimp only [cxOf, Cx.nox, L2.start]
    cases f with
    | bad n => cases o
    | ge c ps =>
      obtain ⟨p, x, y, rfl, hq, h1, h2⟩ := Dp.two (show Dp K (hid S H) v (.tuple [.str "ge", tmD c ps]) from hd)
      cases h1
      have hq := seqTE hid_out hq
      refine sq_go ⟨_, rfl, p, _, 0, _, rfl, rfl, hq, rfl, sq_if0 ⟨_, rfl, C.LISTS.choose, _, rfl, .inr (C.LISTS.choose_spec.2 _), rfl, rfl, _, rfl, ?_⟩⟩
      refine iteF (sq_if0 ⟨_, rfl, C.ATOMS.choose, _, rfl, .inr (C.ATOMS.choose_spec.2 _), rfl, rfl, _, rfl, ?_⟩)
      exact iteT ⟨by decide, fun l hl => k _ l [] (Same.new hl) hl upd_same .nil⟩
    | eq c ps =>
      obtain ⟨p, x, y, rfl, hq, h1, h2⟩ := Dp.two (show Dp K (hid S H) v (.tuple [.str "eq", tmD c ps]) from hd)
      cases h1
      have hq := seqTE hid_out hq
      refine sq_go ⟨_, rfl, p, _, 0, _, rfl, rfl, hq, rfl, sq_if0 ⟨_, rfl, C.LISTS.choose, _, rfl, .inr (C.LISTS.choose_spec.2 _), rfl, rfl, _, rfl, ?_⟩⟩
      refine iteF (sq_if0 ⟨_, rfl, C.ATOMS.choose, _, rfl, .inr (C.ATOMS.choose_spec.2 _), rfl, rfl, _, rfl, ?_⟩)
      exact iteT ⟨by decide, fun l hl => k _ l [] (Same.new hl) hl upd_same .nil⟩
    | mod m c ps =>
      obtain ⟨p, zs, rfl, hq, ha⟩ := (show Dp K (hid S H) v (.tuple [.str "mod", .int m, tmD c ps]) from hd).tup_inv
      obtain ⟨x, y, z, rfl, h1, h2, h3⟩ := ha.three
      cases h1
      have hq := seqTE hid_out hq
      refine sq_go ⟨_, rfl, p, _, 0, _, rfl, rfl, hq, rfl, sq_if0 ⟨_, rfl, C.LISTS.choose, _, rfl, .inr (C.LISTS.choose_spec.2 _), rfl, rfl, _, rfl, ?_⟩⟩
      refine iteF (sq_if0 ⟨_, rfl, C.ATOMS.choose, _, rfl, .inr (C.ATOMS.choose_spec.2 _), rfl, rfl, _, rfl, ?_⟩)
      exact iteT ⟨by decide, fun l hl => k _ l [] (Same.new hl) hl upd_same .nil⟩
    | neg g =>
      obtain ⟨p, x, y, rfl, hq, h1, h2⟩ := Dp.two (show Dp K (hid S H) v (.tuple [.str "not", fmD g]) from hd)
      cases h1
      have hq := seqTE hid_out hq
      have hg := h2
      refine sq_go ⟨_, rfl, p, _, 0, _, rfl, rfl, hq, rfl, sq_if0 ⟨_, rfl, C.LISTS.choose, _, rfl, .inr (C.LISTS.choose_spec.2 _), rfl, rfl, _, rfl, ?_⟩⟩
      refine iteF (sq_if0 ⟨_, rfl, C.ATOMS.choose, _, rfl, .inr (C.ATOMS.choose_spec.2 _), rfl, rfl, _, rfl, ?_⟩)
      refine iteF ⟨_, rfl, p, _, rfl, .inr hq, _, _, rfl, rfl, Nat.le_of_ble_eq_true rfl, fun t ht => ⟨_, rfl, _, rfl, p, _, _, _, rfl, rfl, (Same.new ht).seqT hq, rfl, Nat.le_of_ble_eq_true rfl, fun t2 ht2 => ⟨Nat.le_of_ble_eq_true rfl, fun l hl => ?_⟩⟩⟩
      have e2 := (Same.new (o := HO.tup [V.int 1]) ht).then_new (o := HO.tup [V.ref t, y]) ht2
      have e3 := e2.then_new (o := HO.lst [V.ref t2]) hl
      have et : upd (upd (upd H t (HO.tup [V.int 1])) t2 (HO.tup [V.ref t, y])) l (HO.lst [V.ref t2]) t = some (.tup [V.int 1]) := by
        rw [upd_ne (ne_of_none (by rw [upd_ne (ne_of_none upd_same ht2)]; exact upd_same) hl), upd_ne (ne_of_none upd_same ht2)]
        exact upd_same
      have et2 : upd (upd (upd H t (HO.tup [V.int 1])) t2 (HO.tup [V.ref t, y])) l (HO.lst [V.ref t2]) t2 = some (.tup [V.ref t, y]) := by
        rw [upd_ne (ne_of_none upd_same hl)]
        exact upd_same
      exact k _ l [.ref t2] e3 (e2.back hl) upd_same (.cons (.tup (seqT_hid (lsts_to lS e3) (.of et2)) (.cons (.tup (seqT_hid (lsts_to lS e3) (.of et)) (.cons (.int _) .nil)) (.cons (hg.to (same_hid2 e3)) .nil))) .nil)
    | bnd w n g =>
      obtain ⟨p, zs, rfl, hq, ha⟩ := (show Dp K (hid S H) v (.tuple [.str (bw w), .int n, fmD g]) from hd).tup_inv
      obtain ⟨x, z, y, rfl, h1, h2, hg⟩ := ha.three
      cases h1
      have hq := seqTE hid_out hq
      cases w with
      | true =>
        refine sq_go ⟨_, rfl, p, _, 0, _, rfl, rfl, hq, rfl, sq_if0 ⟨_, rfl, C.LISTS.choose, _, rfl, .inr (C.LISTS.choose_spec.2 _), rfl, rfl, _, rfl, ?_⟩⟩
        refine iteF (sq_if0 ⟨_, rfl, C.ATOMS.choose, _, rfl, .inr (C.ATOMS.choose_spec.2 _), rfl, rfl, _, rfl, ?_⟩)
        refine iteF ⟨_, rfl, p, _, rfl, .inr hq, _, _, rfl, rfl, Nat.le_of_ble_eq_true rfl, fun t ht => ⟨_, rfl, _, rfl, p, _, _, _, rfl, rfl, (Same.new ht).seqT hq, rfl, Nat.le_of_ble_eq_true rfl, fun t2 ht2 => ⟨Nat.le_of_ble_eq_true rfl, fun l hl => ?_⟩⟩⟩
        have e2 := (Same.new (o := HO.tup [V.int 2]) ht).then_new (o := HO.tup [V.ref t, y]) ht2
        have e3 := e2.then_new (o := HO.lst [V.ref t2]) hl
        have et : upd (upd (upd H t (HO.tup [V.int 2])) t2 (HO.tup [V.ref t, y])) l (HO.lst [V.ref t2]) t = some (.tup [V.int 2]) := by
          rw [upd_ne (ne_of_none (by rw [upd_ne (ne_of_none upd_same ht2)]; exact upd_same) hl), upd_ne (ne_of_none upd_same ht2)]
          exact upd_same
        have et2 : upd (upd (upd H t (HO.tup [V.int 2])) t2 (HO.tup [V.ref t, y])) l (HO.lst [V.ref t2]) t2 = some (.tup [V.ref t, y]) := by
          rw [upd_ne (ne_of_none upd_same hl)]
          exact upd_same
        exact k _ l [.ref t2] e3 (e2.back hl) upd_same (.cons (.tup (seqT_hid (lsts_to lS e3) (.of et2)) (.cons (.tup (seqT_hid (lsts_to lS e3) (.of et)) (.cons (.int _) .nil)) (.cons (hg.to (same_hid2 e3)) .nil))) .nil)
      | false =>
        refine sq_go ⟨_, rfl, p, _, 0, _, rfl, rfl, hq, rfl, sq_if0 ⟨_, rfl, C.LISTS.choose, _, rfl, .inr (C.LISTS.choose_spec.2 _), rfl, rfl, _, rfl, ?_⟩⟩
        refine iteF (sq_if0 ⟨_, rfl, C.ATOMS.choose, _, rfl, .inr (C.ATOMS.choose_spec.2 _), rfl, rfl, _, rfl, ?_⟩)
        refine iteF ⟨_, rfl, p, _, rfl, .inr hq, _, _, rfl, rfl, Nat.le_of_ble_eq_true rfl, fun t ht => ⟨_, rfl, _, rfl, p, _, _, _, rfl, rfl, (Same.new ht).seqT hq, rfl, Nat.le_of_ble_eq_true rfl, fun t2 ht2 => ⟨Nat.le_of_ble_eq_true rfl, fun l hl => ?_⟩⟩⟩
        have e2 := (Same.new (o := HO.tup [V.int 2]) ht).then_new (o := HO.tup [V.ref t, y]) ht2
        have e3 := e2.then_new (o := HO.lst [V.ref t2]) hl
        have et : upd (upd (upd H t (HO.tup [V.int 2])) t2 (HO.tup [V.ref t, y])) l (HO.lst [V.ref t2]) t = some (.tup [V.int 2]) := by
          rw [upd_ne (ne_of_none (by rw [upd_ne (ne_of_none upd_same ht2)]; exact upd_same) hl), upd_ne (ne_of_none upd_same ht2)]
          exact upd_same
        have et2 : upd (upd (upd H t (HO.tup [V.int 2])) t2 (HO.tup [V.ref t, y])) l (HO.lst [V.ref t2]) t2 = some (.tup [V.ref t, y]) := by
          rw [upd_ne (ne_of_none upd_same hl)]
          exact upd_same
        exact k _ l [.ref t2] e3 (e2.back hl) upd_same (.cons (.tup (seqT_hid (lsts_to lS e3) (.of et2)) (.cons (.tup (seqT_hid (lsts_to lS e3) (.of et)) (.cons (.int _) .nil)) (.cons (hg.to (same_hid2 e3)) .nil))) .nil)
    | lst w fs =>
      obtain ⟨p, x, y, rfl, hq, h1, h2⟩ := Dp.two (show Dp K (hid S H) v (.tuple [.str (lw w), .tuple (fmDs fs)]) from hd)
      cases h1
      have hq := seqTE hid_out hq
      rw [fmDs_map] at h2
      obtain ⟨q, zs, rfl, hz, hzl, hzat, hza⟩ := tup_view h2
      have hz := seqTE hid_out hz
      have go : tRet (tLc (iEnumT K (tCons (tOp (rIxT K) (tVar 0) (tC (V.int 1))) tNil)) (gTup K 2 (gCons (gName 2) (gCons (gName 3) gNil))) tYes (tTup (tCons (tTup (tCons (tC (V.int 1)) (tCons (tVar 2) tNil))) (tCons (tVar 3) tNil))) [2, 3]) { nx := fun _ H' => Q .non H', rt := Q } [some (.ref p), some (.str (lw w)), none, none] H := by
        have few2 : zs.length < 100000 := by
          rw [hzl, ← en_len fs 0]
          exact few
        refine ⟨_, rfl, p, _, 1, _, rfl, rfl, hq, rfl, q, zs, rfl, hz, fun D hD => lcH (K := K) (S := S) walk_enumT hD (slt few2) lS (fun i => insD ([1, (i : Int)], fs.getD i default)) (fun H1 e => e.seqT hz) (fun i x H1 H2 Q1 hi e l y q1 => ?_) (fun H1 ys e hy hn ha => ?_)⟩
        · obtain ⟨T, x1, x2, rfl, hT, rfl, e1, e2⟩ := y
          cases e1
          walk_at "nf"
          refine ⟨T, _, rfl, .of upd_same, rfl, ?_⟩
          walk_at "sx"
          have l1 := lsts_to l (Same.new (o := HO.tup [V.int (i : Nat), x2]) hT)
          have e1 : Same H1 (upd H1 T (HO.tup [V.int (i : Nat), x2])) := Same.new hT
          generalize upd H1 T (HO.tup [V.int (i : Nat), x2]) = H2 at *
          refine ⟨Nat.le_of_ble_eq_true rfl, fun t ht => ⟨Nat.le_of_ble_eq_true rfl, fun t2 ht2 => q1 _ _ ((e1.then_new ht).then_new ht2) ?_⟩⟩
          have l3 := lsts_to l1 ((Same.new (o := HO.tup [V.int 1, V.int (i : Nat)]) ht).then_new (o := HO.tup [V.ref t, x2]) ht2)
          have e3 := (e.trans e1).trans ((Same.new (o := HO.tup [V.int 1, V.int (i : Nat)]) ht).then_new (o := HO.tup [V.ref t, x2]) ht2)
          refine .tup (seqT_hid l3 (.of upd_same)) (.cons (.tup (seqT_hid l3 (.of (by rw [upd_ne (ne_of_none upd_same ht2)]; exact upd_same))) (.cons (.int _) (.cons (.int _) .nil))) (.cons ?_ .nil))
          obtain ⟨g, hg1, hg2⟩ := hzat i x2 e2
          have ed : fs.getD i default = g := by rw [List.getD_eq_getElem?_getD, hg1]; rfl
          show Dp K _ x2 (fmD (fs.getD i default))
          rw [ed]
          exact hg2.to (same_hid hD e3)
        · refine k _ D ys e hD hy ?_
          have el : (List.range zs.length).map (fun i : Nat => insD ([1, (i : Int)], fs.getD i default)) = (ins (.lst w fs)).map insD := by
            refine List.ext_getElem? fun j => ?_
            rw [List.getElem?_map, List.getElem?_map]
            show _ = ((en 0 fs)[j]?).map insD
            rw [en_get]
            by_cases c : j < fs.length
            · rw [List.getElem?_range (by omega), List.getElem?_eq_getElem c]
              simp [c]
            · rw [List.getElem?_eq_none (by simp; omega), List.getElem?_eq_none (by omega)]
              rfl
          rw [← el]
          exact ha
      cases w with
      | true => exact sq_go ⟨_, rfl, p, _, 0, _, rfl, rfl, hq, rfl, sq_if0 ⟨_, rfl, C.LISTS.choose, _, rfl, .inr (C.LISTS.choose_spec.2 _), rfl, rfl, _, rfl, iteT go⟩⟩
      | false => exact sq_go ⟨_, rfl, p, _, 0, _, rfl, rfl, hq, rfl, sq_if0 ⟨_, rfl, C.LISTS.choose, _, rfl, .inr (C.LISTS.choose_spec.2 _), rfl, rfl, _, rfl, iteT go⟩⟩
end
end Ws
/-! ## P03c -/
namespace Ws
open PySem PySem.Spec PyProof.Rows L2 Fo
local macro_rules | `(tactic| walk_at "nf") => `(tactic| dsimp only [tNext, tSeq, tDrop, tRet, tRetN, tIfS, tAsg, gName, gTup, gCons, gNil, tVar, tC, tOp, tUn, rI, rI0, rU, rEq, rNe, tTest, tChain, tAnd, tOr, tNot, tAndV, tOrV, tNotV, tIf, tCB, tCKw, tCons, tNil, tTup, tLst, tCa, tCallS, tB, rIxT, rIxL, rIxS, cxOf, Cx.nox, Cx.wish, Cx.blk, L2.start, tPar, tPar3, tNever, tYes, tBits, tRz, tBM, rAppend, tyV, tXf, suiteEnds, gSub, rSetL, tBreak, rMax, tDGet, sDPut, tSl, tNoPart, tPart, tDisp, tPairs, tDGet2, tDNewK, tAugS, ipI, rGetL, tDIn, tDNotIn, tBM0, rPop])
local macro_rules | `(tactic| walk_at "sx") => `(tactic| simp only [wipe, List.cons.injEq, and_assoc, exists_and_left, and_true, List.map_cons, List.map_nil, List.length_cons, List.length_nil, List.cons_append, List.nil_append, List.append_nil, Nat.reduceAdd, Nat.reduceSub, List.replicate, List.getElem?_cons_zero, List.getElem?_cons_succ, List.set_cons_zero, List.set_cons_succ, Option.some.injEq, V.int.injEq, V.bl.injEq, V.ref.injEq, V.str.injEq, exists_eq_left', exists_eq_left, true_and, Bool.true_eq_false, Bool.false_eq_true, if_true, if_false])

/-- while, by a number that falls -/
theorem while_n {c : TT} {tb : TS} {D : Ends} {σ : L2.St} {H : Hp} (Pv : Nat → L2.St → Hp → Prop) (m0 : Nat) (h0 : Pv m0 σ H)
    (hs : ∀ m σ H, Pv m σ H → c σ H fun b H1 => if b = true then ∃ N : L2.St → Hp → Prop, (∀ σ' H', N σ' H' → ∃ m', m' < m ∧ Pv m' σ' H') ∧ tb { D with nx := N, ct := N, bk := D.nx } σ H1 else D.nx σ H1) : tWhile c tb D σ H := ⟨Pv, ⟨m0, h0⟩, hs⟩
theorem sq_aug {i : Nat} {te : TE} {j k : Int} {u : TS} {D : Ends} {σ : L2.St} {H : Hp} (e : σ[i]? = some (some (.int j))) (h : te σ H fun v H1 => v = .int k ∧ u D (σ.set i (some (.int (j + k)))) H1) (mono : ∀ R R' : VK, (∀ v H, R v H → R' v H) → te σ H R → te σ H R') : tSeq (tAug i te (ipI fun i j => i + j)) u D σ H :=
  ⟨_, e, mono _ _ (fun v H1 q => ⟨j, k, rfl, q.1, q.2⟩) h⟩
def itD (x : Wi) : PyData := .tuple [intsD x.1, fmD x.2.2, .int (x.2.1 : Nat)]
def spNeedF (K : PySem.W.Frag) (BF TG : Addr) : Sp := fun vs H Q E => ∃ (v : V) (f : Fm), vs = [v] ∧ Dp K H v (fmD f) ∧ sz f ≤ 3000 ∧ (∀ x ∈ wk [] 1 f, (ins x.2.2).length ≤ 2000) ∧ (needE f = .ok → ∀ H', Same H H' → Q v H') ∧
  (∀ n, needE f = .great n → OutF K TG "most" (.int (n : Nat)) H E) ∧ (∀ p, needE f = .bad p → OutF K BF "path" (intsD p) H E)
abbrev s_need_formula : Stmt := top 28
abbrev nm_need_formula : List Str := ["value", "waiting", "met", "path", "part", "deep", "steps", "each"]
abbrev pr_need_formula : List Str := ["value"]
theorem sc_need_formula : FnScope nm_need_formula pr_need_formula (defScope s_need_formula) := ⟨rfl, rfl, rfl, by decide +kernel, rfl, by decide +kernel, by decide +kernel⟩
/-- what is still to be met -/
def todo (S : List Wi) : List Wi := (S.reverse.map fun x => wk x.1 x.2.1 x.2.2).flatten
theorem todo_nil : todo [] = [] := rfl
theorem todo_snoc (S : List Wi) (x : Wi) : todo (S ++ [x]) = wk x.1 x.2.1 x.2.2 ++ todo S := by
  unfold todo
  rw [List.reverse_append]
  rfl
def kids (x : Wi) : List Wi := (ins x.2.2).map fun y => (x.1 ++ y.1, x.2.1 + 1, y.2)
theorem todo_kids (S : List Wi) (x : Wi) : todo (S ++ [x]) = x :: todo (S ++ (kids x).reverse) := by
  rw [todo_snoc, wk_ins]
  unfold todo kids
  rw [List.reverse_append, List.reverse_reverse, List.map_append, List.flatten_append, List.map_map, List.cons_append]
  rfl
theorem ins_st {f : Fm} : ∀ y ∈ ins f, y.1.length ≤ 2 := fun y hy => by
  cases f with
  | bnd w n f =>
    obtain rfl : y = ([2], f) := by simpa [ins] using hy
    exact Nat.le_of_ble_eq_true rfl
  | neg f =>
    obtain rfl : y = ([1], f) := by simpa [ins] using hy
    exact Nat.le_of_ble_eq_true rfl
  | lst w fs =>
    have hy : y ∈ en 0 fs := hy
    obtain ⟨j, hj⟩ := List.mem_iff_getElem?.mp hy
    rw [en_get] at hj
    cases e : fs[j]? with
    | none => rw [e] at hj; cases hj
    | some g => rw [e] at hj; cases hj; exact Nat.le_of_ble_eq_true rfl
  | _ => cases hy
theorem todo_len : ∀ S : List Wi, S.length ≤ (todo S).length := fun S => by
  unfold todo
  have h : ∀ l : List Wi, l.length ≤ ((l.map fun x => wk x.1 x.2.1 x.2.2).flatten).length := fun l => by
    induction l with
    | nil => simp
    | cons x l ih =>
      rw [List.map_cons, List.flatten_cons, List.length_append, wk_len, List.length_cons]
      have := sz_pos x.2.2
      omega
  have := h S.reverse
  rwa [List.length_reverse] at this
/-- the stack at L -/
structure StkI (K : PySem.W.Frag) (H H' : Hp) (L : Addr) (S : List Wi) : Prop where
  same : Same H H'
  ex : ∃ zs, H' L = some (.lst zs) ∧ DpAll K (hid [L] H') zs (S.map itD)
theorem StkI.lsts {K : PySem.W.Frag} {H H' : Hp} {L : Addr} {S : List Wi} (h : StkI K H H' L S) : Lsts [L] H' := fun b m => by
  obtain ⟨zs, h1, _⟩ := h.ex
  obtain rfl : b = L := by simpa using m
  exact ⟨_, h1, .inl ⟨_, rfl⟩⟩
theorem StkI.to {K : PySem.W.Frag} {H H1 H2 : Hp} {L : Addr} {S : List Wi} (h : StkI K H H1 L S) (e : Same H1 H2) : StkI K H H2 L S := by
  obtain ⟨zs, h1, h2⟩ := h.ex
  exact ⟨h.same.trans e, zs, e _ _ h1, Dp.exts (hid_ext (Same.extN e)) _ _ h2⟩
theorem StkI.push {K : PySem.W.Frag} {H H1 : Hp} {L : Addr} {S : List Wi} {v : V} {x : Wi} (h : StkI K H H1 L S) (hL : H L = none) (hv : Dp K (hid [L] H1) v (itD x)) (zs : List V) (hz : H1 L = some (.lst zs)) : StkI K H (upd H1 L (.lst (zs ++ [v]))) L (S ++ [x]) := by
  obtain ⟨ys, h1, h2⟩ := h.ex
  rw [hz] at h1
  cases h1
  refine ⟨h.same.mut hL, _, upd_same, ?_⟩
  rw [hid_upd (by simp), List.map_append]
  exact h2.append (.cons hv .nil)
theorem StkI.pop {K : PySem.W.Frag} {H H1 : Hp} {L : Addr} {S : List Wi} {x : Wi} (h : StkI K H H1 L (S ++ [x])) (hL : H L = none) : ∃ zs v, H1 L = some (.lst zs) ∧ zs[zs.length - 1]? = some v ∧ zs.length = S.length + 1 ∧ Dp K (hid [L] (upd H1 L (.lst zs.dropLast))) v (itD x) ∧ StkI K H (upd H1 L (.lst zs.dropLast)) L S := by
  obtain ⟨zs, h1, h2⟩ := h.ex
  have hl := h2.length
  rw [List.length_map, List.length_append, List.length_cons, List.length_nil] at hl
  obtain ⟨v, hv, hd⟩ := h2.get (i := zs.length - 1) (d := itD x) (by
    rw [hl, List.map_append, List.getElem?_append_right (by simp)]
    simp)
  refine ⟨zs, v, h1, hv, by omega, by rw [hid_upd (by simp)]; exact hd, h.same.mut hL, _, upd_same, ?_⟩
  rw [hid_upd (by simp)]
  have := h2.take (zs.length - 1)
  rw [List.dropLast_eq_take]
  have e : (List.map itD (S ++ [x])).take (zs.length - 1) = S.map itD := by
    rw [hl, List.map_append, List.take_append_of_le_length (by simp), List.take_of_length_le (by simp)]
  rw [e] at this
  exact this
section
variable {P : Program} {w : World} {K : PySem.W.Frag} {mg : Str → Option Value} {base : Heap} {BF TG : Addr}
theorem ok_need_formula (B : Bl mg) (C : Cs3 K w mg) (T : ErS P w K mg base BF TG) (F1 : Df P w K mg base CX0 6 "has_form" pr_has_form (spHasForm K)) (F2 : Df P w K mg base CX0 1 "inner" pr_inner (spInner K))
    (D : Dt K mg "need_formula" s_need_formula pr_need_formula) : Df P w K mg base (L2.CX P w) 7 "need_formula" pr_need_formula (spNeedF K BF TG) := by
  refine D.okX sc_need_formula (fun vs H Q E h => ?_) (fun f cdv A outer s H vs Q E hr h => ?_)
  · obtain ⟨v, f, rfl, _⟩ := h
    rfl
  · obtain ⟨v, f, rfl, hd, few, wid, k1, k2, k3⟩ := h
    refine ⟨_, (pss_cons (ps_set (i := 1) sc_need_formula.nd rfl (Or.inl rfl) (pe_lst (pa_cons (pe_tup (pa_cons (pe_tup pa_nil) (pa_cons (pv 0) (pa_cons pe_int pa_nil)))) pa_nil))) (pss_cons (ps_set (i := 2) sc_need_formula.nd rfl (Or.inl rfl) pe_int) (pss_cons (ps_while (passes_of rfl) (pt_truth (pv 1) (by intro _; rfl)) (pss_cons (ps_asg (pe_bm0 PySem.F.plainAttrs_list PySem.F.slot_list_pop PySem.F.type_list_pop mt_pop (pv 1)) (pg_tup rfl (pgs_cons (pg_name (i := 3) sc_need_formula.nd rfl (Or.inl rfl)) (pgs_cons (pg_name (i := 4) sc_need_formula.nd rfl (Or.inl rfl)) (pgs_cons (pg_name (i := 5) sc_need_formula.nd rfl (Or.inl rfl)) pgs_nil))))) (pss_cons (ps_aug (i := 2) sc_need_formula.nd rfl (Or.inl rfl) pe_int ip_add) (pss_cons (ps_if (pt_cmpR op_gt (pv 5) (pe_glob (v := .int 20) rfl C.MOST_DEEP.choose_spec ⟨_, rfl⟩) (nomark _)) (pss_one (ps_rz rfl T.TooGreat (hr.mono (by decide)) (takes_of rfl rfl rfl rfl) (by rfl) (pe_glob (v := .int 20) rfl C.MOST_DEEP.choose_spec ⟨_, rfl⟩))) pss_nil) (pss_cons (ps_if (pt_cmpR op_gt (pv 2) (pe_glob (v := .int 2000) rfl C.MOST_PARTS.choose_spec ⟨_, rfl⟩) (nomark _)) (pss_one (ps_rz rfl T.TooGreat (hr.mono (by decide)) (takes_of rfl rfl rfl rfl) (by rfl) (pe_glob (v := .int 2000) rfl C.MOST_PARTS.choose_spec ⟨_, rfl⟩))) pss_nil) (pss_cons (ps_if (pt_not (pt_val (pe_f F1 (hr.mono (by decide)) pass0 (pa_cons (pv 4) pa_nil)))) (pss_one (ps_rz rfl T.BadFormula (hr.mono (by decide)) (takes_of rfl rfl rfl rfl) (by rfl) (pv 3))) pss_nil) (pss_one (ps_for (passes_of rfl) rfl (pi_reversed (by rfl) B.reversed (pa_cons (pe_slice sl_list (pe_f F2 (hr.mono (by decide)) pass0 (pa_cons (pv 4) pa_nil)) po_none (po_some (pe_glob (v := .int 2000) rfl C.MOST_PARTS.choose_spec ⟨_, rfl⟩))) pa_nil)) (pg_tup rfl (pgs_cons (pg_name (i := 6) sc_need_formula.nd rfl (Or.inl rfl)) (pgs_cons (pg_name (i := 7) sc_need_formula.nd rfl (Or.inl rfl)) pgs_nil))) (pss_one (ps_expr (pe_bm PySem.F.plainAttrs_list PySem.F.slot_list_append PySem.F.type_list_append mt_append (pv 1) (pa_cons (pe_tup (pa_cons (pe_op (show OpR _ _ (rCatZ K) from op_catZ) (pv 3) (pv 6)) (pa_cons (pv 7) (pa_cons (pe_op op_add (pv 5) pe_int) pa_nil)))) pa_nil)))))))))))) (pss_one (ps_ret (pv 0)))))), ?_⟩
    dsimp only [cxOf, L2.start]
    refine sq_go ⟨Nat.zero_le _, fun t0 ht0 => ⟨_, rfl, Nat.le_of_ble_eq_true rfl, fun t1 ht1 => ⟨Nat.le_of_ble_eq_true rfl, fun L hL => sq_go ?_⟩⟩⟩
    show tSeq (tWhile _ _) _ _ [some v, some (.ref L), some (.int 0), none, none, none, none, none] _
    have L0 : H L = none := ((Same.new ht0).then_new ht1).back hL
    have s0 : Same H (upd (upd (upd H t0 (HO.tup [])) t1 (HO.tup [V.ref t0, v, V.int 1])) L (HO.lst [V.ref t1])) := ((Same.new ht0).then_new ht1).then_new hL
    have et1 : upd (upd (upd H t0 (HO.tup [])) t1 (HO.tup [V.ref t0, v, V.int 1])) L (HO.lst [V.ref t1]) t1 = some (.tup [V.ref t0, v, V.int 1]) := by
      rw [upd_ne (ne_of_none upd_same hL)]; exact upd_same
    have et0 : upd (upd (upd H t0 (HO.tup [])) t1 (HO.tup [V.ref t0, v, V.int 1])) L (HO.lst [V.ref t1]) t0 = some (.tup []) := by
      have n1 : t0 ≠ t1 := ne_of_none upd_same ht1
      rw [upd_ne (ne_of_none (by rw [upd_ne n1]; exact upd_same) hL), upd_ne n1]; exact upd_same
    have st0 : StkI K H (upd (upd (upd H t0 (HO.tup [])) t1 (HO.tup [V.ref t0, v, V.int 1])) L (HO.lst [V.ref t1])) L [([], 1, f)] := ⟨s0, _, upd_same, by
      have ls : Lsts [L] (upd (upd (upd H t0 (HO.tup [])) t1 (HO.tup [V.ref t0, v, V.int 1])) L (HO.lst [V.ref t1])) := fun b m => by
        obtain rfl : b = L := by simpa using m
        exact ⟨_, upd_same, .inl ⟨_, rfl⟩⟩
      refine .cons (.tup (seqT_hid ls (.of et1)) (.cons (.tup (seqT_hid ls (.of et0)) .nil) (.cons ?_ (.cons (.int _) .nil)))) .nil
      have := hd.to (same_hid (S := []) L0 s0 |> fun z => (by rw [hid_nil] at z; exact z))
      exact this⟩
    generalize upd (upd (upd H t0 (HO.tup [])) t1 (HO.tup [V.ref t0, v, V.int 1])) L (HO.lst [V.ref t1]) = H1 at st0 ⊢
    refine while_n (fun m σ H' => ∃ (S : List Wi) (met : Nat) (v3 v4 v5 v6 v7 : Option V), σ = [some v, some (.ref L), some (.int (met : Nat)), v3, v4, v5, v6, v7] ∧ StkI K H H' L S ∧ m = (todo S).length ∧ met + m = sz f ∧ Fo.scan (todo S) met = needE f ∧ (∀ x ∈ todo S, (ins x.2.2).length ≤ 2000) ∧ ∀ x ∈ S, x.1.length ≤ 2 * x.2.1)
      (sz f) ⟨[([], 1, f)], 0, _, _, _, _, _, rfl, st0, ?_, ?_, ?_, ?_, fun x hx => ?_⟩ (fun m σ H' p => ?_)
    · show sz f = (todo ([] ++ [([], 1, f)])).length
      rw [todo_snoc, todo_nil, List.append_nil, wk_len]
    · omega
    · show Fo.scan (todo ([] ++ [([], 1, f)])) 0 = needE f
      rw [todo_snoc, todo_nil, List.append_nil]
      rfl
    · show ∀ x ∈ todo ([] ++ [([], 1, f)]), _
      rw [todo_snoc, todo_nil, List.append_nil]
      exact wid
    · obtain rfl : x = ([], 1, f) := by simpa using hx
      exact Nat.zero_le _
    obtain ⟨S, met, v3, v4, v5, v6, v7, rfl, st, rfl, hsum, hsc, hw, hpl⟩ := p
    obtain ⟨zs, hz, hza⟩ := st.ex
    refine ⟨_, rfl, !zs.isEmpty, .inl ⟨_, .of hz, rfl⟩, ?_⟩
    rcases List.eq_nil_or_concat S with rfl | ⟨S', x, rfl⟩
    · cases hza
      rw [if_neg (by simp)]
      refine ⟨_, rfl, ?_⟩
      exact k1 hsc.symm _ st.same
    · rw [List.concat_eq_append] at *
      have hne : (!zs.isEmpty) = true := by
        have := hza.length
        cases zs with
        | nil => simp at this
        | cons a b => rfl
      rw [hne]
      obtain ⟨zs', pv, hz', hlast, hzl, hpv, st1⟩ := st.pop L0
      rw [hz] at hz'
      cases hz'
      rw [todo_kids] at hsc hw hsum ⊢
      refine iteT ⟨fun σ' H'' => ∃ m', m' < (x :: todo (S' ++ (kids x).reverse)).length ∧ _, fun _ _ h => h, ?_⟩
      refine sq_as ⟨_, rfl, .inl ⟨rfl, zs, .of hz⟩, L, zs, pv, rfl, rfl, hz, hlast, ?_⟩
      obtain ⟨pp, d, g⟩ := x
      obtain ⟨T, ws, rfl, hT, hTa⟩ := hpv.tup_inv
      obtain ⟨pathv, partv, dv, rfl, hpath, hpart, hdv⟩ := hTa.three
      obtain rfl := hdv.int_inv
      have hT := seqTE hid_out hT
      refine ⟨T, _, rfl, hT, rfl, _, _, rfl, _, _, rfl, _, _, rfl, rfl, ?_⟩
      have lpos : (List.length ((pp, d, g) :: todo (S' ++ (kids (pp, d, g)).reverse))) = (todo (S' ++ (kids (pp, d, g)).reverse)).length + 1 := List.length_cons
      generalize upd H' L (HO.lst zs.dropLast) = H2 at st1 hpath hpart hT ⊢
      rw [lpos] at hsum
      show tSeq (tAug 2 _ _) _ _ [some v, some (.ref L), some (.int (met : Nat)), some pathv, some partv, some (.int (d : Nat)), v6, v7] _
      refine sq_aug (j := (met : Nat)) (k := 1) rfl ⟨rfl, ?_⟩ (fun _ _ h q => h _ _ q)
      have em : ((met : Nat) : Int) + 1 = ((met + 1 : Nat) : Int) := by omega
      rw [em]
      show tSeq _ _ _ [some v, some (.ref L), some (.int ((met + 1 : Nat) : Int)), some pathv, some partv, some (.int (d : Nat)), v6, v7] _
      have ow := hw _ (List.mem_cons_self ..)
      rw [Fo.scan] at hsc
      -- too deep
      refine sq_if0 ⟨_, rfl, _, _, rfl, rfl, _, rfl, ?_⟩
      by_cases c1 : 20 < d
      · rw [if_pos c1] at hsc
        rw [decide_eq_true (by omega)]
        exact iteT (rz_f (σ := []) (k2 20 hsc.symm) st1.same (.int _))
      rw [if_neg c1] at hsc
      rw [decide_eq_false (by omega)]
      refine iteF (sq_if0 ⟨_, rfl, _, _, rfl, rfl, _, rfl, ?_⟩)
      by_cases c2 : 2000 < met + 1
      · rw [if_pos c2] at hsc
        rw [decide_eq_true (by omega)]
        exact iteT (rz_f (σ := []) (k2 2000 hsc.symm) st1.same (.int _))
      rw [if_neg c2] at hsc
      rw [decide_eq_false (by omega)]
      refine iteF (sq_if0 ⟨_, rfl, partv, g, rfl, hpart.out, fun H3 e3 => ⟨_, rfl, ?_⟩⟩)
      have st3 := st1.to e3
      have hpath3 := hpath.to (same_hid2 (S := [L]) e3)
      have hpart3 := hpart.to (same_hid2 (S := [L]) e3)
      cases c3 : Fo.hd g with
      | false =>
        rw [if_pos c3] at hsc
        exact iteT ⟨_, rfl, rz_f (σ := []) (k3 pp hsc.symm) st3.same hpath3.out⟩
      | true =>
      rw [if_neg (by simp [c3])] at hsc
      refine iteF ?_
      have gl := ins_len g
      have gw : (ins g).length ≤ 2000 := ow
      refine ⟨_, rfl, [L], partv, g, rfl, st3.lsts, hpart3, c3, by omega, fun H4 l ks e4 hl0 hl hks => ?_⟩
      have lk := hks.length
      rw [List.length_map] at lk
      have nLl : l ≠ L := fun z => by
        obtain ⟨zs3, hz3, _⟩ := st3.ex
        rw [z, hz3] at hl0
        cases hl0
      have st4 := st3.to e4
      have hpath4 := hpath3.to (same_hid2 (S := [L]) e4)
      refine ⟨2000, rfl, l, ks, rfl, .of hl, fun r hr => ?_⟩
      have ecut : cutV ks none (some 2000) = ks := by
        rw [show (2000 : Int) = ((2000 : Nat) : Int) from rfl, cutV_to, List.take_of_length_le (by omega)]
      rw [ecut]
      have st5 := st4.to (Same.new (o := HO.lst ks) hr)
      have hpath5 := hpath4.to (same_hid2 (S := [L]) (Same.new (o := HO.lst ks) hr))
      have hks5 := Dp.exts (hid_ext (S := [L]) (Same.extN (Same.new (o := HO.lst ks) hr))) _ _ hks
      have hr5 : upd H4 r (HO.lst ks) r = some (.lst ks) := upd_same
      have nLr : r ≠ L := fun z => by
        obtain ⟨zs4, hz4, _⟩ := st4.ex
        rw [z, hz4] at hr
        cases hr
      generalize upd H4 r (HO.lst ks) = H5 at st5 hpath5 hks5 hr5 ⊢
      refine ⟨r, ks, rfl, .of hr5, for_it walk_rev (fun i σ H' => ∃ (v6 v7 : Option V), σ = [some v, some (.ref L), some (.int ((met + 1 : Nat) : Int)), some pathv, some partv, some (.int (d : Nat)), v6, v7] ∧ StkI K H H' L (S' ++ (kids (pp, d, g)).reverse.take i) ∧ H' r = some (.lst ks) ∧ Dp K (hid [L] H') pathv (intsD pp) ∧ DpAll K (hid [L] H') ks ((ins g).map insD))
        ⟨v6, v7, rfl, by rw [List.take_zero, List.append_nil]; exact st5, hr5, hpath5, hks5⟩ (fun i σ H' _ p => by obtain ⟨_, _, _, _, p, _⟩ := p; exact .of p) (fun i x σ H' H'' hi p y => ?_) (fun σ H' p => ?_)⟩
      · obtain ⟨v6, v7, rfl, st6, hr6, hp6, hk6⟩ := p
        obtain ⟨rfl, hx⟩ := y
        obtain ⟨d0, hd0, hdx⟩ := hk6.getV hx
        rw [List.getElem?_map] at hd0
        obtain ⟨y0, hy0, rfl⟩ : ∃ y0, (ins g)[ks.length - 1 - i]? = some y0 ∧ insD y0 = d0 := by
          cases e : (ins g)[ks.length - 1 - i]? with
          | none => rw [e] at hd0; cases hd0
          | some y0 => rw [e] at hd0; exact ⟨y0, rfl, by simpa using hd0⟩
        obtain ⟨st, g1⟩ := y0
        obtain ⟨T2, stepsv, eachv, rfl, hT2, hsteps, heach⟩ := Dp.two (show Dp K (hid [L] H'') x (.tuple [intsD st, fmD g1]) from hdx)
        refine ⟨T2, _, rfl, seqTE hid_out hT2, rfl, _, _, rfl, _, _, rfl, rfl, ?_⟩
        obtain ⟨zs6, hz6, hza6⟩ := st6.ex
        have hkids : (kids (pp, d, g)).reverse.take (i + 1) = (kids (pp, d, g)).reverse.take i ++ [(pp ++ st, d + 1, g1)] := by
          have hlk : (kids (pp, d, g)).length = ks.length := by unfold kids; rw [List.length_map]; exact lk.symm
          rw [List.take_add_one]
          congr 1
          rw [List.getElem?_reverse (by omega), hlk]
          unfold kids
          rw [List.getElem?_map, hy0]
          rfl
        have zl : zs6.length ≤ 3000 := by
          have h1 := hza6.length
          rw [List.length_map] at h1
          rw [h1, List.length_append]
          have h2 := todo_len (S' ++ (kids (pp, d, g)).reverse)
          rw [List.length_append] at h2
          have h3 : ((kids (pp, d, g)).reverse.take i).length ≤ (kids (pp, d, g)).reverse.length := by rw [List.length_take]; omega
          omega
        obtain ⟨pa, hpa', hpa⟩ := hp6.ints_tup
        obtain ⟨sa, hsa', hsa⟩ := hsteps.ints_tup
        subst hpa' hsa'
        refine ⟨_, rfl, .inl ⟨rfl, zs6, .of hz6⟩, _, rfl, _, rfl, pa, sa, _, _, rfl, rfl, seqTE hid_out hpa, seqTE hid_out hsa, ?_, fun H7 q e7 hq => ⟨_, rfl, _, rfl, _, _, rfl, rfl, Nat.le_of_ble_eq_true rfl, fun t ht => ?_⟩⟩
        · have h1 := ins_st (st, g1) (List.mem_of_getElem? hy0)
          have h2 : pp.length ≤ 2 * d := hpl (pp, d, g) (List.mem_append_right _ (List.mem_singleton.mpr rfl))
          have h3 : st.length ≤ 2 := h1
          rw [List.length_map, List.length_map]
          omega
        · have e8 : Same H'' (upd H7 t (HO.tup [V.ref q, eachv, V.int ((d : Nat) + 1)])) := e7.then_new ht
          have st8 := st6.to e8
          have q8 : SqT K (upd H7 t (HO.tup [V.ref q, eachv, V.int ((d : Nat) + 1)])) q (pp.map V.int ++ st.map V.int) := (Same.new ht).seqT hq
          have t8 : upd H7 t (HO.tup [V.ref q, eachv, V.int ((d : Nat) + 1)]) t = some (.tup [V.ref q, eachv, V.int ((d : Nat) + 1)]) := upd_same
          have z8 := e8 _ _ hz6
          have p8 := hp6.to (same_hid2 (S := [L]) e8)
          have k8 := Dp.exts (hid_ext (S := [L]) (Same.extN e8)) _ _ hk6
          have ea8 := heach.to (same_hid2 (S := [L]) e8)
          have r8 := e8 _ _ hr6
          generalize upd H7 t (HO.tup [V.ref q, eachv, V.int ((d : Nat) + 1)]) = H8 at *
          have nx : itD (pp ++ st, d + 1, g1) = .tuple [intsD (pp ++ st), fmD g1, .int ((d : Nat) + 1)] := by
            show PyData.tuple [intsD (pp ++ st), fmD g1, .int ((d + 1 : Nat) : Int)] = _
            rw [show ((d + 1 : Nat) : Int) = ((d : Nat) : Int) + 1 from by omega]
          have hv : Dp K (hid [L] H8) (.ref t) (itD (pp ++ st, d + 1, g1)) := by
            rw [nx]
            refine .tup (seqT_hid st8.lsts (.of t8)) (.cons ?_ (.cons ea8 (.cons (.int _) .nil)))
            refine Dp.tup_ints ?_
            rw [List.map_append]
            exact seqT_hid st8.lsts q8
          refine ⟨L, zs6, .ref t, rfl, rfl, z8, slt (by omega), _, _, rfl, ?_, ?_, ?_, ?_⟩
          · rw [hkids, ← List.append_assoc]
            exact st8.push L0 hv zs6 z8
          · rw [upd_ne nLr]
            exact r8
          · rw [hid_upd (by simp)]
            exact p8
          · rw [hid_upd (by simp)]
            exact k8
      · obtain ⟨v6, v7, rfl, st6, hr6, hp6, hk6⟩ := p
        rw [List.take_of_length_le (by rw [List.length_reverse]; unfold kids; rw [List.length_map]; show (ins g).length ≤ _; omega)] at st6
        refine ⟨(todo (S' ++ (kids (pp, d, g)).reverse)).length, by rw [lpos]; omega, _, met + 1, _, _, _, _, _, rfl, st6, rfl, by rw [← hsum]; omega, hsc, fun x hx => hw x (List.mem_cons_of_mem _ hx), fun x hx => ?_⟩
        rcases List.mem_append.mp hx with hx | hx
        · exact hpl x (List.mem_append_left _ hx)
        · unfold kids at hx
          obtain ⟨y, hy, rfl⟩ := List.mem_map.mp (List.mem_reverse.mp hx)
          have h1 := ins_st y hy
          have h2 : pp.length ≤ 2 * d := hpl (pp, d, g) (List.mem_append_right _ (List.mem_singleton.mpr rfl))
          show (pp ++ y.1).length ≤ 2 * (d + 1)
          rw [List.length_append]
          omega
end
end Ws
/-! ## P03d -/
namespace Ws
open PySem PySem.Spec PyProof.Rows L2 Fo
local macro_rules | `(tactic| walk_at "nf") => `(tactic| dsimp only [tNext, tSeq, tDrop, tRet, tRetN, tIfS, tAsg, gName, gTup, gCons, gNil, tVar, tC, tOp, tUn, rI, rI0, rU, rEq, rNe, tTest, tChain, tAnd, tOr, tNot, tAndV, tOrV, tNotV, tIf, tCB, tCKw, tCons, tNil, tTup, tLst, tCa, tCallS, tB, rIxT, rIxL, rIxS, cxOf, Cx.nox, Cx.wish, Cx.blk, L2.start, tPar, tPar3, tNever, tYes, tBits, tRz, tBM, rAppend, tyV, tXf, suiteEnds, gSub, rSetL, tBreak, rMax, tDGet, sDPut, tSl, tNoPart, tPart, tDisp, tPairs, tDGet2, tDNewK, tAugS, ipI, rGetL, tDIn, tDNotIn, tBM0, rPop])
local macro_rules | `(tactic| walk_at "sx") => `(tactic| simp only [wipe, List.cons.injEq, and_assoc, exists_and_left, and_true, List.map_cons, List.map_nil, List.length_cons, List.length_nil, List.cons_append, List.nil_append, List.append_nil, Nat.reduceAdd, Nat.reduceSub, List.replicate, List.getElem?_cons_zero, List.getElem?_cons_succ, List.set_cons_zero, List.set_cons_succ, Option.some.injEq, V.int.injEq, V.bl.injEq, V.ref.injEq, V.str.injEq, exists_eq_left', exists_eq_left, true_and, Bool.true_eq_false, Bool.false_eq_true, if_true, if_false])

/-- the formula with these in the places of those right in it -/
def reb : Fm → List Fm → Fm
  | .lst w _, gs => .lst w gs
  | .bnd w n _, gs => .bnd w n (gs.getD 0 default)
  | .neg _, gs => .neg (gs.getD 0 default)
  | f, _ => f
def hasIn : Fm → Bool
  | .lst _ _ => true
  | .bnd _ _ _ => true
  | .neg _ => true
  | _ => false
def spRebuilt (K : PySem.W.Frag) : Sp := fun vs H Q _ => ∃ (v : V) (l : Addr) (f : Fm) (gs : List Fm) (zs : List V), vs = [v, .ref l] ∧ Dp K H v (fmD f) ∧ hasIn f = true ∧ H l = some (.lst zs) ∧ DpAll K H zs (gs.map fmD) ∧ okFs gs = true ∧ gs.length = (ins f).length ∧ gs.length ≤ 3000 ∧
  ∀ H' u, Same H H' → Dp K H' u (fmD (reb f gs)) → Q u H'
def spMoved (K : PySem.W.Frag) (TG : Addr) : Sp := fun vs H Q E => ∃ (tv : V) (c f more : Int) (ps : List Pr), vs = [tv, .int f, .int more] ∧ Dp K H tv (tmD c ps) ∧ TmOk c ps ∧ (f = 1 ∨ f = -1) ∧
  (fitC (f * c + more) = true → ∀ H' u, Same H H' → Dp K H' u (tmD (f * c + more) (if f = 1 then ps else negP ps)) → Q u H') ∧ (fitC (f * c + more) = false → OutF K TG "most" (.int (10 ^ 9)) H E)
abbrev s_rebuilt : Stmt := top 23
abbrev nm_rebuilt : List Str := ["formula", "parts"]
abbrev pr_rebuilt : List Str := ["formula", "parts"]
theorem sc_rebuilt : FnScope nm_rebuilt pr_rebuilt (defScope s_rebuilt) := ⟨rfl, rfl, rfl, by decide +kernel, rfl, by decide +kernel, by decide +kernel⟩
abbrev s_moved : Stmt := top 36
abbrev nm_moved : List Str := ["term", "factor", "more", "const", "pairs"]
abbrev pr_moved : List Str := ["term", "factor", "more"]
theorem sc_moved : FnScope nm_moved pr_moved (defScope s_moved) := ⟨rfl, rfl, rfl, by decide +kernel, rfl, by decide +kernel, by decide +kernel⟩
theorem mul_one {ps : List Pr} : mulP 1 ps = ps := by
  unfold mulP
  rw [if_neg (by decide)]
  refine (List.map_congr_left fun p _ => ?_).trans (List.map_id ps)
  show (p.1, 1 * p.2) = p
  rw [Int.one_mul]
theorem mul_neg {ps : List Pr} : mulP (-1) ps = negP ps := by
  unfold mulP negP
  rw [if_neg (by decide)]
  exact List.map_congr_left fun p _ => by rw [Int.neg_one_mul]
section
variable {P : Program} {w : World} {K : PySem.W.Frag} {mg : Str → Option Value} {base : Heap} {BF TG : Addr}
theorem ok_moved (F1 : Df P w K mg base CX0 1 "multiplied" pr_multiplied (spMultiplied K)) (F2 : Df P w K mg base (L2.CX P w) 3 "gathered" pr_gathered (spGathered K TG)) (D : Dt K mg "moved" s_moved pr_moved) : Df P w K mg base (L2.CX P w) 4 "moved" pr_moved (spMoved K TG) := by
  refine D.okX sc_moved (fun vs H Q E h => ?_) (fun f cdv A outer s H vs Q E hr h => ?_)
  · obtain ⟨tv, c, f, more, ps, rfl, _⟩ := h
    rfl
  · obtain ⟨tv, c, f, more, ps, rfl, hd, o, hf, k1, k2⟩ := h
    refine ⟨_, (pss_cons (ps_asg (pe_f F1 (hr.mono (by decide)) pass0 (pa_cons (pv 0) (pa_cons (pv 1) pa_nil))) (pg_tup rfl (pgs_cons (pg_name (i := 3) sc_moved.nd rfl (Or.inl rfl)) (pgs_cons (pg_name (i := 4) sc_moved.nd rfl (Or.inl rfl)) pgs_nil)))) (pss_one (ps_ret (pe_f (E := E) F2 (hr.mono (by decide)) (passes_call (takes_of rfl rfl rfl rfl) fun _ _ _ _ h => h) (pa_cons (pe_op op_add (pv 3) (pv 2)) (pa_cons (pv 4) pa_nil)))))), ?_⟩
    dsimp only [cxOf, L2.start]
    have em : mulP f ps = if f = 1 then ps else negP ps := by
      rcases hf with rfl | rfl
      · rw [if_pos rfl]; exact mul_one
      · rw [if_neg (by decide)]; exact mul_neg
    have oA : asc (-1) (if f = 1 then ps else negP ps) := by
      split
      · exact o.as
      · exact asc_neg o.as
    generalize (if f = 1 then ps else negP ps) = qs at *
    refine sq_as ⟨_, rfl, _, rfl, tv, c, ps, f, rfl, hd, by have := o.len; omega, by rcases hf with rfl | rfl <;> decide, by rcases hf with rfl | rfl <;> decide, fun H1 u e1 hu => ?_⟩
    rw [em] at hu
    obtain ⟨p, x, y, rfl, hq, h1, h2⟩ := Dp.two hu
    obtain rfl := h1.int_inv
    have hl : qs.length ≤ 10 := TmOk.len (c := 0) ⟨by decide, by decide, oA⟩
    have ec : canon qs = qs := canon_asc oA
    have hfit : fits (f * c + more) (canon qs) = fitC (f * c + more) := by
      rw [ec]
      unfold fits fitC
      rw [List.all_eq_true.mpr (fun p hp => decide_eq_true ?_), Bool.and_true]
      have := (asc_ok oA p hp).1
      exact ⟨this.2.2.1, this.2.2.2⟩
    refine ⟨p, _, rfl, hq, rfl, _, _, rfl, _, _, rfl, rfl, ?_⟩
    refine ⟨_, rfl, _, rfl, _, _, rfl, rfl, _, rfl, _, y, qs, rfl, h2, by omega, fun p hp => ⟨(asc_ok oA p hp).1.1, (asc_ok oA p hp).1.2.1⟩, fun ft H2 u2 e2 hu2 => ?_, fun ft => ?_⟩
    · rw [hfit] at ft
      rw [ec] at hu2
      exact k1 ft _ _ (e1.trans e2) hu2
    · rw [hfit] at ft
      exact (k2 ft).to e1
theorem ok_rebuilt (B : Bl mg) (C : Cs3 K w mg) (D : Dt K mg "rebuilt" s_rebuilt pr_rebuilt) : Df P w K mg base CX0 1 "rebuilt" pr_rebuilt (spRebuilt K) := by
  refine D.ok sc_rebuilt (fun vs H Q E h => ?_) (fun f cdv A outer s H vs Q E hr h => ?_)
  · obtain ⟨v, l, f, gs, zs, rfl, _⟩ := h
    rfl
  · obtain ⟨v, l, f, gs, zs, rfl, hd, hi, hl, hz, og, gl, few, k⟩ := h
    refine ⟨_, (pss_cons (ps_if (pt_cmpR op_in_seq (pe_ix ix_tup (pv 0) pe_int (fun _ _ => rfl)) (pe_glob (v := .ref C.LISTS.choose) rfl C.LISTS.choose_spec.1 rfl) (by rfl)) (pss_one (ps_ret (pe_tup (pa_cons (pe_ix ix_tup (pv 0) pe_int (fun _ _ => rfl)) (pa_cons (pe_callTy call_tuple_of (by rfl) B.tuple PyProof.Rows.boot_tuple (pa_cons (pv 1) pa_nil)) pa_nil))))) pss_nil) (pss_one (ps_ret (pe_op (show OpR _ _ (rCatZ K) from op_catZ) (pe_slice sl_tupZ (pv 0) po_none (po_some (pe_un un_neg pe_int))) (pe_tup (pa_cons (pe_ix ix_list (pv 1) pe_int (fun _ _ => rfl)) pa_nil)))))), ?_⟩
    dsimp only [cxOf, Cx.nox, L2.start]
    have zl := hz.length
    rw [List.length_map] at zl
    cases f with
    | lst w fs =>
      obtain ⟨p, x, y, rfl, hq, h1, h2⟩ := Dp.two (show Dp K H v (.tuple [.str (lw w), .tuple (fmDs fs)]) from hd)
      cases h1
      have fin : ∀ t t2, H t = none → upd H t (HO.tup zs) t2 = none → Q (.ref t2) (upd (upd H t (HO.tup zs)) t2 (HO.tup [.str (lw w), .ref t])) := fun t t2 ht ht2 => by
        have e2 : Same H (upd (upd H t (HO.tup zs)) t2 (HO.tup [.str (lw w), .ref t])) := (Same.new ht).then_new ht2
        refine k _ _ e2 (.tup (.of upd_same) (.cons (.str _) (.cons (.tup (xs := zs) (.of ?_) ?_) .nil)))
        · rw [upd_ne (ne_of_none upd_same ht2)]; exact upd_same
        · rw [fmDs_map]; exact hz.to e2
      cases w with
      | true => exact sq_if0 ⟨_, rfl, p, _, 0, _, rfl, rfl, hq, rfl, C.LISTS.choose, _, rfl, .inr (C.LISTS.choose_spec.2 _), rfl, rfl, _, rfl, iteT ⟨_, rfl, p, _, 0, _, rfl, rfl, hq, rfl, _, rfl, l, zs, rfl, .inl ⟨.of hl, fun t ht => ⟨Nat.le_of_ble_eq_true rfl, fun t2 ht2 => fin t t2 ht ht2⟩⟩⟩⟩
      | false => exact sq_if0 ⟨_, rfl, p, _, 0, _, rfl, rfl, hq, rfl, C.LISTS.choose, _, rfl, .inr (C.LISTS.choose_spec.2 _), rfl, rfl, _, rfl, iteT ⟨_, rfl, p, _, 0, _, rfl, rfl, hq, rfl, _, rfl, l, zs, rfl, .inl ⟨.of hl, fun t ht => ⟨Nat.le_of_ble_eq_true rfl, fun t2 ht2 => fin t t2 ht ht2⟩⟩⟩⟩
    | neg g =>
      obtain ⟨p, x, y, rfl, hq, h1, h2⟩ := Dp.two (show Dp K H v (.tuple [.str "not", fmD g]) from hd)
      cases h1
      obtain ⟨g1, rfl⟩ : ∃ g1, gs = [g1] := by
        match gs, gl with
        | [g1], _ => exact ⟨g1, rfl⟩
      obtain ⟨z, rfl, hz1⟩ := hz.one'
      refine sq_if0 ⟨_, rfl, p, _, 0, _, rfl, rfl, hq, rfl, C.LISTS.choose, _, rfl, .inr (C.LISTS.choose_spec.2 _), rfl, rfl, _, rfl, iteF ?_⟩
      refine ⟨_, rfl, _, rfl, _, rfl, p, _, rfl, hq, fun H1 r e1 hr1 => ⟨_, rfl, l, _, _, _, rfl, rfl, .of (e1 _ _ hl), rfl, Nat.le_of_ble_eq_true rfl, fun t ht => ⟨r, t, _, _, rfl, rfl, (Same.new ht).seqT hr1, .of upd_same, Nat.le_of_ble_eq_true rfl, fun H2 q e2 hq2 => ?_⟩⟩⟩
      have e3 : Same H H2 := (e1.then_new ht).trans e2
      exact k _ _ e3 (.tup (hq2.cast rfl) (.cons (.str _) (.cons (hz1.to e3) .nil)))
    | bnd w n g =>
      obtain ⟨p, zs0, rfl, hq, ha⟩ := (show Dp K H v (.tuple [.str (bw w), .int n, fmD g]) from hd).tup_inv
      obtain ⟨x, y, z0, rfl, h1, h2, h3⟩ := ha.three
      cases h1
      obtain ⟨g1, rfl⟩ : ∃ g1, gs = [g1] := by
        match gs, gl with
        | [g1], _ => exact ⟨g1, rfl⟩
      obtain ⟨z, rfl, hz1⟩ := hz.one'
      have fin : tRet (tOp (rCatZ K) (tSl (rSlZ K) (tVar 0) tNoPart (tPart (tUn (rU fun i => V.int (-i)) (tC (V.int 1))))) (tTup (tCons (tOp (rIxL K) (tVar 1) (tC (V.int 0))) tNil))) { nx := fun _ H' => Q .non H', rt := Q } [some (.ref p), some (.ref l)] H := by
        refine ⟨_, rfl, _, rfl, _, rfl, p, _, rfl, hq, fun H1 r e1 hr1 => ⟨_, rfl, l, _, _, _, rfl, rfl, .of (e1 _ _ hl), rfl, Nat.le_of_ble_eq_true rfl, fun t ht => ⟨r, t, _, _, rfl, rfl, (Same.new ht).seqT hr1, .of upd_same, Nat.le_of_ble_eq_true rfl, fun H2 q e2 hq2 => ?_⟩⟩⟩
        have e3 : Same H H2 := (e1.then_new ht).trans e2
        exact k _ _ e3 (.tup (hq2.cast rfl) (.cons (.str _) (.cons (h2.to e3) (.cons (hz1.to e3) .nil))))
      cases w with
      | true => exact sq_if0 ⟨_, rfl, p, _, 0, _, rfl, rfl, hq, rfl, C.LISTS.choose, _, rfl, .inr (C.LISTS.choose_spec.2 _), rfl, rfl, _, rfl, iteF fin⟩
      | false => exact sq_if0 ⟨_, rfl, p, _, 0, _, rfl, rfl, hq, rfl, C.LISTS.choose, _, rfl, .inr (C.LISTS.choose_spec.2 _), rfl, rfl, _, rfl, iteF fin⟩
    | _ => cases hi
end
end Ws
/-! ## P03e -/
namespace Ws
open PySem PySem.Spec PyProof.Rows L2 Fo
local macro_rules | `(tactic| walk_at "nf") => `(tactic| dsimp only [tNext, tSeq, tDrop, tRet, tRetN, tIfS, tAsg, gName, gTup, gCons, gNil, tVar, tC, tOp, tUn, rI, rI0, rU, rEq, rNe, tTest, tChain, tAnd, tOr, tNot, tAndV, tOrV, tNotV, tIf, tCB, tCKw, tCons, tNil, tTup, tLst, tCa, tCallS, tB, rIxT, rIxL, rIxS, cxOf, Cx.nox, Cx.wish, Cx.blk, L2.start, tPar, tPar3, tNever, tYes, tBits, tRz, tBM, rAppend, tyV, tXf, suiteEnds, gSub, rSetL, tBreak, rMax, tDGet, sDPut, tSl, tNoPart, tPart, tDisp, tPairs, tDGet2, tDNewK, tAugS, ipI, rGetL, tDIn, tDNotIn, tBM0, rPop])
local macro_rules | `(tactic| walk_at "sx") => `(tactic| simp only [wipe, List.cons.injEq, and_assoc, exists_and_left, and_true, List.map_cons, List.map_nil, List.length_cons, List.length_nil, List.cons_append, List.nil_append, List.append_nil, Nat.reduceAdd, Nat.reduceSub, List.replicate, List.getElem?_cons_zero, List.getElem?_cons_succ, List.set_cons_zero, List.set_cons_succ, Option.some.injEq, V.int.injEq, V.bl.injEq, V.ref.injEq, V.str.injEq, exists_eq_left', exists_eq_left, true_and, Bool.true_eq_false, Bool.false_eq_true, if_true, if_false])

def spLed (n : Nat) (K : PySem.W.Frag) (TG : Addr) (c : Bool) : Sp := fun vs H Q E => ∃ (v : V) (f : Fm), vs = [v] ∧ Dp K H v (fmD f) ∧ okF f = true ∧ dp f ≤ n ∧ sz f ≤ 3000 ∧
  (fitF (inwF f c) = true → ∀ H' u, Same H H' → Dp K H' u (fmD (inwF f c)) → Q u H') ∧ (fitF (inwF f c) = false → OutF K TG "most" (.int (10 ^ 9)) H E)
abbrev s_led_inward : Stmt := top 34
abbrev nm_led_inward : List Str := ["formula", "_", "part"]
abbrev pr_led_inward : List Str := ["formula"]
theorem sc_led_inward : FnScope nm_led_inward pr_led_inward (defScope s_led_inward) := ⟨rfl, rfl, rfl, by decide +kernel, rfl, by decide +kernel, by decide +kernel⟩
abbrev s_contrary : Stmt := top 35
abbrev nm_contrary : List Str := ["formula", "kind", "_", "part"]
abbrev pr_contrary : List Str := ["formula"]
theorem sc_contrary : FnScope nm_contrary pr_contrary (defScope s_contrary) := ⟨rfl, rfl, rfl, by decide +kernel, rfl, by decide +kernel, by decide +kernel⟩
section
variable {P : Program} {w : World} {K : PySem.W.Frag} {mg : Str → Option Value} {base : Heap} {BF TG : Addr}
theorem led0 (D : Dt K mg "led_inward" s_led_inward pr_led_inward) : Df P w K mg base (L2.CX P w) 5 "led_inward" pr_led_inward (spLed 0 K TG false) := by
  refine D.okX sc_led_inward (fun vs H Q E h => ?_) (fun f cdv A outer s H vs Q E hr h => ?_)
  · obtain ⟨v, f, rfl, _⟩ := h
    rfl
  · obtain ⟨v, f, rfl, _, _, h, _⟩ := h
    have := dp_pos f
    omega
theorem con0 (D : Dt K mg "contrary" s_contrary pr_contrary) : Df P w K mg base (L2.CX P w) 5 "contrary" pr_contrary (spLed 0 K TG true) := by
  refine D.okX sc_contrary (fun vs H Q E h => ?_) (fun f cdv A outer s H vs Q E hr h => ?_)
  · obtain ⟨v, f, rfl, _⟩ := h
    rfl
  · obtain ⟨v, f, rfl, _, _, h, _⟩ := h
    have := dp_pos f
    omega
theorem noList_ins {f : Fm} (o : okF f = true) : noListAll ((ins f).map insD) = true := noListAll_of fun x hx => by
  obtain ⟨y, hy, rfl⟩ := List.mem_map.mp hx
  show (noList (intsD y.1) && (noList (fmD y.2) && true)) = true
  rw [noList_ints, noList_fm y.2 (okF_ins o y hy)]
  rfl
theorem ins_sz {f : Fm} : ∀ x ∈ ins f, sz x.2 + 1 ≤ sz f := fun x hx => by
  cases f with
  | bnd w n f =>
    obtain rfl : x = ([2], f) := by simpa [ins] using hx
    simp only [sz]; omega
  | neg f =>
    obtain rfl : x = ([1], f) := by simpa [ins] using hx
    simp only [sz]; omega
  | lst w fs =>
    have h : ∀ (fs : List Fm) (g : Fm), g ∈ fs → sz g ≤ szs fs := fun fs g m => by
      induction fs with
      | nil => cases m
      | cons a fs ih =>
        rw [szs]
        rcases List.mem_cons.mp m with rfl | m
        · omega
        · have := ih m; omega
    have := h fs x.2 (en_snd fs 0 x hx)
    simp only [sz]; omega
  | _ => cases hx
theorem ins_lst_map {α : Type} {w : Bool} {fs : List Fm} {g : Fm → α} : ((ins (.lst w fs)).map fun x => g x.2) = fs.map g := by
  have h : ∀ (fs : List Fm) (i : Nat), ((en i fs).map fun x => g x.2) = fs.map g := fun fs => by
    induction fs with
    | nil => intro i; rfl
    | cons a fs ih => intro i; rw [en, List.map_cons, List.map_cons, ih]
  exact h fs 0
/-- what fits, or what is no value at all -/
def kidD (c : Bool) (x : List Int × Fm) : PyData := if fitF (inwF x.2 c) = true then fmD (inwF x.2 c) else .dict []
/-- the parts of a formula, each driven inward -/
theorem led_kids {n : Nat} {f : Fm} {v : V} {H : Hp} {Q : VK} {E : XK} {σ : L2.St} {i j : Nat} (c : Bool) (hv : σ[0]? = some (some v)) (hσ : ∀ a b, (((wipe σ [i, j]).set i (some a)).set j (some b))[j]? = some (some b) ∧ wipe (((wipe σ [i, j]).set i (some a)).set j (some b)) [i, j] = wipe σ [i, j]) (hd : Dp K H v (fmD f)) (o : okF f = true) (hi : hasIn f = true) (dn : dp f ≤ n + 1) (few : sz f ≤ 3000)
    (k2 : fitFs ((ins f).map fun x => inwF x.2 c) = false → OutF K TG "most" (.int (10 ^ 9)) H E)
    (k : ∀ H' l zs, Same H H' → fitFs ((ins f).map fun x => inwF x.2 c) = true → H' l = some (.lst zs) → DpAll K H' zs (((ins f).map fun x => inwF x.2 c).map fmD) → Q (.ref l) H') :
    tLc (iList K (tCa (spInner K) E0 (tCons (tVar 0) tNil))) (gTup K 2 (gCons (gName i) (gCons (gName j) gNil))) tYes (tCa (spLed n K TG c) E (tCons (tVar j) tNil)) [i, j] σ H Q := by
  have gl := ins_len f
  refine ⟨v, hv, [], v, f, rfl, lsts_nil, by rw [hid_nil]; exact hd, okF_hd o, by omega, fun H1 l ks e1 hl0 hl hks => ?_⟩
  rw [hid_nil] at hks
  have lk := hks.length
  rw [List.length_map] at lk
  refine ⟨l, rfl, ⟨ks, .of hl⟩, fun D hD => lcH (K := K) (S := []) walk_list hD (slt (by omega)) lsts_nil (fun t => kidD c ((ins f).getD t default)) (fun H2 e => .of (e _ _ hl)) (fun t x H2 H3 Q1 ht e2 ls y q1 => ?_) (fun H2 ys e2 hy hn ha => ?_)⟩
  · obtain ⟨rfl, hx⟩ := y
    obtain ⟨d0, hd0, hdx⟩ := hks.getV hx
    rw [List.getElem?_map] at hd0
    obtain ⟨y0, hy0, rfl⟩ : ∃ y0, (ins f)[t]? = some y0 ∧ insD y0 = d0 := by
      cases e : (ins f)[t]? with
      | none => rw [e] at hd0; cases hd0
      | some y0 => rw [e] at hd0; exact ⟨y0, rfl, by simpa using hd0⟩
    obtain ⟨st, g⟩ := y0
    have hm := List.mem_of_getElem? hy0
    obtain ⟨T2, stv, pv, rfl, hT2, hst, hpv⟩ := Dp.two (show Dp K H1 x (.tuple [intsD st, fmD g]) from hdx)
    refine ⟨T2, _, rfl, e2.seqT hT2, rfl, _, _, rfl, _, _, rfl, rfl, (hσ stv pv).2, pv, (hσ stv pv).1, pv, g, rfl, hpv.to e2, okF_ins o _ hm, by have h1 : dp g + 1 ≤ dp f := ins_dp _ hm; omega, by have h1 : sz g + 1 ≤ sz f := ins_sz _ hm; omega, fun ft H4 u e4 hu => q1 u H4 e4 ?_, fun ft => ?_⟩
    · have ek : kidD c ((ins f).getD t default) = fmD (inwF g c) := by
        rw [List.getD_eq_getElem?_getD, hy0]
        exact if_pos ft
      rw [ek]
      exact Dp.hid (lsts_to ls e4) _ _ (noList_fm _ (okF_inw _ _ (okF_ins o _ hm) ft)) hu
    · refine (k2 ?_).to (e1.trans e2)
      rw [fitFs_all, List.all_eq_false]
      exact ⟨_, List.mem_map.mpr ⟨_, hm, rfl⟩, by rw [ft]; simp⟩
  · rw [hid_nil] at ha
    have all : ∀ x ∈ ins f, fitF (inwF x.2 c) = true := fun x hx => by
      cases ft : fitF (inwF x.2 c) with
      | true => rfl
      | false =>
        obtain ⟨t, ht⟩ := List.mem_iff_getElem?.mp hx
        have htl := (List.getElem?_eq_some_iff.mp ht).1
        obtain ⟨y, _, hy2⟩ := ha.get (i := t) (d := .dict []) (by
          rw [List.getElem?_map, List.getElem?_range (by omega)]
          show some (kidD c ((ins f).getD t default)) = _
          rw [List.getD_eq_getElem?_getD, ht]
          congr 1
          exact if_neg (by rw [show (some x).getD default = x from rfl, ft]; simp))
        cases hy2
    refine k H2 D ys (e1.trans e2) ?_ hy ?_
    · rw [fitFs_all, List.all_eq_true]
      intro g hg
      obtain ⟨x, hx, rfl⟩ := List.mem_map.mp hg
      exact all x hx
    · have el : (List.range ks.length).map (fun t => kidD c ((ins f).getD t default)) = ((ins f).map fun x => inwF x.2 c).map fmD := by
        rw [lk, by_places (ins f) default (kidD c), List.map_map]
        exact List.map_congr_left fun x hx => if_pos (all x hx)
      rw [← el]
      exact ha
theorem ok_led {n : Nat} (C : Cs3 K w mg) (F1 : Df P w K mg base (L2.CX P w) (5 + n) "led_inward" pr_led_inward (spLed n K TG false)) (F2 : Df P w K mg base (L2.CX P w) (5 + n) "contrary" pr_contrary (spLed n K TG true))
    (F3 : Df P w K mg base CX0 1 "inner" pr_inner (spInner K)) (F4 : Df P w K mg base CX0 1 "rebuilt" pr_rebuilt (spRebuilt K)) (D : Dt K mg "led_inward" s_led_inward pr_led_inward) :
    Df P w K mg base (L2.CX P w) (5 + (n + 1)) "led_inward" pr_led_inward (spLed (n + 1) K TG false) := by
  refine D.okX sc_led_inward (fun vs H Q E h => ?_) (fun f cdv A outer s H vs Q E hr h => ?_)
  · obtain ⟨v, f, rfl, _⟩ := h
    rfl
  · obtain ⟨v, f, rfl, hd, o, dn, few, k1, k2⟩ := h
    refine ⟨_, (pss_cons (ps_if (pt_cmpR op_in_seq (pe_ix ix_tup (pv 0) pe_int (fun _ _ => rfl)) (pe_glob (v := .ref C.ATOMS.choose) rfl C.ATOMS.choose_spec.1 rfl) (by rfl)) (pss_one (ps_ret (pv 0))) pss_nil) (pss_cons (ps_if (pt_cmpR op_eq (pe_ix ix_tup (pv 0) pe_int (fun _ _ => rfl)) pe_str (nomark _)) (pss_one (ps_ret (pe_f (E := E) F2 (hr.mono (by show _ ≤ 5 + n; omega)) (passes_call (takes_of rfl rfl rfl rfl) fun _ _ _ _ h => h) (pa_cons (pe_ix ix_tup (pv 0) pe_int (fun _ _ => rfl)) pa_nil)))) pss_nil) (pss_one (ps_ret (pe_f F4 (hr.mono (by show _ ≤ 5 + n; omega)) pass0 (pa_cons (pv 0) (pa_cons (pe_lcX (own := [("_", 1), ("part", 2)]) (g := gTup K 2 (gCons (gName 1) (gCons (gName 2) gNil))) (tt := tYes) rfl rfl (takes_of rfl rfl rfl rfl) (by rfl) sc_led_inward.nd (pi_list (pe_f F3 (hr.mono (by show _ ≤ 5 + n; omega)) pass0 (pa_cons (pv 0) pa_nil))) (blkOk_by (own := [("_", 1), ("part", 2)]) (N := nm_led_inward) (sc := defScope s_led_inward) (by decide +kernel)) (fun _ _ _ _ _ => pg_tup rfl (pgs_cons (pg_name (i := 1) sc_led_inward.nd rfl (Or.inl rfl)) (pgs_cons (pg_name (i := 2) sc_led_inward.nd rfl (Or.inl rfl)) pgs_nil))) (fun _ _ _ _ _ => pts_nil) (fun _ _ _ _ _ _ _ ps => (pe_f (E := E) F1 (hr.mono (by show _ ≤ 5 + n; omega)) ps (pa_cons (pv 2) pa_nil)))) pa_nil))))))), ?_⟩
    dsimp only [cxOf, L2.start]
    cases f with
    | bad k => cases o
    | ge k ps =>
      obtain ⟨p, x, y, rfl, hq, h1, h2⟩ := Dp.two (show Dp K H v (.tuple [.str "ge", tmD k ps]) from hd)
      cases h1
      exact sq_if0 ⟨_, rfl, p, _, 0, _, rfl, rfl, hq, rfl, C.ATOMS.choose, _, rfl, .inr (C.ATOMS.choose_spec.2 _), rfl, rfl, _, rfl, iteT ⟨_, rfl, k1 (ok_fitC o) _ _ (Same.refl _) hd⟩⟩
    | eq k ps =>
      obtain ⟨p, x, y, rfl, hq, h1, h2⟩ := Dp.two (show Dp K H v (.tuple [.str "eq", tmD k ps]) from hd)
      cases h1
      exact sq_if0 ⟨_, rfl, p, _, 0, _, rfl, rfl, hq, rfl, C.ATOMS.choose, _, rfl, .inr (C.ATOMS.choose_spec.2 _), rfl, rfl, _, rfl, iteT ⟨_, rfl, k1 (ok_fitC o) _ _ (Same.refl _) hd⟩⟩
    | mod m k ps =>
      obtain ⟨p, zs0, rfl, hq, ha⟩ := (show Dp K H v (.tuple [.str "mod", .int m, tmD k ps]) from hd).tup_inv
      obtain ⟨x, y, z0, rfl, h1, h2, h3⟩ := ha.three
      cases h1
      exact sq_if0 ⟨_, rfl, p, _, 0, _, rfl, rfl, hq, rfl, C.ATOMS.choose, _, rfl, .inr (C.ATOMS.choose_spec.2 _), rfl, rfl, _, rfl, iteT ⟨_, rfl, k1 (okF_fit _ o) _ _ (Same.refl _) hd⟩⟩
    | neg g =>
      obtain ⟨p, x, y, rfl, hq, h1, h2⟩ := Dp.two (show Dp K H v (.tuple [.str "not", fmD g]) from hd)
      cases h1
      have dg : dp g ≤ n := by simp only [dp] at dn; omega
      have sg : sz g ≤ 3000 := by simp only [sz] at few; omega
      refine sq_if0 ⟨_, rfl, p, _, 0, _, rfl, rfl, hq, rfl, C.ATOMS.choose, _, rfl, .inr (C.ATOMS.choose_spec.2 _), rfl, rfl, _, rfl, iteF ?_⟩
      exact sq_if0 ⟨_, rfl, p, _, 0, _, rfl, rfl, hq, rfl, rfl, _, rfl, iteT ⟨_, rfl, p, _, 1, _, rfl, rfl, hq, rfl, y, g, rfl, h2, o, dg, sg, k1, k2⟩⟩
    | lst w fs =>
      obtain ⟨p, x, y, rfl, hq, h1, h2⟩ := Dp.two (show Dp K H v (.tuple [.str (lw w), .tuple (fmDs fs)]) from hd)
      cases h1
      have ek : ((ins (.lst w fs)).map fun x => inwF x.2 false) = inwFs fs false := (ins_lst_map (g := fun x => inwF x false)).trans (inwFs_map false fs).symm
      have fin : tRet (tCa (spRebuilt K) E0 (tCons (tVar 0) (tCons (tLc (iList K (tCa (spInner K) E0 (tCons (tVar 0) tNil))) (gTup K 2 (gCons (gName 1) (gCons (gName 2) gNil))) tYes (tCa (spLed n K TG false) E (tCons (tVar 2) tNil)) [1, 2]) tNil))) { nx := fun _ H' => Q .non H', rt := Q } [some (.ref p), none, none] H := by
        refine ⟨_, rfl, led_kids false rfl (fun a b => ⟨rfl, rfl⟩) hd o rfl dn few (fun ft => k2 (by rw [ek] at ft; exact ft)) fun H1 l zs e1 ft hl hz => ?_⟩
        rw [ek] at ft hz
        have og : okFs (inwFs fs false) = true := okFs_inw fs false o ft
        refine ⟨.ref p, l, .lst w fs, inwFs fs false, zs, rfl, hd.to e1, rfl, hl, hz, og, ?_, ?_, fun H2 u e2 hu => k1 ft _ _ (e1.trans e2) hu⟩
        · rw [inwFs_map, List.length_map]; exact (en_len fs 0).symm
        · have := szs_len fs
          simp only [sz] at few
          rw [inwFs_map, List.length_map]; omega
      cases w with
      | true => exact sq_if0 ⟨_, rfl, p, _, 0, _, rfl, rfl, hq, rfl, C.ATOMS.choose, _, rfl, .inr (C.ATOMS.choose_spec.2 _), rfl, rfl, _, rfl, iteF (sq_if0 ⟨_, rfl, p, _, 0, _, rfl, rfl, hq, rfl, rfl, _, rfl, iteF fin⟩)⟩
      | false => exact sq_if0 ⟨_, rfl, p, _, 0, _, rfl, rfl, hq, rfl, C.ATOMS.choose, _, rfl, .inr (C.ATOMS.choose_spec.2 _), rfl, rfl, _, rfl, iteF (sq_if0 ⟨_, rfl, p, _, 0, _, rfl, rfl, hq, rfl, rfl, _, rfl, iteF fin⟩)⟩
    | bnd w m g =>
      obtain ⟨p, zs0, rfl, hq, ha⟩ := (show Dp K H v (.tuple [.str (bw w), .int m, fmD g]) from hd).tup_inv
      obtain ⟨x, y, z0, rfl, h1, h2, h3⟩ := ha.three
      cases h1
      have fin : tRet (tCa (spRebuilt K) E0 (tCons (tVar 0) (tCons (tLc (iList K (tCa (spInner K) E0 (tCons (tVar 0) tNil))) (gTup K 2 (gCons (gName 1) (gCons (gName 2) gNil))) tYes (tCa (spLed n K TG false) E (tCons (tVar 2) tNil)) [1, 2]) tNil))) { nx := fun _ H' => Q .non H', rt := Q } [some (.ref p), none, none] H := by
        refine ⟨_, rfl, led_kids false rfl (fun a b => ⟨rfl, rfl⟩) hd o rfl dn few (fun ft => k2 (show fitF (inwF g false) = false from by simpa [ins, fitFs] using ft)) fun H1 l zs e1 ft hl hz => ?_⟩
        have ft : fitF (inwF g false) = true := by simpa [ins, fitFs] using ft
        have og : okF (inwF g false) = true := okF_inw g false (by simp only [okF, Bool.and_eq_true] at o; exact o.2) ft
        exact ⟨.ref p, l, .bnd w m g, [inwF g false], zs, rfl, hd.to e1, rfl, hl, hz, by simp only [okFs, og]; rfl, rfl, by simp, fun H2 u e2 hu => k1 ft _ _ (e1.trans e2) hu⟩
      cases w with
      | true => exact sq_if0 ⟨_, rfl, p, _, 0, _, rfl, rfl, hq, rfl, C.ATOMS.choose, _, rfl, .inr (C.ATOMS.choose_spec.2 _), rfl, rfl, _, rfl, iteF (sq_if0 ⟨_, rfl, p, _, 0, _, rfl, rfl, hq, rfl, rfl, _, rfl, iteF fin⟩)⟩
      | false => exact sq_if0 ⟨_, rfl, p, _, 0, _, rfl, rfl, hq, rfl, C.ATOMS.choose, _, rfl, .inr (C.ATOMS.choose_spec.2 _), rfl, rfl, _, rfl, iteF (sq_if0 ⟨_, rfl, p, _, 0, _, rfl, rfl, hq, rfl, rfl, _, rfl, iteF fin⟩)⟩
theorem ok_con {n : Nat} (C : Cs3 K w mg) (F1 : Df P w K mg base (L2.CX P w) (5 + n) "led_inward" pr_led_inward (spLed n K TG false)) (F2 : Df P w K mg base (L2.CX P w) (5 + n) "contrary" pr_contrary (spLed n K TG true))
    (F3 : Df P w K mg base CX0 1 "inner" pr_inner (spInner K)) (F4 : Df P w K mg base CX0 1 "rebuilt" pr_rebuilt (spRebuilt K)) (F5 : Df P w K mg base (L2.CX P w) 4 "moved" pr_moved (spMoved K TG)) (D : Dt K mg "contrary" s_contrary pr_contrary) :
    Df P w K mg base (L2.CX P w) (5 + (n + 1)) "contrary" pr_contrary (spLed (n + 1) K TG true) := by
  refine D.okX sc_contrary (fun vs H Q E h => ?_) (fun f cdv A outer s H vs Q E hr h => ?_)
  · obtain ⟨v, f, rfl, _⟩ := h
    rfl
  · obtain ⟨v, f, rfl, hd, o, dn, few, k1, k2⟩ := h
    refine ⟨_, (pss_cons (ps_set (i := 1) sc_contrary.nd rfl (Or.inl rfl) (pe_ix ix_tup (pv 0) pe_int (fun _ _ => rfl))) (pss_cons (ps_if (pt_cmpR op_eq (pv 1) pe_str (nomark _)) (pss_one (ps_ret (pe_tup (pa_cons pe_str (pa_cons (pe_f (E := E) F5 (hr.mono (by show _ ≤ 5 + n; omega)) (passes_call (takes_of rfl rfl rfl rfl) fun _ _ _ _ h => h) (pa_cons (pe_ix ix_tup (pv 0) pe_int (fun _ _ => rfl)) (pa_cons (pe_un un_neg pe_int) (pa_cons (pe_un un_neg pe_int) pa_nil)))) pa_nil))))) pss_nil) (pss_cons (ps_if (pt_cmpR op_eq (pv 1) pe_str (nomark _)) (pss_one (ps_ret (pe_tup (pa_cons pe_str (pa_cons (pe_tup (pa_cons (pe_tup (pa_cons pe_str (pa_cons (pe_f (E := E) F5 (hr.mono (by show _ ≤ 5 + n; omega)) (passes_call (takes_of rfl rfl rfl rfl) fun _ _ _ _ h => h) (pa_cons (pe_ix ix_tup (pv 0) pe_int (fun _ _ => rfl)) (pa_cons pe_int (pa_cons (pe_un un_neg pe_int) pa_nil)))) pa_nil))) (pa_cons (pe_tup (pa_cons pe_str (pa_cons (pe_f (E := E) F5 (hr.mono (by show _ ≤ 5 + n; omega)) (passes_call (takes_of rfl rfl rfl rfl) fun _ _ _ _ h => h) (pa_cons (pe_ix ix_tup (pv 0) pe_int (fun _ _ => rfl)) (pa_cons (pe_un un_neg pe_int) (pa_cons (pe_un un_neg pe_int) pa_nil)))) pa_nil))) pa_nil))) pa_nil))))) pss_nil) (pss_cons (ps_if (pt_cmpR op_eq (pv 1) pe_str (nomark _)) (pss_one (ps_ret (pe_tup (pa_cons pe_str (pa_cons (pv 0) pa_nil))))) pss_nil) (pss_cons (ps_if (pt_cmpR op_eq (pv 1) pe_str (nomark _)) (pss_one (ps_ret (pe_f (E := E) F1 (hr.mono (by show _ ≤ 5 + n; omega)) (passes_call (takes_of rfl rfl rfl rfl) fun _ _ _ _ h => h) (pa_cons (pe_ix ix_tup (pv 0) pe_int (fun _ _ => rfl)) pa_nil)))) pss_nil) (pss_one (ps_ret (pe_op (show OpR _ _ (rCatZ K) from op_catZ) (pe_tup (pa_cons (pe_ix ix_kdict (pe_glob (v := .ref C.CONTRARY.choose) rfl C.CONTRARY.choose_spec.1 rfl) (pv 1) (fun _ _ => rfl)) pa_nil)) (pe_slice sl_tupZ (pe_f F4 (hr.mono (by show _ ≤ 5 + n; omega)) pass0 (pa_cons (pv 0) (pa_cons (pe_lcX (own := [("_", 2), ("part", 3)]) (g := gTup K 2 (gCons (gName 2) (gCons (gName 3) gNil))) (tt := tYes) rfl rfl (takes_of rfl rfl rfl rfl) (by rfl) sc_contrary.nd (pi_list (pe_f F3 (hr.mono (by show _ ≤ 5 + n; omega)) pass0 (pa_cons (pv 0) pa_nil))) (blkOk_by (own := [("_", 2), ("part", 3)]) (N := nm_contrary) (sc := defScope s_contrary) (by decide +kernel)) (fun _ _ _ _ _ => pg_tup rfl (pgs_cons (pg_name (i := 2) sc_contrary.nd rfl (Or.inl rfl)) (pgs_cons (pg_name (i := 3) sc_contrary.nd rfl (Or.inl rfl)) pgs_nil))) (fun _ _ _ _ _ => pts_nil) (fun _ _ _ _ _ _ _ ps => (pe_f (E := E) F2 (hr.mono (by show _ ≤ 5 + n; omega)) ps (pa_cons (pv 3) pa_nil)))) pa_nil))) (po_some pe_int) po_none))))))))), ?_⟩
    dsimp only [cxOf, L2.start]
    cases f with
    | bad k => cases o
    | ge k ps =>
      obtain ⟨p, x, y, rfl, hq, h1, h2⟩ := Dp.two (show Dp K H v (.tuple [.str "ge", tmD k ps]) from hd)
      cases h1
      have ek : -1 * k + -1 = -1 - k := by omega
      refine sq_go ⟨_, rfl, p, _, 0, _, rfl, rfl, hq, rfl, sq_if0 ⟨_, rfl, rfl, _, rfl, iteT ?_⟩⟩
      refine ⟨_, rfl, p, _, 1, _, rfl, rfl, hq, rfl, _, rfl, _, rfl, y, k, -1, -1, ps, rfl, h2, isTm_ok o, .inr rfl, fun ft H1 u e1 hu => ⟨Nat.le_of_ble_eq_true rfl, fun t ht => ?_⟩, fun ft => ?_⟩
      · rw [ek] at ft hu
        exact k1 ft _ _ (e1.then_new ht) (.tup (.of upd_same) (.cons (.str _) (.cons (hu.to (Same.new ht)) .nil)))
      · rw [ek] at ft
        exact k2 ft
    | eq k ps =>
      obtain ⟨p, x, y, rfl, hq, h1, h2⟩ := Dp.two (show Dp K H v (.tuple [.str "eq", tmD k ps]) from hd)
      cases h1
      have ek : -1 * k + -1 = -1 - k := by omega
      have ek1 : 1 * k + -1 = k - 1 := by omega
      have ft0 : fitF (inwF (.eq k ps) true) = (fitC (k - 1) && fitC (-1 - k)) := by simp [inwF, fitF, fitFs]
      rw [ft0] at k1 k2
      refine sq_go ⟨_, rfl, p, _, 0, _, rfl, rfl, hq, rfl, sq_if0 ⟨_, rfl, rfl, _, rfl, iteF (sq_if0 ⟨_, rfl, rfl, _, rfl, iteT ?_⟩)⟩⟩
      refine ⟨_, rfl, p, _, 1, _, rfl, rfl, hq, rfl, _, rfl, y, k, 1, -1, ps, rfl, h2, isTm_ok o, .inl rfl, fun ft H1 u e1 hu => ⟨Nat.le_of_ble_eq_true rfl, fun t ht => ?_⟩, fun ft => ?_⟩
      · rw [ek1] at ft hu
        have e2 : Same H (upd H1 t (HO.tup [V.str "ge", u])) := e1.then_new ht
        have ha2 : Dp K (upd H1 t (HO.tup [V.str "ge", u])) (.ref t) (fmD (.ge (k - 1) ps)) := .tup (.of upd_same) (.cons (.str _) (.cons (hu.to (Same.new ht)) .nil))
        refine ⟨_, rfl, p, _, 1, _, rfl, rfl, e2.seqT hq, rfl, _, rfl, _, rfl, y, k, -1, -1, ps, rfl, h2.to e2, isTm_ok o, .inr rfl, fun ft2 H3 u3 e3 hu3 => ⟨Nat.le_of_ble_eq_true rfl, fun t4 ht4 => ⟨Nat.le_of_ble_eq_true rfl, fun t5 ht5 => ⟨Nat.le_of_ble_eq_true rfl, fun t6 ht6 => ?_⟩⟩⟩, fun ft2 => ?_⟩
        · rw [ek] at ft2 hu3
          have e4 := e3.then_new (o := HO.tup [V.str "ge", u3]) ht4
          have hb4 : Dp K (upd H3 t4 (HO.tup [V.str "ge", u3])) (.ref t4) (fmD (.ge (-1 - k) (negP ps))) := .tup (.of upd_same) (.cons (.str _) (.cons (hu3.to (Same.new ht4)) .nil))
          have e56 := (Same.new (o := HO.tup [V.ref t, V.ref t4]) ht5).then_new (o := HO.tup [V.str "or", V.ref t5]) ht6
          refine k1 (by rw [ft, ft2]; rfl) _ _ ((e2.trans e4).trans e56) (.tup (.of upd_same) (.cons (.str _) (.cons (.tup (xs := [.ref t, .ref t4]) (.of ?_) (.cons ((ha2.to e4).to e56) (.cons (hb4.to e56) .nil))) .nil)))
          rw [upd_ne (ne_of_none upd_same ht6)]
          exact upd_same
        · rw [ek] at ft2
          exact (k2 (by rw [ft, ft2]; rfl)).to e2
      · rw [ek1] at ft
        exact k2 (by rw [ft]; rfl)
    | mod m k ps =>
      obtain ⟨p, zs0, rfl, hq, ha⟩ := (show Dp K H v (.tuple [.str "mod", .int m, tmD k ps]) from hd).tup_inv
      obtain ⟨x, y, z0, rfl, h1, h2, h3⟩ := ha.three
      cases h1
      refine sq_go ⟨_, rfl, p, _, 0, _, rfl, rfl, hq, rfl, sq_if0 ⟨_, rfl, rfl, _, rfl, iteF (sq_if0 ⟨_, rfl, rfl, _, rfl, iteF (sq_if0 ⟨_, rfl, rfl, _, rfl, iteT ?_⟩)⟩)⟩⟩
      refine ⟨_, rfl, Nat.le_of_ble_eq_true rfl, fun t ht => k1 (okF_fit _ o) _ _ (Same.new ht) (.tup (.of upd_same) (.cons (.str _) (.cons (hd.to (Same.new ht)) .nil)))⟩
    | neg g =>
      obtain ⟨p, x, y, rfl, hq, h1, h2⟩ := Dp.two (show Dp K H v (.tuple [.str "not", fmD g]) from hd)
      cases h1
      have dg : dp g ≤ n := by simp only [dp] at dn; omega
      have sg : sz g ≤ 3000 := by simp only [sz] at few; omega
      refine sq_go ⟨_, rfl, p, _, 0, _, rfl, rfl, hq, rfl, sq_if0 ⟨_, rfl, rfl, _, rfl, iteF (sq_if0 ⟨_, rfl, rfl, _, rfl, iteF (sq_if0 ⟨_, rfl, rfl, _, rfl, iteF (sq_if0 ⟨_, rfl, rfl, _, rfl, iteT ?_⟩)⟩)⟩)⟩⟩
      exact ⟨_, rfl, p, _, 1, _, rfl, rfl, hq, rfl, y, g, rfl, h2, o, dg, sg, k1, k2⟩
    | lst w fs =>
      obtain ⟨p, x, y, rfl, hq, h1, h2⟩ := Dp.two (show Dp K H v (.tuple [.str (lw w), .tuple (fmDs fs)]) from hd)
      cases h1
      have ek : ((ins (.lst w fs)).map fun x => inwF x.2 true) = inwFs fs true := (ins_lst_map (g := fun x => inwF x true)).trans (inwFs_map true fs).symm
      have fin : ∀ (t : Addr), H t = none → tSl (rSlZ K) (tCa (spRebuilt K) E0 (tCons (tVar 0) (tCons (tLc (iList K (tCa (spInner K) E0 (tCons (tVar 0) tNil))) (gTup K 2 (gCons (gName 2) (gCons (gName 3) gNil))) tYes (tCa (spLed n K TG true) E (tCons (tVar 3) tNil)) [2, 3]) tNil))) (tPart (tC (V.int 1))) tNoPart [some (.ref p), some (.str (lw w)), none, none] (upd H t (HO.tup [.str (lw (!w))]))
          fun x H1 => rCatZ K (.ref t) x H1 Q := fun t ht => by
        have e0 : Same H (upd H t (HO.tup [.str (lw (!w))])) := Same.new ht
        refine ⟨_, rfl, led_kids true rfl (fun a b => ⟨rfl, rfl⟩) (hd.to e0) o rfl dn few (fun ft => (k2 (by rw [ek] at ft; exact ft)).to e0) fun H1 l zs e1 ft hl hz => ?_⟩
        rw [ek] at ft hz
        have og : okFs (inwFs fs true) = true := okFs_inw fs true o ft
        refine ⟨.ref p, l, .lst w fs, inwFs fs true, zs, rfl, (hd.to e0).to e1, rfl, hl, hz, og, ?_, ?_, fun H2 u e2 hu => ?_⟩
        · rw [inwFs_map, List.length_map]; exact (en_len fs 0).symm
        · have := szs_len fs
          simp only [sz] at few
          rw [inwFs_map, List.length_map]; omega
        obtain ⟨p2, x2, y2, rfl, hq2, h12, h22⟩ := Dp.two (show Dp K H2 u (.tuple [.str (lw w), .tuple (fmDs (inwFs fs true))]) from hu)
        have ht2 := e2 _ _ (e1 _ _ (show upd H t (HO.tup [.str (lw (!w))]) t = _ from upd_same))
        refine ⟨1, rfl, p2, _, rfl, hq2, fun H3 q e3 hq3 => ⟨t, q, _, _, rfl, rfl, .of (e3 _ _ ht2), hq3, Nat.le_of_ble_eq_true rfl, fun H4 r e4 hr4 => ?_⟩⟩
        exact k1 ft _ _ ((((e0.trans e1).trans e2).trans e3).trans e4) (.tup (hr4.cast rfl) (.cons (.str _) (.cons (h22.to (e3.trans e4)) .nil)))
      cases w with
      | true => exact sq_go ⟨_, rfl, p, _, 0, _, rfl, rfl, hq, rfl, sq_if0 ⟨_, rfl, rfl, _, rfl, iteF (sq_if0 ⟨_, rfl, rfl, _, rfl, iteF (sq_if0 ⟨_, rfl, rfl, _, rfl, iteF (sq_if0 ⟨_, rfl, rfl, _, rfl, iteF ⟨_, rfl, C.CONTRARY.choose, _, _, rfl, rfl, C.CONTRARY.choose_spec.2.1, Nat.le_of_ble_eq_true rfl, fun t ht => fin t ht⟩⟩)⟩)⟩)⟩⟩
      | false => exact sq_go ⟨_, rfl, p, _, 0, _, rfl, rfl, hq, rfl, sq_if0 ⟨_, rfl, rfl, _, rfl, iteF (sq_if0 ⟨_, rfl, rfl, _, rfl, iteF (sq_if0 ⟨_, rfl, rfl, _, rfl, iteF (sq_if0 ⟨_, rfl, rfl, _, rfl, iteF ⟨_, rfl, C.CONTRARY.choose, _, _, rfl, rfl, C.CONTRARY.choose_spec.2.2.1, Nat.le_of_ble_eq_true rfl, fun t ht => fin t ht⟩⟩)⟩)⟩)⟩⟩
    | bnd w m g =>
      obtain ⟨p, zs0, rfl, hq, ha⟩ := (show Dp K H v (.tuple [.str (bw w), .int m, fmD g]) from hd).tup_inv
      obtain ⟨x, y, z0, rfl, h1, h2, h3⟩ := ha.three
      cases h1
      have fin : ∀ (t : Addr), H t = none → tSl (rSlZ K) (tCa (spRebuilt K) E0 (tCons (tVar 0) (tCons (tLc (iList K (tCa (spInner K) E0 (tCons (tVar 0) tNil))) (gTup K 2 (gCons (gName 2) (gCons (gName 3) gNil))) tYes (tCa (spLed n K TG true) E (tCons (tVar 3) tNil)) [2, 3]) tNil))) (tPart (tC (V.int 1))) tNoPart [some (.ref p), some (.str (bw w)), none, none] (upd H t (HO.tup [.str (bw (!w))]))
          fun x H1 => rCatZ K (.ref t) x H1 Q := fun t ht => by
        have e0 : Same H (upd H t (HO.tup [.str (bw (!w))])) := Same.new ht
        refine ⟨_, rfl, led_kids true rfl (fun a b => ⟨rfl, rfl⟩) (hd.to e0) o rfl dn few (fun ft => (k2 (show fitF (inwF g true) = false from by simpa [ins, fitFs] using ft)).to e0) fun H1 l zs e1 ft hl hz => ?_⟩
        have ft : fitF (inwF g true) = true := by simpa [ins, fitFs] using ft
        have og : okF (inwF g true) = true := okF_inw g true (by simp only [okF, Bool.and_eq_true] at o; exact o.2) ft
        refine ⟨.ref p, l, .bnd w m g, [inwF g true], zs, rfl, (hd.to e0).to e1, rfl, hl, hz, by simp only [okFs, og]; rfl, rfl, by simp, fun H2 u e2 hu => ?_⟩
        obtain ⟨p2, zs2, rfl, hq2, ha2⟩ := (show Dp K H2 u (.tuple [.str (bw w), .int m, fmD (inwF g true)]) from hu).tup_inv
        obtain ⟨x2, y2, z2, rfl, h12, h22, h32⟩ := ha2.three
        have ht2 := e2 _ _ (e1 _ _ (show upd H t (HO.tup [.str (bw (!w))]) t = _ from upd_same))
        refine ⟨1, rfl, p2, _, rfl, hq2, fun H3 q e3 hq3 => ⟨t, q, _, _, rfl, rfl, .of (e3 _ _ ht2), hq3, Nat.le_of_ble_eq_true rfl, fun H4 r e4 hr4 => ?_⟩⟩
        exact k1 ft _ _ ((((e0.trans e1).trans e2).trans e3).trans e4) (.tup (hr4.cast rfl) (.cons (.str _) (.cons (h22.to (e3.trans e4)) (.cons (h32.to (e3.trans e4)) .nil))))
      cases w with
      | true => exact sq_go ⟨_, rfl, p, _, 0, _, rfl, rfl, hq, rfl, sq_if0 ⟨_, rfl, rfl, _, rfl, iteF (sq_if0 ⟨_, rfl, rfl, _, rfl, iteF (sq_if0 ⟨_, rfl, rfl, _, rfl, iteF (sq_if0 ⟨_, rfl, rfl, _, rfl, iteF ⟨_, rfl, C.CONTRARY.choose, _, _, rfl, rfl, C.CONTRARY.choose_spec.2.2.2.1, Nat.le_of_ble_eq_true rfl, fun t ht => fin t ht⟩⟩)⟩)⟩)⟩⟩
      | false => exact sq_go ⟨_, rfl, p, _, 0, _, rfl, rfl, hq, rfl, sq_if0 ⟨_, rfl, rfl, _, rfl, iteF (sq_if0 ⟨_, rfl, rfl, _, rfl, iteF (sq_if0 ⟨_, rfl, rfl, _, rfl, iteF (sq_if0 ⟨_, rfl, rfl, _, rfl, iteF ⟨_, rfl, C.CONTRARY.choose, _, _, rfl, rfl, C.CONTRARY.choose_spec.2.2.2.2, Nat.le_of_ble_eq_true rfl, fun t ht => fin t ht⟩⟩)⟩)⟩)⟩⟩
end
end Ws
/-! ## P03f -/
namespace Ws
open PySem PySem.Spec PyProof.Rows L2 Fo
local macro_rules | `(tactic| walk_at "nf") => `(tactic| dsimp only [tNext, tSeq, tDrop, tRet, tRetN, tIfS, tAsg, gName, gTup, gCons, gNil, tVar, tC, tOp, tUn, rI, rI0, rU, rEq, rNe, tTest, tChain, tAnd, tOr, tNot, tAndV, tOrV, tNotV, tIf, tCB, tCKw, tCons, tNil, tTup, tLst, tCa, tCallS, tB, rIxT, rIxL, rIxS, cxOf, Cx.nox, Cx.wish, Cx.blk, L2.start, tPar, tPar3, tNever, tYes, tBits, tRz, tBM, rAppend, tyV, tXf, suiteEnds, gSub, rSetL, tBreak, rMax, tDGet, sDPut, tSl, tNoPart, tPart, tDisp, tPairs, tDGet2, tDNewK, tAugS, ipI, rGetL, tDIn, tDNotIn, tBM0, rPop])
local macro_rules | `(tactic| walk_at "sx") => `(tactic| simp only [wipe, List.cons.injEq, and_assoc, exists_and_left, and_true, List.map_cons, List.map_nil, List.length_cons, List.length_nil, List.cons_append, List.nil_append, List.append_nil, Nat.reduceAdd, Nat.reduceSub, List.replicate, List.getElem?_cons_zero, List.getElem?_cons_succ, List.set_cons_zero, List.set_cons_succ, Option.some.injEq, V.int.injEq, V.bl.injEq, V.ref.injEq, V.str.injEq, exists_eq_left', exists_eq_left, true_and, Bool.true_eq_false, Bool.false_eq_true, if_true, if_false])

def pwD (x : Wi) : PyData := .tuple [intsD x.1, fmD x.2.2]
theorem noList_pw {f : Fm} (o : okF f = true) {p : List Int} {d : Nat} : noList (pwD (p, d, f)) = true := by
  show (noList (intsD p) && (noList (fmD f) && true)) = true
  rw [noList_ints, noList_fm f o]
  rfl
def spWalked (K : PySem.W.Frag) : Sp := fun vs H Q _ => ∃ (v : V) (f : Fm), vs = [v] ∧ Dp K H v (fmD f) ∧ okF f = true ∧ sz f ≤ 3000 ∧ dp f ≤ 100 ∧ ∀ H' l zs, Same H H' → H l = none → H' l = some (.lst zs) → DpAll K H' zs ((wk [] 1 f).map pwD) → Q (.ref l) H'
abbrev s_walked : Stmt := top 22
abbrev nm_walked : List Str := ["formula", "found", "waiting", "path", "part", "steps", "each"]
abbrev pr_walked : List Str := ["formula"]
theorem sc_walked : FnScope nm_walked pr_walked (defScope s_walked) := ⟨rfl, rfl, rfl, by decide +kernel, rfl, by decide +kernel, by decide +kernel⟩
/-- the lists of walked -/
structure WkI (K : PySem.W.Frag) (H H' : Hp) (F L : Addr) (Dn S : List Wi) : Prop where
  same : Same H H'
  ne : F ≠ L
  no : ∀ x ∈ Dn ++ S, noList (pwD x) = true
  fd : ∃ ws, H' F = some (.lst ws) ∧ DpAll K H' ws (Dn.map pwD)
  wt : ∃ zs, H' L = some (.lst zs) ∧ DpAll K H' zs (S.map pwD)
section
variable {K : PySem.W.Frag} {H H1 : Hp} {F L : Addr} {Dn S : List Wi} {x : Wi}
theorem WkI.to {H2 : Hp} (h : WkI K H H1 F L Dn S) (e : Same H1 H2) : WkI K H H2 F L Dn S := by
  obtain ⟨ws, w1, w2⟩ := h.fd
  obtain ⟨zs, z1, z2⟩ := h.wt
  exact ⟨h.same.trans e, h.ne, h.no, ⟨ws, e _ _ w1, w2.to e⟩, zs, e _ _ z1, z2.to e⟩
theorem noL_map {l : List Wi} (h : ∀ x ∈ l, noList (pwD x) = true) : noListAll (l.map pwD) = true := noListAll_of fun y hy => by
  obtain ⟨x, hx, rfl⟩ := List.mem_map.mp hy
  exact h x hx
theorem WkI.push {v : V} (h : WkI K H H1 F L Dn S) (hL : H L = none) (hv : Dp K H1 v (pwD x)) (nx : noList (pwD x) = true) {zs : List V} (hz : H1 L = some (.lst zs)) : WkI K H (upd H1 L (.lst (zs ++ [v]))) F L Dn (S ++ [x]) := by
  obtain ⟨ws, w1, w2⟩ := h.fd
  obtain ⟨ys, z1, z2⟩ := h.wt
  rw [hz] at z1
  cases z1
  refine ⟨h.same.mut hL, h.ne, fun y hy => ?_, ⟨ws, by rw [upd_ne h.ne]; exact w1, keepLs hz (noL_map fun y hy => h.no y (List.mem_append_left _ hy)) w2⟩, _, upd_same, ?_⟩
  · rw [← List.append_assoc] at hy
    rcases List.mem_append.mp hy with hy | hy
    · exact h.no y hy
    · obtain rfl : y = x := by simpa using hy
      exact nx
  · rw [List.map_append]
    exact (keepLs hz (noL_map fun y hy => h.no y (List.mem_append_right _ hy)) z2).append (.cons (keepL hz nx hv) .nil)
theorem WkI.pop (h : WkI K H H1 F L Dn (S ++ [x])) (hL : H L = none) : ∃ zs v, H1 L = some (.lst zs) ∧ zs[zs.length - 1]? = some v ∧ zs.length = S.length + 1 ∧ Dp K (upd H1 L (.lst zs.dropLast)) v (pwD x) ∧ noList (pwD x) = true ∧ WkI K H (upd H1 L (.lst zs.dropLast)) F L Dn S := by
  obtain ⟨ws, w1, w2⟩ := h.fd
  obtain ⟨zs, h1, h2⟩ := h.wt
  have hl := h2.length
  rw [List.length_map, List.length_append, List.length_cons, List.length_nil] at hl
  obtain ⟨v, hv, hd⟩ := h2.get (i := zs.length - 1) (d := pwD x) (by
    rw [hl, List.map_append, List.getElem?_append_right (by simp)]
    simp)
  have nx := h.no x (by simp)
  refine ⟨zs, v, h1, hv, by omega, keepL h1 nx hd, nx, h.same.mut hL, h.ne, fun y hy => h.no y ?_, ⟨ws, by rw [upd_ne h.ne]; exact w1, keepLs h1 (noL_map fun y hy => h.no y (List.mem_append_left _ hy)) w2⟩, _, upd_same, ?_⟩
  · rcases List.mem_append.mp hy with hy | hy
    · exact List.mem_append_left _ hy
    · exact List.mem_append_right _ (List.mem_append_left _ hy)
  · have := h2.take (zs.length - 1)
    rw [List.dropLast_eq_take]
    have e : (List.map pwD (S ++ [x])).take (zs.length - 1) = S.map pwD := by
      rw [hl, List.map_append, List.take_append_of_le_length (by simp), List.take_of_length_le (by simp)]
    rw [e] at this
    exact keepLs h1 (noL_map fun y hy => h.no y (List.mem_append_right _ (List.mem_append_left _ hy))) this
theorem WkI.found {v : V} (h : WkI K H H1 F L Dn S) (hF : H F = none) (hv : Dp K H1 v (pwD x)) (nx : noList (pwD x) = true) {ws : List V} (hw : H1 F = some (.lst ws)) : WkI K H (upd H1 F (.lst (ws ++ [v]))) F L (Dn ++ [x]) S := by
  obtain ⟨us, w1, w2⟩ := h.fd
  obtain ⟨ys, z1, z2⟩ := h.wt
  rw [hw] at w1
  cases w1
  refine ⟨h.same.mut hF, h.ne, fun y hy => ?_, ⟨_, upd_same, ?_⟩, ys, by rw [upd_ne (Ne.symm h.ne)]; exact z1, keepLs hw (noL_map fun y hy => h.no y (List.mem_append_right _ hy)) z2⟩
  · rcases List.mem_append.mp hy with hy | hy
    · rcases List.mem_append.mp hy with hy | hy
      · exact h.no y (List.mem_append_left _ hy)
      · obtain rfl : y = x := by simpa using hy
        exact nx
    · exact h.no y (List.mem_append_right _ hy)
  · rw [List.map_append]
    exact (keepLs hw (noL_map fun y hy => h.no y (List.mem_append_left _ hy)) w2).append (.cons (keepL hw nx hv) .nil)
end
section
variable {P : Program} {w : World} {K : PySem.W.Frag} {mg : Str → Option Value} {base : Heap} {BF TG : Addr}
theorem ok_walked (B : Bl mg) (F2 : Df P w K mg base CX0 1 "inner" pr_inner (spInner K)) (D : Dt K mg "walked" s_walked pr_walked) : Df P w K mg base CX0 2 "walked" pr_walked (spWalked K) := by
  refine D.ok sc_walked (fun vs H Q E h => ?_) (fun f cdv A outer s H vs Q E hr h => ?_)
  · obtain ⟨v, f, rfl, _⟩ := h
    rfl
  · obtain ⟨v, f, rfl, hd, o, few, dw, k⟩ := h
    refine ⟨_, (pss_cons (ps_set (i := 1) sc_walked.nd rfl (Or.inl rfl) (pe_lst pa_nil)) (pss_cons (ps_set (i := 2) sc_walked.nd rfl (Or.inl rfl) (pe_lst (pa_cons (pe_tup (pa_cons (pe_tup pa_nil) (pa_cons (pv 0) pa_nil))) pa_nil))) (pss_cons (ps_while PassesOwn.never (pt_truth (pv 2) (by intro _; rfl)) (pss_cons (ps_asg (pe_bm0 PySem.F.plainAttrs_list PySem.F.slot_list_pop PySem.F.type_list_pop mt_pop (pv 2)) (pg_tup rfl (pgs_cons (pg_name (i := 3) sc_walked.nd rfl (Or.inl rfl)) (pgs_cons (pg_name (i := 4) sc_walked.nd rfl (Or.inl rfl)) pgs_nil)))) (pss_cons (ps_expr (pe_bm PySem.F.plainAttrs_list PySem.F.slot_list_append PySem.F.type_list_append mt_append (pv 1) (pa_cons (pe_tup (pa_cons (pv 3) (pa_cons (pv 4) pa_nil))) pa_nil))) (pss_one (ps_for PassesOwn.never rfl (pi_reversed (by rfl) B.reversed (pa_cons (pe_f F2 (hr.mono (by decide)) pass0 (pa_cons (pv 4) pa_nil)) pa_nil)) (pg_tup rfl (pgs_cons (pg_name (i := 5) sc_walked.nd rfl (Or.inl rfl)) (pgs_cons (pg_name (i := 6) sc_walked.nd rfl (Or.inl rfl)) pgs_nil))) (pss_one (ps_expr (pe_bm PySem.F.plainAttrs_list PySem.F.slot_list_append PySem.F.type_list_append mt_append (pv 2) (pa_cons (pe_tup (pa_cons (pe_op (show OpR _ _ (rCatZ K) from op_catZ) (pv 3) (pv 5)) (pa_cons (pv 6) pa_nil))) pa_nil))))))))) (pss_one (ps_ret (pv 1)))))), ?_⟩
    dsimp only [cxOf, Cx.nox, L2.start]
    refine sq_go ⟨Nat.zero_le _, fun F hF => sq_go ⟨Nat.zero_le _, fun t0 ht0 => ⟨_, rfl, Nat.le_of_ble_eq_true rfl, fun t1 ht1 => ⟨Nat.le_of_ble_eq_true rfl, fun L hL => ?_⟩⟩⟩⟩
    have nFt0 : F ≠ t0 := ne_of_none upd_same ht0
    have e1 : Same H (upd H F (HO.lst [])) := Same.new hF
    have e3 := (e1.then_new ht0).then_new (o := HO.tup [V.ref t0, v]) ht1
    have e4 := e3.then_new (o := HO.lst [V.ref t1]) hL
    have L0 : H L = none := e3.back hL
    have hFL : F ≠ L := ne_of_none (by rw [upd_ne (ne_of_none (by rw [upd_ne nFt0]; exact upd_same) ht1), upd_ne nFt0]; exact upd_same) hL
    have et1 : upd (upd (upd (upd H F (HO.lst [])) t0 (HO.tup [])) t1 (HO.tup [V.ref t0, v])) L (HO.lst [V.ref t1]) t1 = some (.tup [V.ref t0, v]) := by
      rw [upd_ne (ne_of_none upd_same hL)]; exact upd_same
    have nt01 : t0 ≠ t1 := ne_of_none upd_same ht1
    have et0 : upd (upd (upd (upd H F (HO.lst [])) t0 (HO.tup [])) t1 (HO.tup [V.ref t0, v])) L (HO.lst [V.ref t1]) t0 = some (.tup []) := by
      rw [upd_ne (ne_of_none (by rw [upd_ne nt01]; exact upd_same) hL), upd_ne nt01]; exact upd_same
    have eF : upd (upd (upd (upd H F (HO.lst [])) t0 (HO.tup [])) t1 (HO.tup [V.ref t0, v])) L (HO.lst [V.ref t1]) F = some (.lst []) := by
      rw [upd_ne hFL, upd_ne (ne_of_none (by rw [upd_ne nFt0]; exact upd_same) ht1), upd_ne nFt0]; exact upd_same
    have st0 : WkI K H (upd (upd (upd (upd H F (HO.lst [])) t0 (HO.tup [])) t1 (HO.tup [V.ref t0, v])) L (HO.lst [V.ref t1])) F L [] [([], 1, f)] := ⟨e4, hFL, fun x hx => by
      obtain rfl : x = ([], 1, f) := by simpa using hx
      exact noList_pw o, ⟨[], eF, .nil⟩, _, upd_same, .cons (.tup (.of et1) (.cons (.tup (.of et0) .nil) (.cons (hd.to e4) .nil))) .nil⟩
    generalize upd (upd (upd (upd H F (HO.lst [])) t0 (HO.tup [])) t1 (HO.tup [V.ref t0, v])) L (HO.lst [V.ref t1]) = H1 at st0 ⊢
    show tSeq (tWhile _ _) _ _ [some v, some (.ref F), some (.ref L), none, none, none, none] _
    refine while_n (fun m σ H' => ∃ (Dn S : List Wi) (v3 v4 v5 v6 : Option V), σ = [some v, some (.ref F), some (.ref L), v3, v4, v5, v6] ∧ WkI K H H' F L Dn S ∧ m = (todo S).length ∧ Dn ++ todo S = wk [] 1 f ∧ (∀ x ∈ todo S, okF x.2.2 = true ∧ x.2.1 ≤ 100) ∧ ∀ x ∈ S, x.1.length ≤ 2 * x.2.1)
      (sz f) ⟨[], [([], 1, f)], _, _, _, _, rfl, st0, ?_, ?_, ?_, fun x hx => ?_⟩ (fun m σ H' p => ?_)
    · show sz f = (todo ([] ++ [([], 1, f)])).length
      rw [todo_snoc, todo_nil, List.append_nil, wk_len]
    · show [] ++ todo ([] ++ [([], 1, f)]) = wk [] 1 f
      rw [todo_snoc, todo_nil, List.append_nil]
      rfl
    · show ∀ x ∈ todo ([] ++ [([], 1, f)]), _
      rw [todo_snoc, todo_nil, List.append_nil]
      exact fun x hx => ⟨(wk_ok f [] 1 o x hx).2.1, by have := wk_dp f [] 1 x hx; omega⟩
    · obtain rfl : x = ([], 1, f) := by simpa using hx
      exact Nat.zero_le _
    obtain ⟨Dn, S, v3, v4, v5, v6, rfl, st, rfl, hall, hw, hpl⟩ := p
    obtain ⟨zs, hz, hza⟩ := st.wt
    have tot : Dn.length + (todo S).length = sz f := by
      have := congrArg List.length hall
      rwa [List.length_append, wk_len] at this
    refine ⟨_, rfl, !zs.isEmpty, .inl ⟨_, .of hz, rfl⟩, ?_⟩
    rcases List.eq_nil_or_concat S with rfl | ⟨S', x, rfl⟩
    · cases hza
      rw [if_neg (by simp)]
      rw [todo_nil, List.append_nil] at hall
      obtain ⟨ws, w1, w2⟩ := st.fd
      rw [hall] at w2
      exact ⟨_, rfl, k _ F ws st.same hF w1 w2⟩
    · rw [List.concat_eq_append] at *
      have hne : (!zs.isEmpty) = true := by
        have := hza.length
        cases zs with
        | nil => simp at this
        | cons a b => rfl
      rw [hne]
      obtain ⟨zs', pv, hz', hlast, hzl, hpv, nx, st1⟩ := st.pop L0
      rw [hz] at hz'
      cases hz'
      rw [todo_kids] at hall hw tot ⊢
      refine iteT ⟨fun σ' H'' => ∃ m', m' < (x :: todo (S' ++ (kids x).reverse)).length ∧ _, fun _ _ h => h, ?_⟩
      refine sq_as ⟨_, rfl, .inl ⟨rfl, zs, .of hz⟩, L, zs, pv, rfl, rfl, hz, hlast, ?_⟩
      obtain ⟨pp, d, g⟩ := x
      obtain ⟨T, pathv, partv, rfl, hT, hpath, hpart⟩ := Dp.two (show Dp K _ pv (.tuple [intsD pp, fmD g]) from hpv)
      refine ⟨T, _, rfl, hT, rfl, _, _, rfl, _, _, rfl, rfl, ?_⟩
      have og := hw _ (List.mem_cons_self ..)
      have lpos : (List.length ((pp, d, g) :: todo (S' ++ (kids (pp, d, g)).reverse))) = (todo (S' ++ (kids (pp, d, g)).reverse)).length + 1 := List.length_cons
      rw [lpos] at tot
      generalize upd H' L (HO.lst zs.dropLast) = H2 at st1 hpath hpart hT ⊢
      show tSeq (tDrop _) _ _ [some v, some (.ref F), some (.ref L), some pathv, some partv, v5, v6] _
      obtain ⟨ws, w1, w2⟩ := st1.fd
      have wl : ws.length ≤ 3000 := by
        have := w2.length
        rw [List.length_map] at this
        omega
      refine sq_dr ⟨_, rfl, .inl ⟨rfl, ws, .of w1⟩, _, rfl, _, rfl, Nat.le_of_ble_eq_true rfl, fun t ht => ⟨F, ws, .ref t, rfl, rfl, (Same.new ht) _ _ w1, slt (by omega), ?_⟩⟩
      have st2 := st1.to (Same.new (o := HO.tup [pathv, partv]) ht)
      have hv2 : Dp K (upd H2 t (HO.tup [pathv, partv])) (.ref t) (pwD (pp, d, g)) := .tup (.of upd_same) (.cons (hpath.to (Same.new ht)) (.cons (hpart.to (Same.new ht)) .nil))
      have st3 := st2.found hF hv2 nx ((Same.new ht) _ _ w1)
      have hpath3 : Dp K (upd (upd H2 t (HO.tup [pathv, partv])) F (HO.lst (ws ++ [V.ref t]))) pathv (intsD pp) := keepL ((Same.new ht) _ _ w1) (noList_ints _) (hpath.to (Same.new ht))
      have hpart3 : Dp K (upd (upd H2 t (HO.tup [pathv, partv])) F (HO.lst (ws ++ [V.ref t]))) partv (fmD g) := keepL ((Same.new ht) _ _ w1) (noList_fm g og.1) (hpart.to (Same.new ht))
      generalize upd (upd H2 t (HO.tup [pathv, partv])) F (HO.lst (ws ++ [V.ref t])) = H3 at st3 hpath3 hpart3 ⊢
      have gl := ins_len g
      have gs : sz g ≤ 3000 := by
        have h1 : (wk pp d g).length ≤ sz f := by
          have h2 := congrArg List.length hall
          rw [← todo_kids, todo_snoc, List.length_append, List.length_append, wk_len] at h2
          rw [wk_len] at h2 ⊢
          have h3 : sz g = sz (pp, d, g).2.2 := rfl
          omega
        rw [wk_len] at h1
        omega
      refine ⟨_, rfl, [], partv, g, rfl, lsts_nil, by rw [hid_nil]; exact hpart3, okF_hd og.1, by omega, fun H4 l ks e4 hl0 hl hks => ?_⟩
      rw [hid_nil] at hks
      have lk := hks.length
      rw [List.length_map] at lk
      have st4 := st3.to e4
      have hpath4 := hpath3.to e4
      have nL : l ≠ L := fun z => by
        obtain ⟨zs4, hz4, _⟩ := st3.wt
        rw [z, hz4] at hl0
        cases hl0
      have nlk : noListAll ((ins g).map insD) = true := noList_ins og.1
      refine ⟨l, ks, rfl, .of hl, for_it walk_rev (fun i σ H' => ∃ (v5 v6 : Option V), σ = [some v, some (.ref F), some (.ref L), some pathv, some partv, v5, v6] ∧ WkI K H H' F L (Dn ++ [(pp, d, g)]) (S' ++ (kids (pp, d, g)).reverse.take i) ∧ H' l = some (.lst ks) ∧ Dp K H' pathv (intsD pp) ∧ DpAll K H' ks ((ins g).map insD))
        ⟨v5, v6, rfl, by rw [List.take_zero, List.append_nil]; exact st4, hl, hpath4, hks⟩ (fun i σ H' _ p => by obtain ⟨_, _, _, _, p, _⟩ := p; exact .of p) (fun i x σ H' H'' hi p y => ?_) (fun σ H' p => ?_)⟩
      · obtain ⟨v5, v6, rfl, st6, hr6, hp6, hk6⟩ := p
        obtain ⟨rfl, hx⟩ := y
        obtain ⟨d0, hd0, hdx⟩ := hk6.getV hx
        rw [List.getElem?_map] at hd0
        obtain ⟨y0, hy0, rfl⟩ : ∃ y0, (ins g)[ks.length - 1 - i]? = some y0 ∧ insD y0 = d0 := by
          cases e : (ins g)[ks.length - 1 - i]? with
          | none => rw [e] at hd0; cases hd0
          | some y0 => rw [e] at hd0; exact ⟨y0, rfl, by simpa using hd0⟩
        obtain ⟨st, g1⟩ := y0
        have hm := List.mem_of_getElem? hy0
        obtain ⟨T2, stepsv, eachv, rfl, hT2, hsteps, heach⟩ := Dp.two (show Dp K H'' x (.tuple [intsD st, fmD g1]) from hdx)
        refine ⟨T2, _, rfl, hT2, rfl, _, _, rfl, _, _, rfl, rfl, ?_⟩
        obtain ⟨zs6, hz6, hza6⟩ := st6.wt
        have hkids : (kids (pp, d, g)).reverse.take (i + 1) = (kids (pp, d, g)).reverse.take i ++ [(pp ++ st, d + 1, g1)] := by
          have hlk : (kids (pp, d, g)).length = ks.length := by unfold kids; rw [List.length_map]; exact lk.symm
          rw [List.take_add_one]
          congr 1
          rw [List.getElem?_reverse (by omega), hlk]
          unfold kids
          rw [List.getElem?_map, hy0]
          rfl
        have zl : zs6.length ≤ 3000 := by
          have h1 := hza6.length
          rw [List.length_map] at h1
          rw [h1, List.length_append]
          have h2 := todo_len (S' ++ (kids (pp, d, g)).reverse)
          rw [List.length_append] at h2
          have h3 : ((kids (pp, d, g)).reverse.take i).length ≤ (kids (pp, d, g)).reverse.length := by rw [List.length_take]; omega
          omega
        obtain ⟨pa, hpa', hpa⟩ := hp6.ints_tup
        obtain ⟨sa, hsa', hsa⟩ := hsteps.ints_tup
        subst hpa' hsa'
        refine ⟨_, rfl, .inl ⟨rfl, zs6, .of hz6⟩, _, rfl, _, rfl, pa, sa, _, _, rfl, rfl, hpa, hsa, ?_, fun H7 q e7 hq => ⟨_, rfl, Nat.le_of_ble_eq_true rfl, fun t ht => ?_⟩⟩
        · have h1 := ins_st (st, g1) hm
          have h2 : pp.length ≤ 2 * d := hpl (pp, d, g) (List.mem_append_right _ (List.mem_singleton.mpr rfl))
          have h3 : st.length ≤ 2 := h1
          have h4 : d ≤ 100 := og.2
          rw [List.length_map, List.length_map]
          omega
        · have e8 : Same H'' (upd H7 t (HO.tup [V.ref q, eachv])) := e7.then_new ht
          have st8 := st6.to e8
          have q8 : SqT K (upd H7 t (HO.tup [V.ref q, eachv])) q (pp.map V.int ++ st.map V.int) := (Same.new ht).seqT hq
          have t8 : upd H7 t (HO.tup [V.ref q, eachv]) t = some (.tup [V.ref q, eachv]) := upd_same
          have z8 := e8 _ _ hz6
          have p8 := hp6.to e8
          have k8 := hk6.to e8
          have ea8 := heach.to e8
          have r8 := e8 _ _ hr6
          generalize upd H7 t (HO.tup [V.ref q, eachv]) = H8 at *
          have hv : Dp K H8 (.ref t) (pwD (pp ++ st, d + 1, g1)) := by
            refine .tup (.of t8) (.cons (Dp.tup_ints ?_) (.cons ea8 .nil))
            rw [List.map_append]
            exact q8
          refine ⟨L, zs6, .ref t, rfl, rfl, z8, slt (by omega), _, _, rfl, ?_, ?_, ?_, ?_⟩
          · rw [hkids, ← List.append_assoc]
            exact st8.push L0 hv (noList_pw (okF_ins og.1 _ hm)) z8
          · rw [upd_ne nL]
            exact r8
          · exact keepL z8 (noList_ints _) p8
          · exact keepLs z8 nlk k8
      · obtain ⟨v5, v6, rfl, st6, hr6, hp6, hk6⟩ := p
        rw [List.take_of_length_le (by rw [List.length_reverse]; unfold kids; rw [List.length_map]; show (ins g).length ≤ _; omega)] at st6
        refine ⟨(todo (S' ++ (kids (pp, d, g)).reverse)).length, by rw [lpos]; omega, _, _, _, _, _, _, rfl, st6, rfl, ?_, fun x hx => hw x (List.mem_cons_of_mem _ hx), fun x hx => ?_⟩
        · rw [List.append_assoc]
          exact hall
        rcases List.mem_append.mp hx with hx | hx
        · exact hpl x (List.mem_append_left _ hx)
        · unfold kids at hx
          obtain ⟨y, hy, rfl⟩ := List.mem_map.mp (List.mem_reverse.mp hx)
          have h1 := ins_st y hy
          have h2 : pp.length ≤ 2 * d := hpl (pp, d, g) (List.mem_append_right _ (List.mem_singleton.mpr rfl))
          show (pp ++ y.1).length ≤ 2 * (d + 1)
          rw [List.length_append]
          omega
end
end Ws
/-! ## P03g -/
namespace Ws
open PySem PySem.Spec PyProof.Rows L2 Fo
local macro_rules | `(tactic| walk_at "nf") => `(tactic| dsimp only [tNext, tSeq, tDrop, tRet, tRetN, tIfS, tAsg, gName, gTup, gCons, gNil, tVar, tC, tOp, tUn, rI, rI0, rU, rEq, rNe, tTest, tChain, tAnd, tOr, tNot, tAndV, tOrV, tNotV, tIf, tCB, tCKw, tCons, tNil, tTup, tLst, tCa, tCallS, tB, rIxT, rIxL, rIxS, cxOf, Cx.nox, Cx.wish, Cx.blk, L2.start, tPar, tPar3, tNever, tYes, tBits, tRz, tBM, rAppend, tyV, tXf, suiteEnds, gSub, rSetL, tBreak, rMax, tDGet, sDPut, tSl, tNoPart, tPart, tDisp, tPairs, tDGet2, tDNewK, tAugS, ipI, rGetL, tDIn, tDNotIn, tBM0, rPop])
local macro_rules | `(tactic| walk_at "sx") => `(tactic| simp only [wipe, List.cons.injEq, and_assoc, exists_and_left, and_true, List.map_cons, List.map_nil, List.length_cons, List.length_nil, List.cons_append, List.nil_append, List.append_nil, Nat.reduceAdd, Nat.reduceSub, List.replicate, List.getElem?_cons_zero, List.getElem?_cons_succ, List.set_cons_zero, List.set_cons_succ, Option.some.injEq, V.int.injEq, V.bl.injEq, V.ref.injEq, V.str.injEq, exists_eq_left', exists_eq_left, true_and, Bool.true_eq_false, Bool.false_eq_true, if_true, if_false])

/-- what the walk of the need refuses -/
def Refs (K : PySem.W.Frag) (BF TG : Addr) (f : Fm) (H : Hp) (E : XK) : Prop := (∀ n, needE f = .great n → OutF K TG "most" (.int (n : Nat)) H E) ∧ ∀ p, needE f = .bad p → OutF K BF "path" (intsD p) H E
theorem Refs.to {K : PySem.W.Frag} {BF TG : Addr} {f : Fm} {H H1 : Hp} {E : XK} (h : Refs K BF TG f H E) (e : Same H H1) : Refs K BF TG f H1 E := ⟨fun n q => (h.1 n q).to e, fun p q => (h.2 p q).to e⟩
def Wid (f : Fm) : Prop := sz f ≤ 3000 ∧ ∀ x ∈ wk [] 1 f, (ins x.2.2).length ≤ 2000
def spIsInw (K : PySem.W.Frag) (BF TG : Addr) : Sp := fun vs H Q E => ∃ (v : V) (f : Fm), vs = [v] ∧ Dp K H v (fmD f) ∧ Wid f ∧ Refs K BF TG f H E ∧ (needE f = .ok → okF f = true ∧ dp f ≤ 100 ∧ ∀ H', Same H H' → Q (.bl (aheadB f)) H')
/-- N: how deep it may be -/
def spInw (N : Nat) (K : PySem.W.Frag) (BF TG : Addr) (c : Bool) : Sp := fun vs H Q E => ∃ (v : V) (f : Fm), vs = [v] ∧ Dp K H v (fmD f) ∧ Wid f ∧ Refs K BF TG f H E ∧ (needE f = .ok → okF f = true ∧ dp f ≤ N ∧ (fitF (inwF f c) = false → OutF K TG "most" (.int (10 ^ 9)) H E) ∧
  (fitF (inwF f c) = true → Wid (inwF f c) ∧ Refs K BF TG (inwF f c) H E ∧ (needE (inwF f c) = .ok → ∀ H' u, Same H H' → Dp K H' u (fmD (inwF f c)) → Q u H')))
abbrev s_is_inward : Stmt := top 31
abbrev nm_is_inward : List Str := ["formula", "_", "part"]
abbrev pr_is_inward : List Str := ["formula"]
theorem sc_is_inward : FnScope nm_is_inward pr_is_inward (defScope s_is_inward) := ⟨rfl, rfl, rfl, by decide +kernel, rfl, by decide +kernel, by decide +kernel⟩
abbrev s_inward : Stmt := top 32
abbrev nm_inward : List Str := ["formula"]
abbrev pr_inward : List Str := ["formula"]
theorem sc_inward : FnScope nm_inward pr_inward (defScope s_inward) := ⟨rfl, rfl, rfl, by decide +kernel, rfl, by decide +kernel, by decide +kernel⟩
abbrev s_negated : Stmt := top 33
abbrev nm_negated : List Str := ["formula"]
abbrev pr_negated : List Str := ["formula"]
theorem sc_negated : FnScope nm_negated pr_negated (defScope s_negated) := ⟨rfl, rfl, rfl, by decide +kernel, rfl, by decide +kernel, by decide +kernel⟩
section
variable {P : Program} {w : World} {K : PySem.W.Frag} {mg : Str → Option Value} {base : Heap} {BF TG : Addr}
theorem ok_inward {N : Nat} (F1 : Df P w K mg base (L2.CX P w) 7 "need_formula" pr_need_formula (spNeedF K BF TG)) (F2 : Df P w K mg base (L2.CX P w) (5 + N) "led_inward" pr_led_inward (spLed N K TG false)) (D : Dt K mg "inward" s_inward pr_inward) :
    Df P w K mg base (L2.CX P w) (7 + N + 1) "inward" pr_inward (spInw N K BF TG false) := by
  refine D.okX sc_inward (fun vs H Q E h => ?_) (fun f cdv A outer s H vs Q E hr h => ?_)
  · obtain ⟨v, f, rfl, _⟩ := h
    rfl
  · obtain ⟨v, f, rfl, hd, wd, rf, k⟩ := h
    refine ⟨_, (pss_cons (ps_expr (pe_f (E := E) F1 (hr.mono (by omega)) (passes_call (takes_of rfl rfl rfl rfl) fun _ _ _ _ h => h) (pa_cons (pv 0) pa_nil))) (pss_one (ps_ret (pe_f (E := E) F1 (hr.mono (by omega)) (passes_call (takes_of rfl rfl rfl rfl) fun _ _ _ _ h => h) (pa_cons (pe_f (E := E) F2 (hr.mono (by omega)) (passes_call (takes_of rfl rfl rfl rfl) fun _ _ _ _ h => h) (pa_cons (pv 0) pa_nil)) pa_nil))))), ?_⟩
    dsimp only [cxOf, L2.start]
    refine sq_dr ⟨_, rfl, v, f, rfl, hd, wd.1, wd.2, fun ok H1 e1 => ?_, rf.1, rf.2⟩
    obtain ⟨o, dn, k1, k2⟩ := k ok
    refine ⟨_, rfl, v, f, rfl, hd.to e1, o, dn, wd.1, fun ft H2 u e2 hu => ?_, fun ft => (k1 ft).to e1⟩
    obtain ⟨wd2, rf2, k3⟩ := k2 ft
    have e12 := e1.trans e2
    exact ⟨u, inwF f false, rfl, hu, wd2.1, wd2.2, fun ok2 H3 e3 => k3 ok2 _ _ (e12.trans e3) (hu.to e3), (rf2.to e12).1, (rf2.to e12).2⟩
theorem ok_negated {N : Nat} (F1 : Df P w K mg base (L2.CX P w) 7 "need_formula" pr_need_formula (spNeedF K BF TG)) (F2 : Df P w K mg base (L2.CX P w) (5 + N) "contrary" pr_contrary (spLed N K TG true)) (D : Dt K mg "negated" s_negated pr_negated) :
    Df P w K mg base (L2.CX P w) (7 + N + 1) "negated" pr_negated (spInw N K BF TG true) := by
  refine D.okX sc_negated (fun vs H Q E h => ?_) (fun f cdv A outer s H vs Q E hr h => ?_)
  · obtain ⟨v, f, rfl, _⟩ := h
    rfl
  · obtain ⟨v, f, rfl, hd, wd, rf, k⟩ := h
    refine ⟨_, (pss_cons (ps_expr (pe_f (E := E) F1 (hr.mono (by omega)) (passes_call (takes_of rfl rfl rfl rfl) fun _ _ _ _ h => h) (pa_cons (pv 0) pa_nil))) (pss_one (ps_ret (pe_f (E := E) F1 (hr.mono (by omega)) (passes_call (takes_of rfl rfl rfl rfl) fun _ _ _ _ h => h) (pa_cons (pe_f (E := E) F2 (hr.mono (by omega)) (passes_call (takes_of rfl rfl rfl rfl) fun _ _ _ _ h => h) (pa_cons (pv 0) pa_nil)) pa_nil))))), ?_⟩
    dsimp only [cxOf, L2.start]
    refine sq_dr ⟨_, rfl, v, f, rfl, hd, wd.1, wd.2, fun ok H1 e1 => ?_, rf.1, rf.2⟩
    obtain ⟨o, dn, k1, k2⟩ := k ok
    refine ⟨_, rfl, v, f, rfl, hd.to e1, o, dn, wd.1, fun ft H2 u e2 hu => ?_, fun ft => (k1 ft).to e1⟩
    obtain ⟨wd2, rf2, k3⟩ := k2 ft
    have e12 := e1.trans e2
    exact ⟨u, inwF f true, rfl, hu, wd2.1, wd2.2, fun ok2 H3 e3 => k3 ok2 _ _ (e12.trans e3) (hu.to e3), (rf2.to e12).1, (rf2.to e12).2⟩
theorem ok_is_inward (B : Bl mg) (F1 : Df P w K mg base (L2.CX P w) 7 "need_formula" pr_need_formula (spNeedF K BF TG)) (F2 : Df P w K mg base CX0 2 "walked" pr_walked (spWalked K)) (D : Dt K mg "is_inward" s_is_inward pr_is_inward) :
    Df P w K mg base (L2.CX P w) 8 "is_inward" pr_is_inward (spIsInw K BF TG) := by
  refine D.okX sc_is_inward (fun vs H Q E h => ?_) (fun f cdv A outer s H vs Q E hr h => ?_)
  · obtain ⟨v, f, rfl, _⟩ := h
    rfl
  · obtain ⟨v, f, rfl, hd, wd, rf, k⟩ := h
    refine ⟨_, (pss_cons (ps_expr (pe_f (E := E) F1 (hr.mono (by decide)) (passes_call (takes_of rfl rfl rfl rfl) fun _ _ _ _ h => h) (pa_cons (pv 0) pa_nil))) (pss_one (ps_ret (pe_callB (cr_all rfl) (by rfl) B.all boot_all (pa_cons (pe_lc (own := [("_", 1), ("part", 2)]) (g := gTup K 2 (gCons (gName 1) (gCons (gName 2) gNil))) (tt := tYes) (te := (tOrV (tOp rNe (tOp (rIxT K) (tVar 2) (tC (.int 0))) (tC (.str "not"))) (tOp rEq (tOp (rIxT K) (tOp (rIxT K) (tVar 2) (tC (.int 1))) (tC (.int 0))) (tC (.str "mod"))))) (by rfl) sc_is_inward.nd (pi_list (pe_f F2 (hr.mono (by decide)) pass0 (pa_cons (pv 0) pa_nil))) (blkOk_by (own := [("_", 1), ("part", 2)]) (N := nm_is_inward) (sc := defScope s_is_inward) (by decide +kernel)) (fun _ _ _ _ _ => pg_tup rfl (pgs_cons (pg_name (i := 1) sc_is_inward.nd rfl (Or.inl rfl)) (pgs_cons (pg_name (i := 2) sc_is_inward.nd rfl (Or.inl rfl)) pgs_nil))) (fun _ _ _ _ _ => pts_nil) (fun _ _ _ _ _ => (pe_or (pe_cmpR op_ne (pe_ix ix_tup (pv 2) pe_int (fun _ _ => rfl)) pe_str (nomark _)) (pe_one (pe_cmpR op_eq (pe_ix ix_tup (pe_ix ix_tup (pv 2) pe_int (fun _ _ => rfl)) pe_int (fun _ _ => rfl)) pe_str (nomark _)))))) pa_nil))))), ?_⟩
    dsimp only [cxOf, L2.start]
    refine sq_dr ⟨_, rfl, v, f, rfl, hd, wd.1, wd.2, fun ok H1 e1 => ?_, rf.1, rf.2⟩
    obtain ⟨o, dn, k1⟩ := k ok
    refine ⟨v, rfl, v, f, rfl, hd.to e1, o, wd.1, dn, fun H2 l zs e2 hl0 hl hz => ?_⟩
    have lz := hz.length
    rw [List.length_map, wk_len] at lz
    have := wd.1
    refine ⟨l, rfl, ⟨zs, .of hl⟩, fun D hD => lcS walk_list hD (slt (by omega)) (fun i y => y = V.bl (aheadP ((wk [] 1 f).getD i ([], 0, .bad 0)).2.2)) (fun H3 e => .of (e _ _ hl)) (fun i x H3 H4 Q1 hi e y q => ?_) (fun H3 ys e hy hn hr => ?_)⟩
    · obtain ⟨rfl, hx⟩ := y
      obtain ⟨d0, hd0, hdx⟩ := hz.getV hx
      rw [List.getElem?_map] at hd0
      obtain ⟨y0, hy0, rfl⟩ : ∃ y0, (wk [] 1 f)[i]? = some y0 ∧ pwD y0 = d0 := by
        cases e : (wk [] 1 f)[i]? with
        | none => rw [e] at hd0; cases hd0
        | some y0 => rw [e] at hd0; exact ⟨y0, rfl, by simpa using hd0⟩
      have ey : (wk [] 1 f).getD i ([], 0, .bad 0) = y0 := by rw [List.getD_eq_getElem?_getD, hy0]; rfl
      rw [ey] at q
      obtain ⟨pp, d, g⟩ := y0
      have og : okF g = true := (wk_ok f [] 1 o _ (List.mem_of_getElem? hy0)).2.1
      obtain ⟨T, pathv, partv, rfl, hT, hpath, hpart⟩ := Dp.two (show Dp K H2 x (.tuple [intsD pp, fmD g]) from hdx)
      have hpart := hpart.to e
      refine ⟨T, _, rfl, e.seqT hT, rfl, _, _, rfl, _, _, rfl, rfl, rfl, ?_⟩
      cases g with
      | bad k => cases og
      | neg g =>
        obtain ⟨p, a, b, rfl, hq, h1, h2⟩ := Dp.two (show Dp K H4 partv (.tuple [.str "not", fmD g]) from hpart)
        cases h1
        refine ⟨_, rfl, p, _, 0, _, rfl, rfl, hq, rfl, rfl, _, rfl, iteF ?_⟩
        have go : ∀ (p2 : Addr) (k : Str) (xs : List V), b = .ref p2 → SqT K H4 p2 (.str k :: xs) → V.bl (decide (V.str k = V.str "mod")) = .bl (aheadP (.neg g)) → tOp rEq (tOp (rIxT K) (tOp (rIxT K) (tVar 2) (tC (V.int 1))) (tC (V.int 0))) (tC (V.str "mod")) [some v, some pathv, some (.ref p)] H4 Q1 := fun p2 k xs eb hs ed =>
          ⟨_, rfl, p, _, 1, _, rfl, rfl, hq, rfl, p2, _, 0, _, eb, rfl, hs, atI_nat (xs := V.str k :: xs) (j := 0) (v := V.str k) rfl, rfl, q _ _ ed (Same.refl _)⟩
        have og2 : okF g = true := og
        cases g with
        | bad k => cases og2
        | ge c ps =>
          obtain ⟨p2, a, z, rfl, hs, hs1, hs2⟩ := Dp.two (show Dp K H4 b (.tuple [.str "ge", tmD c ps]) from h2)
          cases hs1
          exact go p2 _ _ rfl hs rfl
        | eq c ps =>
          obtain ⟨p2, a, z, rfl, hs, hs1, hs2⟩ := Dp.two (show Dp K H4 b (.tuple [.str "eq", tmD c ps]) from h2)
          cases hs1
          exact go p2 _ _ rfl hs rfl
        | mod m c ps =>
          obtain ⟨p2, zs0, rfl, hs, ha⟩ := (show Dp K H4 b (.tuple [.str "mod", .int m, tmD c ps]) from h2).tup_inv
          obtain ⟨a, z, z0, rfl, hs1, hs2, hs3⟩ := ha.three
          cases hs1
          exact go p2 _ _ rfl hs rfl
        | neg g =>
          obtain ⟨p2, a, z, rfl, hs, hs1, hs2⟩ := Dp.two (show Dp K H4 b (.tuple [.str "not", fmD g]) from h2)
          cases hs1
          exact go p2 _ _ rfl hs rfl
        | lst w fs =>
          obtain ⟨p2, a, z, rfl, hs, hs1, hs2⟩ := Dp.two (show Dp K H4 b (.tuple [.str (lw w), .tuple (fmDs fs)]) from h2)
          cases hs1
          cases w <;> exact go p2 _ _ rfl hs rfl
        | bnd w m g =>
          obtain ⟨p2, zs0, rfl, hs, ha⟩ := (show Dp K H4 b (.tuple [.str (bw w), .int m, fmD g]) from h2).tup_inv
          obtain ⟨a, z, z0, rfl, hs1, hs2, hs3⟩ := ha.three
          cases hs1
          cases w <;> exact go p2 _ _ rfl hs rfl
      | ge c ps =>
        obtain ⟨p, a, b, rfl, hq, h1, h2⟩ := Dp.two (show Dp K H4 partv (.tuple [.str "ge", tmD c ps]) from hpart)
        cases h1
        exact ⟨_, rfl, p, _, 0, _, rfl, rfl, hq, rfl, rfl, _, rfl, iteT (q _ _ rfl (Same.refl _))⟩
      | eq c ps =>
        obtain ⟨p, a, b, rfl, hq, h1, h2⟩ := Dp.two (show Dp K H4 partv (.tuple [.str "eq", tmD c ps]) from hpart)
        cases h1
        exact ⟨_, rfl, p, _, 0, _, rfl, rfl, hq, rfl, rfl, _, rfl, iteT (q _ _ rfl (Same.refl _))⟩
      | mod m c ps =>
        obtain ⟨p, zs0, rfl, hq, ha⟩ := (show Dp K H4 partv (.tuple [.str "mod", .int m, tmD c ps]) from hpart).tup_inv
        obtain ⟨a, b, z0, rfl, h1, h2, h3⟩ := ha.three
        cases h1
        exact ⟨_, rfl, p, _, 0, _, rfl, rfl, hq, rfl, rfl, _, rfl, iteT (q _ _ rfl (Same.refl _))⟩
      | lst w fs =>
        obtain ⟨p, a, b, rfl, hq, h1, h2⟩ := Dp.two (show Dp K H4 partv (.tuple [.str (lw w), .tuple (fmDs fs)]) from hpart)
        cases h1
        cases w <;> exact ⟨_, rfl, p, _, 0, _, rfl, rfl, hq, rfl, rfl, _, rfl, iteT (q _ _ rfl (Same.refl _))⟩
      | bnd w m g =>
        obtain ⟨p, zs0, rfl, hq, ha⟩ := (show Dp K H4 partv (.tuple [.str (bw w), .int m, fmD g]) from hpart).tup_inv
        obtain ⟨a, b, z0, rfl, h1, h2, h3⟩ := ha.three
        cases h1
        cases w <;> exact ⟨_, rfl, p, _, 0, _, rfl, rfl, hq, rfl, rfl, _, rfl, iteT (q _ _ rfl (Same.refl _))⟩
    · have ev := vals_bl (f := fun i => aheadP ((wk [] 1 f).getD i ([], 0, .bad 0)).2.2) hn hr
      have e0 : (List.range zs.length).map (fun i => aheadP ((wk [] 1 f).getD i ([], 0, .bad 0)).2.2) = (wk [] 1 f).map fun x => aheadP x.2.2 := by
        rw [lz, ← wk_len [] 1 f]
        exact by_places (wk [] 1 f) ([], 0, .bad 0) fun x => aheadP x.2.2
      rw [e0] at ev
      refine ⟨D, _, rfl, .of (by rw [hy, ev]), ?_⟩
      have := k1 H3 ((e1.trans e2).trans e)
      have ea : ((wk [] 1 f).map fun x => aheadP x.2.2).all id = aheadB f := by
        rw [List.all_map]
        rfl
      rw [ea]
      exact this
end
end Ws
/-! ## Q03a -/
namespace Ws
open PySem PySem.Spec PyProof.Rows L2 Fo
local macro_rules | `(tactic| walk_at "nf") => `(tactic| dsimp only [tNext, tSeq, tDrop, tRet, tRetN, tIfS, tAsg, gName, gTup, gCons, gNil, tVar, tC, tOp, tUn, rI, rI0, rU, rEq, rNe, tTest, tChain, tAnd, tOr, tNot, tAndV, tOrV, tNotV, tIf, tCB, tCKw, tCons, tNil, tTup, tLst, tCa, tCallS, tB, rIxT, rIxL, rIxS, cxOf, Cx.nox, Cx.wish, Cx.blk, L2.start, tPar, tPar3, tNever, tYes, tBits, tRz, tBM, rAppend, tyV, tXf, suiteEnds, gSub, rSetL, tBreak, rMax, tDGet, sDPut, tSl, tNoPart, tPart, tDisp, tPairs, tDGet2, tDNewK, tAugS, ipI, rGetL, tDIn, tDNotIn, tBM0, rPop])
local macro_rules | `(tactic| walk_at "sx") => `(tactic| simp only [wipe, List.cons.injEq, and_assoc, exists_and_left, and_true, List.map_cons, List.map_nil, List.length_cons, List.length_nil, List.cons_append, List.nil_append, List.append_nil, Nat.reduceAdd, Nat.reduceSub, List.replicate, List.getElem?_cons_zero, List.getElem?_cons_succ, List.set_cons_zero, List.set_cons_succ, Option.some.injEq, V.int.injEq, V.bl.injEq, V.ref.injEq, V.str.injEq, exists_eq_left', exists_eq_left, true_and, Bool.true_eq_false, Bool.false_eq_true, if_true, if_false])

def nm4 : List V := [.int 0, .int 1, .int 2, .int 3]
theorem asc_snoc : ∀ {ps : List Pr} {last : Int} {p : Pr}, asc last ps → (∀ q ∈ ps, q.1 < p.1) → last < p.1 → prOk p → p.2 ≠ 0 → asc last (ps ++ [p])
  | [], last, p, _, _, h1, h2, h3 => ⟨h2, h1, h3, trivial⟩
  | q :: r, last, p, ⟨a1, a2, a3, a4⟩, hq, h1, h2, h3 => ⟨a1, a2, a3, asc_snoc a4 (fun x hx => hq x (List.mem_cons_of_mem _ hx)) (hq q (List.mem_cons_self ..)) h2 h3⟩
structure St4 (H : Hp) (a l c np : Addr) (n : Nat) : Prop where
  st : LSt H a l c n
  nm : H np = some (.lst nm4)
  na : np ≠ a
  nl : np ≠ l
theorem St4.sbt {H H' : Hp} {a l c np : Addr} {n m : Nat} (h : St4 H a l c np n) (e : Sbt a l H H') (s : LSt H' a l c m) : St4 H' a l c np m := ⟨s, e _ _ h.nm h.na h.nl, h.na, h.nl⟩
theorem St4.same {H H' : Hp} {a l c np : Addr} {n : Nat} (h : St4 H a l c np n) (e : Same H H') : St4 H' a l c np n := ⟨h.st.same e, e _ _ h.nm, h.na, h.nl⟩
def spTermL (K : PySem.W.Frag) : Sp := fun vs H Q _ => ∃ (a l c np : Addr) (n : Nat), vs = [.ref a, .ref np, .int 2, .int 6] ∧ St4 H a l c np n ∧ n ≤ 910000 ∧ ∀ H' u k ps, Sbt a l H H' → LSt H' a l c (n + 5) → TmOk k ps → Dp K H' u (tmD k ps) → Q u H'
def spAtomL (K : PySem.W.Frag) : Sp := fun vs H Q _ => ∃ (a l c np : Addr) (n : Nat), vs = [.ref a, .ref np, .int 2, .int 6] ∧ St4 H a l c np n ∧ n ≤ 900000 ∧ ∀ H' u f, Sbt a l H H' → LSt H' a l c (n + 7) → okF f = true → sz f = 1 → dp f = 1 → Dp K H' u (fmD f) → Q u H'
def spPlainL (N : Nat) (K : PySem.W.Frag) : Sp := fun vs H Q _ => ∃ (a l c np : Addr) (n m : Nat), vs = [.ref a, .ref np, .int (m : Nat), .int 2, .int 6] ∧ St4 H a l c np n ∧ n + 12 * m ≤ 812000 ∧ 1 ≤ m ∧ m ≤ N ∧ m ≤ 1000 ∧ ∀ H' u f, Sbt a l H H' → LSt H' a l c (n + (12 * m - 4)) → okF f = true → sz f + 2 ≤ 4 * m → dp f ≤ 2 * m → Dp K H' u (fmD f) → Q u H'
abbrev s__law_of : Stmt := top 41
abbrev nm__law_of : List Str := ["state", "some"]
abbrev pr__law_of : List Str := ["state", "some"]
theorem sc__law_of : FnScope nm__law_of pr__law_of (defScope s__law_of) := ⟨rfl, rfl, rfl, by decide +kernel, rfl, by decide +kernel, by decide +kernel⟩
abbrev s__law_term : Stmt := top 42
abbrev nm__law_term : List Str := ["state", "names", "most", "bound", "parts_so", "name", "factor"]
abbrev pr__law_term : List Str := ["state", "names", "most", "bound"]
theorem sc__law_term : FnScope nm__law_term pr__law_term (defScope s__law_term) := ⟨rfl, rfl, rfl, by decide +kernel, rfl, by decide +kernel, by decide +kernel⟩
abbrev s__law_atom : Stmt := top 43
abbrev nm__law_atom : List Str := ["state", "names", "most", "bound", "pick", "term"]
abbrev pr__law_atom : List Str := ["state", "names", "most", "bound"]
theorem sc__law_atom : FnScope nm__law_atom pr__law_atom (defScope s__law_atom) := ⟨rfl, rfl, rfl, by decide +kernel, rfl, by decide +kernel, by decide +kernel⟩
abbrev s__law_plain : Stmt := top 44
abbrev nm__law_plain : List Str := ["state", "names", "many_so", "most", "bound", "atom", "left", "one", "other", "found"]
abbrev pr__law_plain : List Str := ["state", "names", "many_so", "most", "bound"]
theorem sc__law_plain : FnScope nm__law_plain pr__law_plain (defScope s__law_plain) := ⟨rfl, rfl, rfl, by decide +kernel, rfl, by decide +kernel, by decide +kernel⟩
section
variable {P : Program} {w : World} {K : PySem.W.Frag} {mg : Str → Option Value} {base : Heap}
theorem ok_of (B : Bl mg) (F1 : Df P w K mg base CX0 2 "_law_draw" pr__law_draw spDrawW) (D : Dt K mg "_law_of" s__law_of pr__law_of) : Df P w K mg base CX0 3 "_law_of" pr__law_of spOf := by
  refine D.ok sc__law_of (fun vs H Q E h => ?_) (fun f cdv A outer s H vs Q E hr h => ?_)
  · obtain ⟨a, l, c, p, n, xs, rfl, _⟩ := h
    rfl
  · obtain ⟨a, l, c, p, n, xs, rfl, hs, hn, hp, pa, pl, z1, z2, k⟩ := h
    refine ⟨_, (pss_one (ps_ret (pe_ix ix_list (pv 1) (pe_f F1 (hr.mono (by decide)) pass0 (pa_cons (pv 0) (pa_cons (pe_callB call_len_seq (by rfl) B.len PySem.boot_len (pa_cons (pv 1) pa_nil)) pa_nil))) (fun _ _ => rfl)))), ?_⟩
    walk_at "nf"
    walk_at "sx"
    refine ⟨xs, .inl (.of hp), a, l, c, n, _, rfl, hs, hn, by omega, by omega, fun H1 r e1 s1 r1 r2 => ?_⟩
    obtain ⟨r, rfl⟩ : ∃ m : Nat, r = (m : Int) := ⟨r.toNat, by omega⟩
    have hlt : r < xs.length := by omega
    exact ⟨xs, r, rfl, .of (e1 _ _ hp pa pl), xs[r], atI_nat (by simp [hlt]), k _ _ e1 s1 (by simp)⟩
theorem ok_termL (B : Bl mg) (F1 : Df P w K mg base CX0 2 "_law_draw" pr__law_draw spDrawW) (D : Dt K mg "_law_term" s__law_term pr__law_term) : Df P w K mg base CX0 3 "_law_term" pr__law_term (spTermL K) := by
  refine D.ok sc__law_term (fun vs H Q E h => ?_) (fun f cdv A outer s H vs Q E hr h => ?_)
  · obtain ⟨a, l, c, np, n, rfl, _⟩ := h
    rfl
  · obtain ⟨a, l, c, np, n, rfl, hs, hn, k⟩ := h
    refine ⟨_, (pss_cons (ps_set (i := 4) sc__law_term.nd rfl (Or.inl rfl) (pe_tup pa_nil)) (pss_cons (ps_for PassesOwn.never rfl (pi_list (pv 1)) (pg_name (i := 5) sc__law_term.nd rfl (Or.inl rfl)) (pss_cons (ps_set (i := 6) sc__law_term.nd rfl (Or.inl rfl) (pe_op op_sub (pe_f F1 (hr.mono (by decide)) pass0 (pa_cons (pv 0) (pa_cons (pe_op op_add (pe_op op_mul pe_int (pv 2)) pe_int) pa_nil))) (pv 2))) (pss_one (ps_if (pt_cmpR op_ne (pv 6) pe_int (nomark _)) (pss_one (ps_set (i := 4) sc__law_term.nd rfl (Or.inl rfl) (pe_op (show OpR _ _ (rCatZ K) from op_catZ) (pv 4) (pe_tup (pa_cons (pe_tup (pa_cons (pv 5) (pa_cons (pv 6) pa_nil))) pa_nil))))) pss_nil)))) (pss_one (ps_ret (pe_tup (pa_cons (pe_op op_sub (pe_f F1 (hr.mono (by decide)) pass0 (pa_cons (pv 0) (pa_cons (pe_op op_add (pe_op op_mul pe_int (pv 3)) pe_int) pa_nil))) (pv 3)) (pa_cons (pv 4) pa_nil))))))), ?_⟩
    dsimp only [cxOf, Cx.nox, L2.start]
    refine sq_go ⟨Nat.zero_le _, fun t ht => ?_⟩
    show tSeq (tFor _ _ _) _ _ [some (.ref a), some (.ref np), some (.int 2), some (.int 6), some (.ref t), none, none] _
    have hs1 := hs.same (Same.new (o := HO.tup []) ht)
    refine sq_fr ⟨_, rfl, np, rfl, ⟨_, .of hs1.nm⟩, for_it walk_list (fun i σ H' => ∃ (q : V) (ps : List Pr) (v5 v6 : Option V), σ = [some (.ref a), some (.ref np), some (.int 2), some (.int 6), some q, v5, v6] ∧ Sbt a l H H' ∧ St4 H' a l c np (n + i) ∧ Dp K H' q (prsD ps) ∧ asc (-1) ps ∧ ∀ p ∈ ps, p.1 < i)
      ⟨_, [], none, none, rfl, Sbt.of (Same.new ht), hs1, .tup (.of upd_same) .nil, trivial, fun p hp => by cases hp⟩ (fun i σ H' _ p => by obtain ⟨_, _, _, _, _, _, p, _⟩ := p; exact .of p.nm) (fun i x σ H1 H2 hi p y => ?_) (fun σ H1 p => ?_)⟩
    · obtain ⟨q, ps, v5, v6, rfl, s1, st1, hq, oa, ob⟩ := p
      obtain ⟨rfl, hx⟩ := y
      have hi4 : i < 4 := hi
      obtain rfl : x = .int (i : Nat) := by
        have : i = 0 ∨ i = 1 ∨ i = 2 ∨ i = 3 := by omega
        rcases this with rfl | rfl | rfl | rfl <;> (cases hx; rfl)
      refine sq_go ⟨_, rfl, _, rfl, _, _, rfl, rfl, .inl ⟨by decide, by decide⟩, _, _, rfl, rfl, a, l, c, n + i, _, rfl, st1.st, by omega, by decide, by decide, fun H3 r e3 st3 r1 r2 => ⟨_, rfl, _, _, rfl, rfl, ?_⟩⟩
      have s3 := s1.trans e3
      have st4 := st1.sbt e3 st3
      have hq3 := keepT e3 st1.st _ _ (noList_prs ps) hq
      have r2 : r < 5 := r2
      refine ⟨_, rfl, rfl, _, rfl, ?_⟩
      by_cases c0 : r - 2 = 0
      · rw [decide_eq_true (show V.int (r - 2) = V.int 0 by rw [c0])]
        refine iteF ⟨q, ps, _, _, rfl, s3, st4, hq3, oa, fun p hp => ?_⟩
        have := ob p hp
        omega
      · rw [decide_eq_false (fun z => c0 (V.int.inj z))]
        obtain ⟨qa, zs, rfl, hqz, hqa⟩ := hq3.tup_inv
        have al : ps.length ≤ 10 := TmOk.len (c := 0) ⟨by decide, by decide, oa⟩
        have zl := hqa.length
        rw [List.length_map] at zl
        refine iteT ⟨_, rfl, _, rfl, _, rfl, Nat.le_of_ble_eq_true rfl, fun t1 ht1 => ⟨Nat.le_of_ble_eq_true rfl, fun t2 ht2 => ⟨qa, t2, zs, _, rfl, rfl, ((Same.new ht1).then_new ht2).seqT hqz, .of upd_same, by simp; omega, fun H5 u e5 hu => ?_⟩⟩⟩
        have e45 := ((Same.new (o := HO.tup [V.int (i : Nat), V.int (r - 2)]) ht1).then_new (o := HO.tup [V.ref t1]) ht2).trans e5
        have et1 : H5 t1 = some (.tup [V.int (i : Nat), V.int (r - 2)]) := e5 _ _ (by rw [upd_ne (ne_of_none upd_same ht2)]; exact upd_same)
        refine ⟨.ref u, ps ++ [((i : Int), r - 2)], _, _, rfl, s3.same e45, st4.same e45, ?_, asc_snoc oa (fun p hp => ob p hp) (by show (-1 : Int) < (i : Int); omega) ⟨by show (0 : Int) ≤ i; omega, by show (i : Int) ≤ 9; omega, by show -(10 ^ 9) ≤ r - 2; omega, by show r - 2 ≤ 10 ^ 9; omega⟩ c0, fun p hp => ?_⟩
        · show Dp K H5 (.ref u) (.tuple ((ps ++ [((i : Int), r - 2)]).map prD))
          rw [List.map_append]
          exact .tup hu ((hqa.to e45).append (.cons (.tup (.of et1) (.cons (.int _) (.cons (.int _) .nil))) .nil))
        · rcases List.mem_append.mp hp with hp | hp
          · have := ob p hp; omega
          · obtain rfl : p = ((i : Int), r - 2) := by simpa using hp
            show (i : Int) < ((i + 1 : Nat) : Int)
            omega
    · obtain ⟨q, ps, v5, v6, rfl, s1, st1, hq, oa, ob⟩ := p
      refine ⟨_, rfl, _, rfl, _, _, rfl, rfl, .inl ⟨by decide, by decide⟩, _, _, rfl, rfl, a, l, c, n + 4, _, rfl, st1.st, by omega, by decide, by decide, fun H3 r e3 st3 r1 r2 => ⟨_, rfl, _, _, rfl, rfl, _, rfl, Nat.le_of_ble_eq_true rfl, fun t2 ht2 => ?_⟩⟩
      have hq3 := keepT e3 st1.st _ _ (noList_prs ps) hq
      have r2 : r < 13 := r2
      exact k _ _ (r - 6) ps ((s1.trans e3).same (Same.new ht2)) (st3.same (Same.new ht2)) ⟨by omega, by omega, oa⟩ (.tup (.of upd_same) (.cons (.int _) (.cons (hq3.to (Same.new ht2)) .nil)))
theorem ok_atomL (B : Bl mg) (F1 : Df P w K mg base CX0 2 "_law_draw" pr__law_draw spDrawW) (F2 : Df P w K mg base CX0 3 "_law_term" pr__law_term (spTermL K)) (D : Dt K mg "_law_atom" s__law_atom pr__law_atom) : Df P w K mg base CX0 4 "_law_atom" pr__law_atom (spAtomL K) := by
  refine D.ok sc__law_atom (fun vs H Q E h => ?_) (fun f cdv A outer s H vs Q E hr h => ?_)
  · obtain ⟨a, l, c, np, n, rfl, _⟩ := h
    rfl
  · obtain ⟨a, l, c, np, n, rfl, hs, hn, k⟩ := h
    refine ⟨_, (pss_cons (ps_par (i := 4) (j := 5) (by rfl) sc__law_atom.nd rfl rfl (by decide) rfl rfl (pa_cons (pe_f F1 (hr.mono (by decide)) pass0 (pa_cons (pv 0) (pa_cons pe_int pa_nil))) (pa_cons (pe_f F2 (hr.mono (by decide)) pass0 (pa_cons (pv 0) (pa_cons (pv 1) (pa_cons (pv 2) (pa_cons (pv 3) pa_nil))))) pa_nil)) (by rfl)) (pss_cons (ps_if (pt_cmpR op_lt (pv 4) pe_int (nomark _)) (pss_one (ps_ret (pe_tup (pa_cons pe_str (pa_cons (pv 5) pa_nil))))) pss_nil) (pss_one (ps_ret (pe_ifExp (pt_cmpR op_eq (pv 4) pe_int (nomark _)) (pe_tup (pa_cons pe_str (pa_cons (pv 5) pa_nil))) (pe_tup (pa_cons pe_str (pa_cons (pe_op op_add pe_int (pe_f F1 (hr.mono (by decide)) pass0 (pa_cons (pv 0) (pa_cons pe_int pa_nil)))) (pa_cons (pv 5) pa_nil))))))))), ?_⟩
    walk_at "nf"
    walk_at "sx"
    refine ⟨a, l, c, n, 6, rfl, hs.st, by omega, by decide, by decide, fun H1 r e1 st1 r1 r2 => ⟨a, l, c, np, n + 1, rfl, hs.sbt e1 st1, by omega, fun H2 u k0 ps e2 st2 ot hu => ?_⟩⟩
    have s2 := e1.trans e2
    have otm := tm_isTm ot
    walk_at "nf"
    refine ⟨r, rfl, ?_⟩
    by_cases c1 : r < 3
    · rw [decide_eq_true c1]
      exact iteT ⟨Nat.le_of_ble_eq_true rfl, fun t ht => k _ _ (.ge k0 ps) (s2.same (Same.new ht)) ((st2.same (Same.new ht)).mono (by omega)) otm rfl rfl (.tup (.of upd_same) (.cons (.str _) (.cons (hu.to (Same.new ht)) .nil)))⟩
    rw [decide_eq_false c1]
    refine iteF ⟨rfl, ?_⟩
    by_cases c2 : r = 3
    · rw [decide_eq_true (by rw [c2])]
      exact iteT ⟨Nat.le_of_ble_eq_true rfl, fun t ht => k _ _ (.eq k0 ps) (s2.same (Same.new ht)) ((st2.same (Same.new ht)).mono (by omega)) otm rfl rfl (.tup (.of upd_same) (.cons (.str _) (.cons (hu.to (Same.new ht)) .nil)))⟩
    · rw [decide_eq_false (fun z => c2 (V.int.inj z))]
      refine iteF ⟨a, l, c, _, 3, rfl, st2, by omega, by decide, by decide, fun H3 r3 e3 st3 q1 q2 => ⟨r3, rfl, Nat.le_of_ble_eq_true rfl, fun t ht => ?_⟩⟩
      have hu3 := keepT e3 st2 _ _ (noList_tm k0 ps) hu
      refine k _ _ (.mod (2 + r3) k0 ps) ((s2.trans e3).same (Same.new ht)) ((st3.same (Same.new ht)).mono (by omega)) ?_ rfl rfl (.tup (.of upd_same) (.cons (.str _) (.cons (.int _) (.cons (hu3.to (Same.new ht)) .nil))))
      simp only [okF, Bool.and_eq_true, decide_eq_true_eq]
      exact ⟨by omega, otm⟩
end
end Ws
/-! ## Q03b -/
namespace Ws
open PySem PySem.Spec PyProof.Rows L2 Fo
local macro_rules | `(tactic| walk_at "nf") => `(tactic| dsimp only [tNext, tSeq, tDrop, tRet, tRetN, tIfS, tAsg, gName, gTup, gCons, gNil, tVar, tC, tOp, tUn, rI, rI0, rU, rEq, rNe, tTest, tChain, tAnd, tOr, tNot, tAndV, tOrV, tNotV, tIf, tCB, tCKw, tCons, tNil, tTup, tLst, tCa, tCallS, tB, rIxT, rIxL, rIxS, cxOf, Cx.nox, Cx.wish, Cx.blk, L2.start, tPar, tPar3, tNever, tYes, tBits, tRz, tBM, rAppend, tyV, tXf, suiteEnds, gSub, rSetL, tBreak, rMax, tDGet, sDPut, tSl, tNoPart, tPart, tDisp, tPairs, tDGet2, tDNewK, tAugS, ipI, rGetL, tDIn, tDNotIn, tBM0, rPop])
local macro_rules | `(tactic| walk_at "sx") => `(tactic| simp only [wipe, List.cons.injEq, and_assoc, exists_and_left, and_true, List.map_cons, List.map_nil, List.length_cons, List.length_nil, List.cons_append, List.nil_append, List.append_nil, Nat.reduceAdd, Nat.reduceSub, List.replicate, List.getElem?_cons_zero, List.getElem?_cons_succ, List.set_cons_zero, List.set_cons_succ, Option.some.injEq, V.int.injEq, V.bl.injEq, V.ref.injEq, V.str.injEq, exists_eq_left', exists_eq_left, true_and, Bool.true_eq_false, Bool.false_eq_true, if_true, if_false])

def bS : Nat → Nat
  | 0 => 10
  | d + 1 => 1 + 3 * bS d
def bT : Nat → Nat
  | 0 => 33
  | d + 1 => 2 + 3 * bT d
theorem bT_pos : ∀ d, 33 ≤ bT d
  | 0 => Nat.le_refl _
  | d + 1 => by have := bT_pos d; simp only [bT]; omega
theorem bS_pos : ∀ d, 10 ≤ bS d
  | 0 => Nat.le_refl _
  | d + 1 => by have := bS_pos d; simp only [bS]; omega
def spBoundL (N : Nat) (K : PySem.W.Frag) : Sp := fun vs H Q _ => ∃ (a l c np : Addr) (n d : Nat), vs = [.ref a, .ref np, .int (d : Nat), .int 3] ∧ St4 H a l c np n ∧ n + bT d ≤ 700000 ∧ d < N ∧ ∀ H' u f, Sbt a l H H' → LSt H' a l c (n + bT d) → okF f = true → sz f ≤ bS d → dp f ≤ 6 + d → Dp K H' u (fmD f) → Q u H'
abbrev s__law_bound : Stmt := top 50
abbrev nm__law_bound : List Str := ["state", "names", "deep", "many_so", "pick", "word", "found", "step"]
abbrev pr__law_bound : List Str := ["state", "names", "deep", "many_so"]
theorem sc__law_bound : FnScope nm__law_bound pr__law_bound (defScope s__law_bound) := ⟨rfl, rfl, rfl, by decide +kernel, rfl, by decide +kernel, by decide +kernel⟩
theorem szs_append : ∀ (a b : List Fm), szs (a ++ b) = szs a + szs b
  | [], b => by simp [szs]
  | f :: a, b => by rw [List.cons_append, szs, szs, szs_append a b]; omega
theorem okFs_append : ∀ (a b : List Fm), okFs (a ++ b) = (okFs a && okFs b)
  | [], b => by simp [okFs]
  | f :: a, b => by rw [List.cons_append, okFs, okFs, okFs_append a b, Bool.and_assoc]
section
variable {P : Program} {w : World} {K : PySem.W.Frag} {mg : Str → Option Value} {base : Heap}
theorem plain0 (D : Dt K mg "_law_plain" s__law_plain pr__law_plain) : Df P w K mg base CX0 4 "_law_plain" pr__law_plain (spPlainL 0 K) := by
  refine D.ok sc__law_plain (fun vs H Q E h => ?_) (fun f cdv A outer s H vs Q E hr h => ?_)
  · obtain ⟨a, l, c, np, n, m, rfl, _⟩ := h
    rfl
  · obtain ⟨a, l, c, np, n, m, rfl, _, _, h1, h2, _⟩ := h
    omega
theorem bound0 (D : Dt K mg "_law_bound" s__law_bound pr__law_bound) : Df P w K mg base CX0 7 "_law_bound" pr__law_bound (spBoundL 0 K) := by
  refine D.ok sc__law_bound (fun vs H Q E h => ?_) (fun f cdv A outer s H vs Q E hr h => ?_)
  · obtain ⟨a, l, c, np, n, d, rfl, _⟩ := h
    rfl
  · obtain ⟨a, l, c, np, n, d, rfl, _, _, h2, _⟩ := h
    omega
theorem ok_plainL {N : Nat} (B : Bl mg) (F1 : Df P w K mg base CX0 2 "_law_draw" pr__law_draw spDrawW) (F2 : Df P w K mg base CX0 4 "_law_atom" pr__law_atom (spAtomL K)) (F3 : Df P w K mg base CX0 (4 + N) "_law_plain" pr__law_plain (spPlainL N K)) (D : Dt K mg "_law_plain" s__law_plain pr__law_plain) :
    Df P w K mg base CX0 (4 + (N + 1)) "_law_plain" pr__law_plain (spPlainL (N + 1) K) := by
  refine D.ok sc__law_plain (fun vs H Q E h => ?_) (fun f cdv A outer s H vs Q E hr h => ?_)
  · obtain ⟨a, l, c, np, n, m, rfl, _⟩ := h
    rfl
  · obtain ⟨a, l, c, np, n, m, rfl, hs, hn, m1, mN, mB, k⟩ := h
    refine ⟨_, (pss_cons (ps_if (PW.pt (pw_or (pt_cmpR op_lt (pv 2) pe_int (nomark _)) (pw_or1 (pt_cmpR op_eq (pe_f F1 (hr.mono (by show _ ≤ 4 + N; omega)) pass0 (pa_cons (pv 0) (pa_cons pe_int pa_nil))) pe_int (nomark _))))) (pss_cons (ps_set (i := 5) sc__law_plain.nd rfl (Or.inl rfl) (pe_f F2 (hr.mono (by show _ ≤ 4 + N; omega)) pass0 (pa_cons (pv 0) (pa_cons (pv 1) (pa_cons (pv 3) (pa_cons (pv 4) pa_nil)))))) (pss_one (ps_ret (pe_ifExp (pt_cmpR op_eq (pe_f F1 (hr.mono (by show _ ≤ 4 + N; omega)) pass0 (pa_cons (pv 0) (pa_cons pe_int pa_nil))) pe_int (nomark _)) (pe_tup (pa_cons pe_str (pa_cons (pv 5) pa_nil))) (pv 5))))) pss_nil) (pss_cons (ps_set (i := 6) sc__law_plain.nd rfl (Or.inl rfl) (pe_op op_add pe_int (pe_f F1 (hr.mono (by show _ ≤ 4 + N; omega)) pass0 (pa_cons (pv 0) (pa_cons (pe_op op_sub (pv 2) pe_int) pa_nil))))) (pss_cons (ps_set (i := 7) sc__law_plain.nd rfl (Or.inl rfl) (pe_f F3 (hr.mono (by show _ ≤ 4 + N; omega)) pass0 (pa_cons (pv 0) (pa_cons (pv 1) (pa_cons (pv 6) (pa_cons (pv 3) (pa_cons (pv 4) pa_nil))))))) (pss_cons (ps_set (i := 8) sc__law_plain.nd rfl (Or.inl rfl) (pe_f F3 (hr.mono (by show _ ≤ 4 + N; omega)) pass0 (pa_cons (pv 0) (pa_cons (pv 1) (pa_cons (pe_op op_sub (pv 2) (pv 6)) (pa_cons (pv 3) (pa_cons (pv 4) pa_nil))))))) (pss_cons (ps_set (i := 9) sc__law_plain.nd rfl (Or.inl rfl) (pe_tup (pa_cons (pe_ix ix_list (pe_lst (pa_cons pe_str (pa_cons pe_str pa_nil))) (pe_f F1 (hr.mono (by show _ ≤ 4 + N; omega)) pass0 (pa_cons (pv 0) (pa_cons pe_int pa_nil))) (fun _ _ => rfl)) (pa_cons (pe_tup (pa_cons (pv 7) (pa_cons (pv 8) pa_nil))) pa_nil)))) (pss_one (ps_ret (pe_ifExp (pt_cmpR op_eq (pe_f F1 (hr.mono (by show _ ≤ 4 + N; omega)) pass0 (pa_cons (pv 0) (pa_cons pe_int pa_nil))) pe_int (nomark _)) (pe_tup (pa_cons pe_str (pa_cons (pv 9) pa_nil))) (pv 9))))))))), ?_⟩
    dsimp only [cxOf, Cx.nox, L2.start]
    have atom : ∀ H1 j (D : Ends), Sbt a l H H1 → St4 H1 a l c np (n + j) → (j = 0 ∨ j = 1 ∧ 2 ≤ m) → D.rt = Q → tSeq (tAsg (tCa (spAtomL K) E0 (tCons (tVar 0) (tCons (tVar 1) (tCons (tVar 3) (tCons (tVar 4) tNil))))) (gName 5))
        (tRet (tIf (tTest (tOp rEq (tCa spDrawW E0 (tCons (tVar 0) (tCons (tC (V.int 3)) tNil))) (tC (V.int 0)))) (tTup (tCons (tC (V.str "not")) (tCons (tVar 5) tNil))) (tVar 5)))
        D [some (.ref a), some (.ref np), some (.int (m : Nat)), some (.int 2), some (.int 6), none, none, none, none, none] H1 := by
      intro H1 j D s1 st1 hj eD
      obtain ⟨nx, rt, bk, ct⟩ := D
      obtain rfl : rt = Q := eD
      refine sq_go ⟨_, rfl, _, rfl, _, rfl, _, rfl, a, l, c, np, n + j, rfl, st1, by omega, fun H2 u f e2 st2 o1 z1 d1 hu => ?_⟩
      refine ⟨_, rfl, a, l, c, _, 3, rfl, st2, by omega, by decide, by decide, fun H3 r e3 st3 r1 r2 => ⟨rfl, _, rfl, ?_⟩⟩
      have hu3 := keepT e3 st2 _ _ (noList_fm f o1) hu
      have s3 := (s1.trans e2).trans e3
      by_cases c1 : r = 0
      · rw [decide_eq_true (by rw [c1])]
        exact iteT ⟨_, rfl, Nat.le_of_ble_eq_true rfl, fun t ht => k _ _ (.neg f) (s3.same (Same.new ht)) ((st3.same (Same.new ht)).mono (by omega)) o1 (by simp only [sz]; omega) (by simp only [dp]; omega) (.tup (.of upd_same) (.cons (.str _) (.cons (hu3.to (Same.new ht)) .nil)))⟩
      · rw [decide_eq_false (fun z => c1 (V.int.inj z))]
        exact iteF ⟨_, rfl, k _ _ f s3 (st3.mono (by omega)) o1 (by omega) (by omega) hu3⟩
    refine sq_if0 ⟨_, rfl, _, _, rfl, rfl, _, rfl, ?_⟩
    by_cases c0 : m < 2
    · rw [decide_eq_true (by omega)]
      exact iteT (atom H 0 _ (Sbt.refl H) hs (.inl rfl) rfl)
    rw [decide_eq_false (by omega)]
    refine iteF ⟨_, rfl, a, l, c, n, 4, rfl, hs.st, by omega, by decide, by decide, fun H1 r e1 st1 r1 r2 => ⟨rfl, _, rfl, ?_⟩⟩
    by_cases c1 : r = 0
    · rw [decide_eq_true (by rw [c1])]
      exact iteT (atom H1 1 _ e1 (hs.sbt e1 st1) (.inr ⟨rfl, by omega⟩) rfl)
    rw [decide_eq_false (fun z => c1 (V.int.inj z))]
    refine iteF (sq_go ⟨_, rfl, _, rfl, _, _, rfl, rfl, a, l, c, n + 1, _, rfl, st1, by omega, by omega, by
      have : ((m : Nat) : Int) ≤ 1000 := by omega
      have : (1000 : Int) < 2 ^ 220 := by decide
      omega, fun H2 r2 e2 st2 q1 q2 => ⟨_, _, rfl, rfl, ?_⟩⟩)
    have s2 := e1.trans e2
    have S2 := (hs.sbt e1 st1).sbt e2 st2
    obtain ⟨m1', hm1⟩ : ∃ m1 : Nat, 1 + r2 = (m1 : Nat) := ⟨(1 + r2).toNat, by omega⟩
    refine sq_go ⟨_, rfl, _, rfl, _, rfl, _, rfl, _, rfl, a, l, c, np, n + 2, m1', by show [V.ref a, V.ref np, V.int (1 + r2), V.int 2, V.int 6] = _; rw [hm1], S2, by omega, by omega, by omega, by omega, fun H3 u1 f1 e3 st3 o1 z1 d1 hu1 => ?_⟩
    have S3 := S2.sbt e3 st3
    obtain ⟨m2, hm2⟩ : ∃ m2 : Nat, (m : Int) - (1 + r2) = (m2 : Nat) := ⟨((m : Int) - (1 + r2)).toNat, by omega⟩
    have hm12 : m1' + m2 = m := by omega
    refine sq_go ⟨_, rfl, _, rfl, _, rfl, _, rfl, _, _, rfl, rfl, _, rfl, _, rfl, a, l, c, np, _, m2, by show [V.ref a, V.ref np, V.int ((m : Int) - (1 + r2)), V.int 2, V.int 6] = _; rw [hm2], S3, by omega, by omega, by omega, by omega, fun H4 u2 f2 e4 st4 o2 z2 d2 hu2 => ?_⟩
    have S4 := S3.sbt e4 st4
    have hu14 := keepT e4 st3 _ _ (noList_fm f1 o1) hu1
    have s4 := (s2.trans e3).trans e4
    -- the word
    refine sq_go ⟨Nat.le_of_ble_eq_true rfl, fun wl hwl => ⟨_, rfl, a, l, c, _, 2, rfl, st4.new hwl, by omega, by decide, by decide, fun H5 r5 e5 st5 p1 p2 => ?_⟩⟩
    have hw5 : H5 wl = some (.lst [.str "and", .str "or"]) := e5 _ _ upd_same (st4.off hwl).1 (st4.off hwl).2.1
    obtain ⟨w5, hw5b, hw5c⟩ : ∃ w : Bool, atI [V.str "and", V.str "or"] r5 = some (.str (lw w)) ∧ True := by
      have : r5 = 0 ∨ r5 = 1 := by omega
      rcases this with rfl | rfl
      · exact ⟨true, rfl, trivial⟩
      · exact ⟨false, rfl, trivial⟩
    have f5 : ∀ {x : V} {d : PyData}, noList d = true → Dp K H4 x d → Dp K H5 x d := fun {x d} nl hx => keepT e5 (st4.new hwl) _ _ nl (hx.to (Same.new hwl))
    have h15 := f5 (noList_fm f1 o1) hu14
    have h25 := f5 (noList_fm f2 o2) hu2
    have s5 : Sbt a l H H5 := (s4.same (Same.new hwl)).trans e5
    refine ⟨wl, _, r5, _, rfl, rfl, .of hw5, hw5b, _, rfl, _, rfl, Nat.le_of_ble_eq_true rfl, fun t1 ht1 => ⟨Nat.le_of_ble_eq_true rfl, fun t2 ht2 => ?_⟩⟩
    have e56 := (Same.new (o := HO.tup [u1, u2]) ht1).then_new (o := HO.tup [V.str (lw w5), V.ref t1]) ht2
    have et1 : upd (upd H5 t1 (HO.tup [u1, u2])) t2 (HO.tup [V.str (lw w5), V.ref t1]) t1 = some (.tup [u1, u2]) := by
      rw [upd_ne (ne_of_none upd_same ht2)]; exact upd_same
    have hf6 : Dp K (upd (upd H5 t1 (HO.tup [u1, u2])) t2 (HO.tup [V.str (lw w5), V.ref t1])) (.ref t2) (fmD (.lst w5 [f1, f2])) := .tup (.of upd_same) (.cons (.str _) (.cons (.tup (.of et1) (.cons (h15.to e56) (.cons (h25.to e56) .nil))) .nil))
    have o6 : okF (.lst w5 [f1, f2]) = true := by simp only [okF, okFs, o1, o2]; rfl
    have st6 := st5.same e56
    have s6 := s5.same e56
    generalize upd (upd H5 t1 (HO.tup [u1, u2])) t2 (HO.tup [V.str (lw w5), V.ref t1]) = H6 at *
    refine ⟨_, rfl, a, l, c, _, 5, rfl, st6, by omega, by decide, by decide, fun H7 r7 e7 st7 p1 p2 => ⟨rfl, _, rfl, ?_⟩⟩
    have h7 := keepT e7 st6 _ _ (noList_fm _ o6) hf6
    have s7 := s6.trans e7
    by_cases c2 : r7 = 0
    · rw [decide_eq_true (by rw [c2])]
      refine iteT ⟨_, rfl, Nat.le_of_ble_eq_true rfl, fun t ht => k _ _ (.neg (.lst w5 [f1, f2])) (s7.same (Same.new ht)) ((st7.same (Same.new ht)).mono (by omega)) o6 ?_ ?_ (.tup (.of upd_same) (.cons (.str _) (.cons (h7.to (Same.new ht)) .nil)))⟩
      · simp only [sz, szs]; omega
      · simp only [dp, dps]; omega
    · rw [decide_eq_false (fun z => c2 (V.int.inj z))]
      refine iteF ⟨_, rfl, k _ _ (.lst w5 [f1, f2]) s7 (st7.mono (by omega)) o6 ?_ ?_ h7⟩
      · simp only [sz, szs]; omega
      · simp only [dp, dps]; omega
theorem ok_boundL {N : Nat} (B : Bl mg) (F1 : Df P w K mg base CX0 2 "_law_draw" pr__law_draw spDrawW) (F2 : Df P w K mg base CX0 7 "_law_plain" pr__law_plain (spPlainL 3 K)) (F3 : Df P w K mg base CX0 3 "_law_of" pr__law_of spOf) (F4 : Df P w K mg base CX0 (7 + N) "_law_bound" pr__law_bound (spBoundL N K)) (D : Dt K mg "_law_bound" s__law_bound pr__law_bound) :
    Df P w K mg base CX0 (7 + (N + 1)) "_law_bound" pr__law_bound (spBoundL (N + 1) K) := by
  refine D.ok sc__law_bound (fun vs H Q E h => ?_) (fun f cdv A outer s H vs Q E hr h => ?_)
  · obtain ⟨a, l, c, np, n, d, rfl, _⟩ := h
    rfl
  · obtain ⟨a, l, c, np, n, d, rfl, hs, hn, dN, k⟩ := h
    refine ⟨_, (pss_cons (ps_set (i := 4) sc__law_bound.nd rfl (Or.inl rfl) (pe_f F1 (hr.mono (by show _ ≤ 7 + N; omega)) pass0 (pa_cons (pv 0) (pa_cons pe_int pa_nil)))) (pss_cons (ps_if (PW.pt (pw_or (pt_cmpR op_eq (pv 2) pe_int (nomark _)) (pw_or1 (pt_cmpR op_eq (pv 4) pe_int (nomark _))))) (pss_one (ps_ret (pe_f F2 (hr.mono (by show _ ≤ 7 + N; omega)) pass0 (pa_cons (pv 0) (pa_cons (pv 1) (pa_cons (pv 3) (pa_cons pe_int (pa_cons pe_int pa_nil)))))))) pss_nil) (pss_cons (ps_if (pt_cmpR op_eq (pv 4) pe_int (nomark _)) (pss_one (ps_ret (pe_tup (pa_cons pe_str (pa_cons (pe_f F4 (hr.mono (by show _ ≤ 7 + N; omega)) pass0 (pa_cons (pv 0) (pa_cons (pv 1) (pa_cons (pe_op op_sub (pv 2) pe_int) (pa_cons (pv 3) pa_nil))))) pa_nil))))) pss_nil) (pss_cons (ps_if (pt_cmpR op_lt (pv 4) pe_int (nomark _)) (pss_cons (ps_set (i := 5) sc__law_bound.nd rfl (Or.inl rfl) (pe_ix ix_list (pe_lst (pa_cons pe_str (pa_cons pe_str pa_nil))) (pe_f F1 (hr.mono (by show _ ≤ 7 + N; omega)) pass0 (pa_cons (pv 0) (pa_cons pe_int pa_nil))) (fun _ _ => rfl))) (pss_one (ps_ret (pe_tup (pa_cons (pv 5) (pa_cons (pe_f F3 (hr.mono (by show _ ≤ 7 + N; omega)) pass0 (pa_cons (pv 0) (pa_cons (pv 1) pa_nil))) (pa_cons (pe_f F4 (hr.mono (by show _ ≤ 7 + N; omega)) pass0 (pa_cons (pv 0) (pa_cons (pv 1) (pa_cons (pe_op op_sub (pv 2) pe_int) (pa_cons (pv 3) pa_nil))))) pa_nil))))))) pss_nil) (pss_cons (ps_set (i := 6) sc__law_bound.nd rfl (Or.inl rfl) (pe_tup pa_nil)) (pss_cons (ps_for PassesOwn.never rfl (pi_range1 (by rfl) B.range (pa_cons (pe_f F1 (hr.mono (by show _ ≤ 7 + N; omega)) pass0 (pa_cons (pv 0) (pa_cons pe_int pa_nil))) pa_nil)) (pg_name (i := 7) sc__law_bound.nd rfl (Or.inl rfl)) (pss_one (ps_set (i := 6) sc__law_bound.nd rfl (Or.inl rfl) (pe_op (show OpR _ _ (rCatZ K) from op_catZ) (pv 6) (pe_tup (pa_cons (pe_f F4 (hr.mono (by show _ ≤ 7 + N; omega)) pass0 (pa_cons (pv 0) (pa_cons (pv 1) (pa_cons (pe_op op_sub (pv 2) pe_int) (pa_cons (pv 3) pa_nil))))) pa_nil)))))) (pss_one (ps_ret (pe_tup (pa_cons (pe_ix ix_list (pe_lst (pa_cons pe_str (pa_cons pe_str pa_nil))) (pe_op op_sub (pv 4) pe_int) (fun _ _ => rfl)) (pa_cons (pv 6) pa_nil))))))))))), ?_⟩
    dsimp only [cxOf, Cx.nox, L2.start]
    refine sq_go ⟨_, rfl, a, l, c, n, 7, rfl, hs.st, by omega, by decide, by decide, fun H1 r e1 st1 r1 r2 => ?_⟩
    have S1 := hs.sbt e1 st1
    have tp := bT_pos d
    have sp := bS_pos d
    have plain : ∀ D : Ends, D.rt = Q → tRet (tCa (spPlainL 3 K) E0 (tCons (tVar 0) (tCons (tVar 1) (tCons (tVar 3) (tCons (tC (V.int 2)) (tCons (tC (V.int 6)) tNil)))))) D [some (.ref a), some (.ref np), some (.int (d : Nat)), some (.int 3), some (.int r), none, none, none] H1 := fun D eD => by
      obtain ⟨nx, rt, bk, ct⟩ := D
      obtain rfl : rt = Q := eD
      exact ⟨_, rfl, _, rfl, _, rfl, a, l, c, np, n + 1, 3, rfl, S1, by omega, by decide, by decide, by decide, fun H2 u f e2 st2 o2 z2 d2 hu => k _ _ f (e1.trans e2) (st2.mono (by omega)) o2 (by omega) (by omega) hu⟩
    show tSeq _ _ _ [some (.ref a), some (.ref np), some (.int (d : Nat)), some (.int 3), some (.int r), none, none, none] _
    refine sq_if0 ⟨_, rfl, rfl, _, rfl, ?_⟩
    by_cases c0 : d = 0
    · subst c0
      exact iteT (plain _ rfl)
    rw [decide_eq_false (fun z => c0 (by have := V.int.inj z; omega))]
    refine iteF ⟨_, rfl, rfl, _, rfl, ?_⟩
    by_cases c1 : r = 0
    · subst c1
      exact iteT (plain _ rfl)
    rw [decide_eq_false (fun z => c1 (V.int.inj z))]
    obtain ⟨e, rfl⟩ : ∃ e, d = e + 1 := ⟨d - 1, by omega⟩
    have hde : (((e + 1 : Nat) : Int)) - 1 = ((e : Nat) : Int) := by omega
    have ve : [V.ref a, V.ref np, V.int ((((e + 1 : Nat) : Int)) - 1), V.int 3] = [V.ref a, V.ref np, V.int ((e : Nat) : Int), V.int 3] := by rw [hde]
    simp only [bT] at hn
    have eT := bT_pos e
    have eS := bS_pos e
    have kT : bT (e + 1) = 2 + 3 * bT e := rfl
    have kS : bS (e + 1) = 1 + 3 * bS e := rfl
    refine iteF (sq_if0 ⟨_, rfl, rfl, _, rfl, ?_⟩)
    by_cases c2 : r = 1
    · subst c2
      refine iteT ⟨_, rfl, _, rfl, _, rfl, _, _, rfl, rfl, _, rfl, a, l, c, np, n + 1, e, ve, S1, by omega, by omega, fun H2 u f e2 st2 o2 z2 d2 hu => ⟨Nat.le_of_ble_eq_true rfl, fun t ht => ?_⟩⟩
      exact k _ _ (.neg f) ((e1.trans e2).same (Same.new ht)) ((st2.same (Same.new ht)).mono (by omega)) o2 (by simp only [sz]; omega) (by simp only [dp]; omega) (.tup (.of upd_same) (.cons (.str _) (.cons (hu.to (Same.new ht)) .nil)))
    rw [decide_eq_false (fun z => c2 (V.int.inj z))]
    refine iteF (sq_if0 ⟨_, rfl, _, _, rfl, rfl, _, rfl, ?_⟩)
    by_cases c3 : r < 5
    · rw [decide_eq_true c3]
      refine iteT (sq_go ⟨Nat.le_of_ble_eq_true rfl, fun wl hwl => ⟨_, rfl, a, l, c, _, 2, rfl, S1.st.new hwl, by omega, by decide, by decide, fun H5 r5 e5 st5 p1 p2 => ?_⟩⟩)
      have hw5 : H5 wl = some (.lst [.str "some", .str "all"]) := e5 _ _ upd_same (S1.st.off hwl).1 (S1.st.off hwl).2.1
      obtain ⟨w5, hw5b⟩ : ∃ w : Bool, atI [V.str "some", V.str "all"] r5 = some (.str (bw w)) := by
        have : r5 = 0 ∨ r5 = 1 := by omega
        rcases this with rfl | rfl
        · exact ⟨true, rfl⟩
        · exact ⟨false, rfl⟩
      have s5 : Sbt a l H H5 := (e1.same (Same.new hwl)).trans e5
      have S5 : St4 H5 a l c np (n + 2) := hs.sbt s5 (st5.mono (by omega))
      refine ⟨wl, _, r5, _, rfl, rfl, .of hw5, hw5b, ?_⟩
      refine ⟨_, rfl, _, rfl, _, rfl, a, l, c, np, n + 2, nm4, rfl, S5.st, by omega, S5.nm, S5.na, S5.nl, by decide, by decide, fun H6 x e6 st6 hx => ?_⟩
      obtain ⟨m, rfl, hm⟩ : ∃ m : Int, x = .int m ∧ 0 ≤ m ∧ m ≤ 3 := by
        simp only [nm4, List.mem_cons, List.not_mem_nil, or_false] at hx
        rcases hx with rfl | rfl | rfl | rfl
        · exact ⟨0, rfl, by decide, by decide⟩
        · exact ⟨1, rfl, by decide, by decide⟩
        · exact ⟨2, rfl, by decide, by decide⟩
        · exact ⟨3, rfl, by decide, by decide⟩
      have S6 := S5.sbt e6 st6
      refine ⟨_, rfl, _, rfl, _, rfl, _, _, rfl, rfl, _, rfl, a, l, c, np, n + 2 + 1, e, ve, S6, by omega, by omega, fun H7 u f e7 st7 o7 z7 d7 hu => ⟨Nat.le_of_ble_eq_true rfl, fun t ht => ?_⟩⟩
      exact k _ _ (.bnd w5 m f) (((s5.trans e6).trans e7).same (Same.new ht)) ((st7.same (Same.new ht)).mono (by omega)) (by simp only [okF, o7, Bool.and_true, decide_eq_true_eq]; omega) (by simp only [sz]; omega) (by simp only [dp]; omega) (.tup (.of upd_same) (.cons (.str _) (.cons (.int _) (.cons (hu.to (Same.new ht)) .nil))))
    rw [decide_eq_false c3]
    refine iteF (sq_go ⟨Nat.zero_le _, fun t0 ht0 => ?_⟩)
    have S2 := S1.same (Same.new (o := HO.tup []) ht0)
    have s2 : Sbt a l H (upd H1 t0 (HO.tup [])) := e1.same (Same.new ht0)
    have h20 : Dp K (upd H1 t0 (HO.tup [])) (.ref t0) (.tuple (fmDs [])) := .tup (.of upd_same) .nil
    generalize upd H1 t0 (HO.tup []) = H2 at S2 s2 h20 ⊢
    show tSeq (tFor _ _ _) _ _ [some (.ref a), some (.ref np), some (.int ((e + 1 : Nat) : Int)), some (.int 3), some (.int r), none, some (.ref t0), none] _
    refine sq_fr ⟨_, rfl, a, l, c, _, 4, rfl, S2.st, by omega, by decide, by decide, fun H3 r3 e3 st3 p1 p2 => ⟨r3, rfl, by omega, by omega, ?_⟩⟩
    have S3 := S2.sbt e3 st3
    have h30 := keepT e3 S2.st _ _ (rfl : noList (.tuple (fmDs [])) = true) h20
    have s3 := s2.trans e3
    refine for_it walk_range (fun i σ H' => ∃ (q : V) (fs : List Fm) (v5 v7 : Option V), σ = [some (.ref a), some (.ref np), some (.int ((e + 1 : Nat) : Int)), some (.int 3), some (.int r), v5, some q, v7] ∧ Sbt a l H H' ∧ St4 H' a l c np (n + 2 + i * bT e) ∧ Dp K H' q (.tuple (fmDs fs)) ∧ okFs fs = true ∧ szs fs ≤ i * bS e ∧ (∀ g ∈ fs, dp g ≤ 6 + e) ∧ fs.length = i)
      ⟨_, [], none, none, rfl, s3, by rw [Nat.zero_mul]; exact S3, h30, rfl, Nat.zero_le _, (fun g hg => absurd hg (by simp)), rfl⟩ (fun _ _ _ _ _ => trivial) (fun i x σ H4 H5 hi p y => ?_) (fun σ H4 p => ?_)
    · obtain ⟨q, fs, v5, v7, rfl, s4, S4, hq, o4, z4, d4, l4⟩ := p
      obtain ⟨rfl, rfl⟩ := y
      have hi4 : i < 3 := by omega
      have ib : i * bT e ≤ 2 * bT e := Nat.mul_le_mul_right _ (by omega)
      have i1 : (i + 1) * bT e = i * bT e + bT e := Nat.succ_mul _ _
      have j1 : (i + 1) * bS e = i * bS e + bS e := Nat.succ_mul _ _
      refine ⟨_, rfl, _, rfl, _, rfl, _, rfl, _, _, rfl, rfl, _, rfl, a, l, c, np, _, e, ve, S4, by omega, by omega, fun H6 u f e6 st6 o6 z6 d6 hu => ⟨Nat.le_of_ble_eq_true rfl, fun t ht => ?_⟩⟩
      have nl4 : noList (.tuple (fmDs fs)) = true := noList_fms fs o4
      have hq6 := (keepT e6 S4.st _ _ nl4 hq).to (Same.new (o := HO.tup [u]) ht)
      have hu6 := hu.to (Same.new (o := HO.tup [u]) ht)
      have st7 := st6.same (Same.new (o := HO.tup [u]) ht)
      have s7 := (s4.trans e6).same (Same.new (o := HO.tup [u]) ht)
      obtain ⟨qa, zs, rfl, hqz, hqa⟩ := hq6.tup_inv
      have zl := hqa.length
      rw [fmDs_map, List.length_map] at zl
      refine ⟨qa, t, zs, [u], rfl, rfl, hqz, .of upd_same, by simp; omega, fun H8 r8 e8 h8 => ?_⟩
      refine ⟨.ref r8, fs ++ [f], _, _, rfl, s7.same e8, hs.sbt (s7.same e8) ((st7.same e8).mono (by omega)), ?_, by rw [okFs_append, o4]; simp [okFs, o6], by rw [szs_append]; simp only [szs]; omega, fun g hg => ?_, by simp [l4]⟩
      · rw [fmDs_map] at hqa ⊢
        rw [List.map_append]
        exact .tup h8 ((hqa.to e8).append (.cons (hu6.to e8) .nil))
      · rcases List.mem_append.mp hg with hg | hg
        · exact d4 g hg
        · obtain rfl : g = f := by simpa using hg
          exact d6
    · obtain ⟨q, fs, v5, v7, rfl, s4, S4, hq, o4, z4, d4, l4⟩ := p
      have hr3 : r3.toNat ≤ 3 := by omega
      have ib : r3.toNat * bT e ≤ 3 * bT e := Nat.mul_le_mul_right _ hr3
      have jb : r3.toNat * bS e ≤ 3 * bS e := Nat.mul_le_mul_right _ hr3
      refine ⟨Nat.le_of_ble_eq_true rfl, fun wl hwl => ?_⟩
      obtain ⟨w5, hw5b⟩ : ∃ w : Bool, atI [V.str "and", V.str "or"] (r - 5) = some (.str (lw w)) := by
        have : r = 5 ∨ r = 6 := by omega
        rcases this with rfl | rfl
        · exact ⟨true, rfl⟩
        · exact ⟨false, rfl⟩
      refine ⟨_, rfl, _, _, rfl, rfl, wl, _, r - 5, _, rfl, rfl, .of upd_same, hw5b, _, rfl, Nat.le_of_ble_eq_true rfl, fun t ht => ?_⟩
      have e9 := (Same.new (o := HO.lst [V.str "and", V.str "or"]) hwl).then_new (o := HO.tup [V.str (lw w5), q]) ht
      have dd : dps fs ≤ 6 + e := dps_le d4
      exact k _ _ (.lst w5 fs) (s4.same e9) ((S4.st.same e9).mono (by omega)) o4 (by simp only [sz]; omega) (by simp only [dp]; omega) (.tup (.of upd_same) (.cons (.str _) (.cons (hq.to e9) .nil)))
end
end Ws
/-! ## Q03c -/
namespace Ws
open PySem PySem.Spec PyProof.Rows L2 Fo
local macro_rules | `(tactic| walk_at "nf") => `(tactic| dsimp only [tNext, tSeq, tDrop, tRet, tRetN, tIfS, tAsg, gName, gTup, gCons, gNil, tVar, tC, tOp, tUn, rI, rI0, rU, rEq, rNe, tTest, tChain, tAnd, tOr, tNot, tAndV, tOrV, tNotV, tIf, tCB, tCKw, tCons, tNil, tTup, tLst, tCa, tCallS, tB, rIxT, rIxL, rIxS, cxOf, Cx.nox, Cx.wish, Cx.blk, L2.start, tPar, tPar3, tNever, tYes, tBits, tRz, tBM, rAppend, tyV, tXf, suiteEnds, gSub, rSetL, tBreak, rMax, tDGet, sDPut, tSl, tNoPart, tPart, tDisp, tPairs, tDGet2, tDNewK, tAugS, ipI, rGetL, tDIn, tDNotIn, tBM0, rPop])
local macro_rules | `(tactic| walk_at "sx") => `(tactic| simp only [wipe, List.cons.injEq, and_assoc, exists_and_left, and_true, List.map_cons, List.map_nil, List.length_cons, List.length_nil, List.cons_append, List.nil_append, List.append_nil, Nat.reduceAdd, Nat.reduceSub, List.replicate, List.getElem?_cons_zero, List.getElem?_cons_succ, List.set_cons_zero, List.set_cons_succ, Option.some.injEq, V.int.injEq, V.bl.injEq, V.ref.injEq, V.str.injEq, exists_eq_left', exists_eq_left, true_and, Bool.true_eq_false, Bool.false_eq_true, if_true, if_false])

theorem eqv_ints : ∀ a b : List Int, PyData.eqv (intsD a) (intsD b) = decide (a = b)
  | [], [] => rfl
  | [], _ :: _ => rfl
  | _ :: _, [] => rfl
  | x :: a, y :: b => by
    have ih := eqv_ints a b
    show ((x == y) && PyData.eqv (intsD a) (intsD b)) = _
    rw [ih]
    by_cases c : x = y
    · subst c; simp
    · simp [c]
theorem shaped_intsD (is : List Int) : SeqAt.shaped (intsD is) = true := by
  unfold SeqAt.shaped intsD
  simp only [PyData.canLay0, canLay_ints, PyData.depth, depth_ints, Bool.true_and]
  rfl
structure SN (n : Nat) (d : PyData) : Prop where
  lay : d.canLay0 = true
  dep : d.depth ≤ n
theorem SN.all {n : Nat} : ∀ {ds : List PyData}, (∀ d ∈ ds, SN n d) → PyData.canLayAll0 ds = true ∧ PyData.depthAll ds ≤ n
  | [], _ => ⟨by simp [PyData.canLayAll0], by simp [PyData.depthAll]⟩
  | d :: ds, h => by
    obtain ⟨i1, i2⟩ := SN.all (ds := ds) fun x hx => h x (List.mem_cons_of_mem _ hx)
    have h1 := h d (List.mem_cons_self ..)
    refine ⟨by simp [PyData.canLayAll0, i1, h1.lay], ?_⟩
    have := h1.dep
    simp only [PyData.depthAll]
    omega
theorem SN.list {n : Nat} {ds : List PyData} (h : ∀ d ∈ ds, SN n d) : SN (n + 1) (.list ds) := by
  obtain ⟨h1, h2⟩ := SN.all h
  exact ⟨by simp [PyData.canLay0, h1], by simp only [PyData.depth]; omega⟩
theorem SN.tuple {n : Nat} {ds : List PyData} (h : ∀ d ∈ ds, SN n d) : SN (n + 1) (.tuple ds) := by
  obtain ⟨h1, h2⟩ := SN.all h
  exact ⟨by simp [PyData.canLay0, h1], by simp only [PyData.depth]; omega⟩
theorem SN.shaped {n : Nat} {d : PyData} (h : SN n d) (hn : n ≤ 64) : SeqAt.shaped d = true := by
  have := h.dep
  unfold SeqAt.shaped
  rw [h.lay, decide_eq_true (by omega)]
  rfl
theorem SN.int (z : Int) : SN 0 (.int z) := ⟨by simp [PyData.canLay0], by simp [PyData.depth]⟩
theorem SN.ints (ns : List Int) : SN 1 (intsD ns) := SN.tuple fun d hd => by
  obtain ⟨i, _, rfl⟩ := List.mem_map.mp hd
  exact .int i

theorem wk_pw : ∀ (f : Fm) (p : List Int) (d d' : Nat), (wk p d f).map pwD = (wk p d' f).map pwD :=
  ind fun f ih p d d' => by
    rw [wk_ins p d f, wk_ins p d' f, List.map_cons, List.map_cons, List.map_flatten, List.map_flatten, List.map_map, List.map_map]
    have e : (ins f).map (List.map pwD ∘ fun x => wk (p ++ x.1) (d + 1) x.2) = (ins f).map (List.map pwD ∘ fun x => wk (p ++ x.1) (d' + 1) x.2) := List.map_congr_left fun x hx => ih x hx _ _ _
    rw [e]
    rfl
def spInside (K : PySem.W.Frag) : Sp := fun vs H Q _ => ∃ (v : V) (f : Fm), vs = [v] ∧ Dp K H v (fmD f) ∧ lwF f = true ∧ (ins f).length ≤ 3000 ∧ ∀ H' l zs, Same H H' → H l = none → H' l = some (.lst zs) → DpAll K H' zs ((ins f).map insD) → Q (.ref l) H'
def spParts (N : Nat) (K : PySem.W.Frag) : Sp := fun vs H Q _ => ∃ (v pv : V) (f : Fm) (p : List Int), vs = [v, pv] ∧ Dp K H v (fmD f) ∧ Dp K H pv (intsD p) ∧ lwF f = true ∧ dp f ≤ N ∧ sz f ≤ 3000 ∧ p.length + 2 * dp f ≤ 1000 ∧
  ∀ H' l zs, Same H H' → H l = none → H' l = some (.lst zs) → DpAll K H' zs ((wk p 1 f).map pwD) → Q (.ref l) H'
def spDeep (N : Nat) (K : PySem.W.Frag) : Sp := fun vs H Q _ => ∃ (v : V) (f : Fm), vs = [v] ∧ Dp K H v (fmD f) ∧ lwF f = true ∧ dp f ≤ N ∧ sz f ≤ 3000 ∧ ∀ H', Same H H' → Q (.int (dp f : Nat)) H'
def spPutAt (N : Nat) (K : PySem.W.Frag) : Sp := fun vs H Q _ => ∃ (S : List Addr) (v pv gv : V) (f g h : Fm) (p : List Int), vs = [v, pv, gv] ∧ Lsts S H ∧ Dp K H v (fmD f) ∧ Dp K H pv (intsD p) ∧ Dp K (hid S H) gv (fmD g) ∧ lwF f = true ∧ dp f ≤ N ∧ sz f ≤ 3000 ∧ p.length ≤ 1000 ∧ Put g f p h ∧
  ∀ H' u, Same H H' → Dp K (hid S H') u (fmD h) → Q u H'
abbrev s__law_inside : Stmt := top 46
abbrev nm__law_inside : List Str := ["formula", "at", "part"]
abbrev pr__law_inside : List Str := ["formula"]
theorem sc__law_inside : FnScope nm__law_inside pr__law_inside (defScope s__law_inside) := ⟨rfl, rfl, rfl, by decide +kernel, rfl, by decide +kernel, by decide +kernel⟩
abbrev s__law_parts : Stmt := top 47
abbrev nm__law_parts : List Str := ["formula", "path", "found", "step", "part"]
abbrev pr__law_parts : List Str := ["formula", "path"]
theorem sc__law_parts : FnScope nm__law_parts pr__law_parts (defScope s__law_parts) := ⟨rfl, rfl, rfl, by decide +kernel, rfl, by decide +kernel, by decide +kernel⟩
abbrev s__law_deep : Stmt := top 48
abbrev nm__law_deep : List Str := ["formula", "found", "step", "part"]
abbrev pr__law_deep : List Str := ["formula"]
theorem sc__law_deep : FnScope nm__law_deep pr__law_deep (defScope s__law_deep) := ⟨rfl, rfl, rfl, by decide +kernel, rfl, by decide +kernel, by decide +kernel⟩
abbrev s__law_put_at : Stmt := top 49
abbrev nm__law_put_at : List Str := ["formula", "path", "part", "items_so"]
abbrev pr__law_put_at : List Str := ["formula", "path", "part"]
theorem sc__law_put_at : FnScope nm__law_put_at pr__law_put_at (defScope s__law_put_at) := ⟨rfl, rfl, rfl, by decide +kernel, rfl, by decide +kernel, by decide +kernel⟩
theorem noList_insL {f : Fm} (o : lwF f = true) : noListAll ((ins f).map insD) = true := noListAll_of fun x hx => by
  obtain ⟨y, hy, rfl⟩ := List.mem_map.mp hx
  show (noList (intsD y.1) && (noList (fmD y.2) && true)) = true
  rw [noList_ints, noList_lw y.2 (lwF_ins o y hy)]
  rfl
section
variable {P : Program} {w : World} {K : PySem.W.Frag} {mg : Str → Option Value} {base : Heap}
theorem ok_inside (B : Bl mg) (D : Dt K mg "_law_inside" s__law_inside pr__law_inside) : Df P w K mg base CX0 1 "_law_inside" pr__law_inside (spInside K) := by
  refine D.ok sc__law_inside (fun vs H Q E h => ?_) (fun f cdv A outer s H vs Q E hr h => ?_)
  · obtain ⟨v, f, rfl, _⟩ := h
    rfl
  · obtain ⟨v, f, rfl, hd, o, few, k⟩ := h
    refine ⟨_, (pss_cons (ps_if (pt_cmpR op_in_seq (pe_ix ix_tup (pv 0) pe_int (fun _ _ => rfl)) (pe_tup (pa_cons pe_str (pa_cons pe_str pa_nil))) (by rfl)) (pss_one (ps_ret (pe_lc (own := [("at", 1), ("part", 2)]) (g := gTup K 2 (gCons (gName 1) (gCons (gName 2) gNil))) (tt := tYes) (by rfl) sc__law_inside.nd (pi_enumT (by rfl) B.enumerate (pa_cons (pe_ix ix_tup (pv 0) pe_int (fun _ _ => rfl)) pa_nil)) (blkOk_by (own := [("at", 1), ("part", 2)]) (N := nm__law_inside) (sc := defScope s__law_inside) (by decide +kernel)) (fun _ _ _ _ _ => pg_tup rfl (pgs_cons (pg_name (i := 1) sc__law_inside.nd rfl (Or.inl rfl)) (pgs_cons (pg_name (i := 2) sc__law_inside.nd rfl (Or.inl rfl)) pgs_nil))) (fun _ _ _ _ _ => pts_nil) (fun _ _ _ _ _ => (pe_tup (pa_cons (pe_tup (pa_cons pe_int (pa_cons (pv 1) pa_nil))) (pa_cons (pv 2) pa_nil))))))) pss_nil) (pss_cons (ps_if (pt_cmpR op_eq (pe_ix ix_tup (pv 0) pe_int (fun _ _ => rfl)) pe_str (nomark _)) (pss_one (ps_ret (pe_lst (pa_cons (pe_tup (pa_cons (pe_tup (pa_cons pe_int pa_nil)) (pa_cons (pe_ix ix_tup (pv 0) pe_int (fun _ _ => rfl)) pa_nil))) pa_nil)))) pss_nil) (pss_one (ps_ret (pe_ifExp (pt_cmpR op_in_seq (pe_ix ix_tup (pv 0) pe_int (fun _ _ => rfl)) (pe_tup (pa_cons pe_str (pa_cons pe_str pa_nil))) (by rfl)) (pe_lst (pa_cons (pe_tup (pa_cons (pe_tup (pa_cons pe_int pa_nil)) (pa_cons (pe_ix ix_tup (pv 0) pe_int (fun _ _ => rfl)) pa_nil))) pa_nil)) (pe_lst pa_nil)))))), ?_⟩
    dsimp only [cxOf, Cx.nox, L2.start]
    cases f with
    | bad n => cases o
    | ge c ps =>
      obtain ⟨p, x, y, rfl, hq, h1, h2⟩ := Dp.two (show Dp K H v (.tuple [.str "ge", tmD c ps]) from hd)
      cases h1
      exact sq_if0 ⟨_, rfl, p, _, 0, _, rfl, rfl, hq, rfl, Nat.le_of_ble_eq_true rfl, fun t1 ht1 => ⟨t1, _, rfl, .inr (.of upd_same), rfl, rfl, _, rfl, iteF (sq_if0 ⟨_, rfl, p, _, 0, _, rfl, rfl, (Same.new ht1).seqT hq, rfl, rfl, _, rfl, iteF ⟨_, rfl, p, _, 0, _, rfl, rfl, (Same.new ht1).seqT hq, rfl, Nat.le_of_ble_eq_true rfl, fun t2 ht2 => ⟨t2, _, rfl, .inr (.of upd_same), rfl, rfl, _, rfl, iteF ⟨Nat.zero_le _, fun l hl => k _ l [] ((((Same.new ht1).then_new ht2)).then_new hl) (((Same.new ht1).then_new ht2).back hl) upd_same .nil⟩⟩⟩⟩)⟩⟩
    | eq c ps =>
      obtain ⟨p, x, y, rfl, hq, h1, h2⟩ := Dp.two (show Dp K H v (.tuple [.str "eq", tmD c ps]) from hd)
      cases h1
      exact sq_if0 ⟨_, rfl, p, _, 0, _, rfl, rfl, hq, rfl, Nat.le_of_ble_eq_true rfl, fun t1 ht1 => ⟨t1, _, rfl, .inr (.of upd_same), rfl, rfl, _, rfl, iteF (sq_if0 ⟨_, rfl, p, _, 0, _, rfl, rfl, (Same.new ht1).seqT hq, rfl, rfl, _, rfl, iteF ⟨_, rfl, p, _, 0, _, rfl, rfl, (Same.new ht1).seqT hq, rfl, Nat.le_of_ble_eq_true rfl, fun t2 ht2 => ⟨t2, _, rfl, .inr (.of upd_same), rfl, rfl, _, rfl, iteF ⟨Nat.zero_le _, fun l hl => k _ l [] ((((Same.new ht1).then_new ht2)).then_new hl) (((Same.new ht1).then_new ht2).back hl) upd_same .nil⟩⟩⟩⟩)⟩⟩
    | mod m c ps =>
      obtain ⟨p, zs0, rfl, hq, ha⟩ := (show Dp K H v (.tuple [.str "mod", .int m, tmD c ps]) from hd).tup_inv
      obtain ⟨x, z, y, rfl, h1, h3, h2⟩ := ha.three
      cases h1
      exact sq_if0 ⟨_, rfl, p, _, 0, _, rfl, rfl, hq, rfl, Nat.le_of_ble_eq_true rfl, fun t1 ht1 => ⟨t1, _, rfl, .inr (.of upd_same), rfl, rfl, _, rfl, iteF (sq_if0 ⟨_, rfl, p, _, 0, _, rfl, rfl, (Same.new ht1).seqT hq, rfl, rfl, _, rfl, iteF ⟨_, rfl, p, _, 0, _, rfl, rfl, (Same.new ht1).seqT hq, rfl, Nat.le_of_ble_eq_true rfl, fun t2 ht2 => ⟨t2, _, rfl, .inr (.of upd_same), rfl, rfl, _, rfl, iteF ⟨Nat.zero_le _, fun l hl => k _ l [] ((((Same.new ht1).then_new ht2)).then_new hl) (((Same.new ht1).then_new ht2).back hl) upd_same .nil⟩⟩⟩⟩)⟩⟩
    | neg g =>
      obtain ⟨p, x, y, rfl, hq, h1, h2⟩ := Dp.two (show Dp K H v (.tuple [.str "not", fmD g]) from hd)
      cases h1
      have fin : ∀ (n : Int) (H1 : Hp) (t : Addr), n = 1 → Same H H1 → H1 t = none → ∀ t2, upd H1 t (HO.tup [.int n]) t2 = none → ∀ l, upd (upd H1 t (HO.tup [.int n])) t2 (HO.tup [.ref t, y]) l = none → Q (.ref l) (upd (upd (upd H1 t (HO.tup [.int n])) t2 (HO.tup [.ref t, y])) l (HO.lst [.ref t2])) := fun n H1 t en s1 ht t2 ht2 l hl => by
        subst en
        have e2 := (s1.then_new (o := HO.tup [V.int 1]) ht).then_new (o := HO.tup [V.ref t, y]) ht2
        have e3 := e2.then_new (o := HO.lst [V.ref t2]) hl
        have et : upd (upd (upd H1 t (HO.tup [V.int 1])) t2 (HO.tup [V.ref t, y])) l (HO.lst [V.ref t2]) t = some (.tup [V.int 1]) := by
          rw [upd_ne (ne_of_none (by rw [upd_ne (ne_of_none upd_same ht2)]; exact upd_same) hl), upd_ne (ne_of_none upd_same ht2)]
          exact upd_same
        have et2 : upd (upd (upd H1 t (HO.tup [V.int 1])) t2 (HO.tup [V.ref t, y])) l (HO.lst [V.ref t2]) t2 = some (.tup [V.ref t, y]) := by
          rw [upd_ne (ne_of_none upd_same hl)]
          exact upd_same
        exact k _ l [.ref t2] e3 (e2.back hl) upd_same (.cons (.tup (.of et2) (.cons (.tup (.of et) (.cons (.int _) .nil)) (.cons (h2.to e3) .nil))) .nil)
      exact sq_if0 ⟨_, rfl, p, _, 0, _, rfl, rfl, hq, rfl, Nat.le_of_ble_eq_true rfl, fun t1 ht1 => ⟨t1, _, rfl, .inr (.of upd_same), rfl, rfl, _, rfl, iteF (sq_if0 ⟨_, rfl, p, _, 0, _, rfl, rfl, (Same.new ht1).seqT hq, rfl, rfl, _, rfl, iteT ⟨Nat.le_of_ble_eq_true rfl, fun t ht => ⟨_, rfl, p, _, 1, _, rfl, rfl, ((Same.new ht1).then_new ht).seqT hq, rfl, Nat.le_of_ble_eq_true rfl, fun t2 ht2 => ⟨Nat.le_of_ble_eq_true rfl, fun l hl => fin 1 _ t rfl (Same.new ht1) ht t2 ht2 l hl⟩⟩⟩⟩)⟩⟩
    | bnd w m g =>
      obtain ⟨p, zs0, rfl, hq, ha⟩ := (show Dp K H v (.tuple [.str (bw w), .int m, fmD g]) from hd).tup_inv
      obtain ⟨x, z, y, rfl, h1, h3, h2⟩ := ha.three
      cases h1
      have fin : ∀ (n : Int) (H1 : Hp) (t : Addr), n = 2 → Same H H1 → H1 t = none → ∀ t2, upd H1 t (HO.tup [.int n]) t2 = none → ∀ l, upd (upd H1 t (HO.tup [.int n])) t2 (HO.tup [.ref t, y]) l = none → Q (.ref l) (upd (upd (upd H1 t (HO.tup [.int n])) t2 (HO.tup [.ref t, y])) l (HO.lst [.ref t2])) := fun n H1 t en s1 ht t2 ht2 l hl => by
        subst en
        have e2 := (s1.then_new (o := HO.tup [V.int 2]) ht).then_new (o := HO.tup [V.ref t, y]) ht2
        have e3 := e2.then_new (o := HO.lst [V.ref t2]) hl
        have et : upd (upd (upd H1 t (HO.tup [V.int 2])) t2 (HO.tup [V.ref t, y])) l (HO.lst [V.ref t2]) t = some (.tup [V.int 2]) := by
          rw [upd_ne (ne_of_none (by rw [upd_ne (ne_of_none upd_same ht2)]; exact upd_same) hl), upd_ne (ne_of_none upd_same ht2)]
          exact upd_same
        have et2 : upd (upd (upd H1 t (HO.tup [V.int 2])) t2 (HO.tup [V.ref t, y])) l (HO.lst [V.ref t2]) t2 = some (.tup [V.ref t, y]) := by
          rw [upd_ne (ne_of_none upd_same hl)]
          exact upd_same
        exact k _ l [.ref t2] e3 (e2.back hl) upd_same (.cons (.tup (.of et2) (.cons (.tup (.of et) (.cons (.int _) .nil)) (.cons (h2.to e3) .nil))) .nil)
      cases w <;> exact sq_if0 ⟨_, rfl, p, _, 0, _, rfl, rfl, hq, rfl, Nat.le_of_ble_eq_true rfl, fun t1 ht1 => ⟨t1, _, rfl, .inr (.of upd_same), rfl, rfl, _, rfl, iteF (sq_if0 ⟨_, rfl, p, _, 0, _, rfl, rfl, (Same.new ht1).seqT hq, rfl, rfl, _, rfl, iteF ⟨_, rfl, p, _, 0, _, rfl, rfl, (Same.new ht1).seqT hq, rfl, Nat.le_of_ble_eq_true rfl, fun t2 ht2 => ⟨t2, _, rfl, .inr (.of upd_same), rfl, rfl, _, rfl, iteT ⟨Nat.le_of_ble_eq_true rfl, fun t ht => ⟨_, rfl, p, _, 2, _, rfl, rfl, (((Same.new ht1).then_new ht2).then_new ht).seqT hq, rfl, Nat.le_of_ble_eq_true rfl, fun t3 ht3 => ⟨Nat.le_of_ble_eq_true rfl, fun l hl => fin 2 _ t rfl ((Same.new ht1).then_new ht2) ht t3 ht3 l hl⟩⟩⟩⟩⟩⟩)⟩⟩
    | lst w fs =>
      obtain ⟨p, x, y, rfl, hq, h1, h2⟩ := Dp.two (show Dp K H v (.tuple [.str (lw w), .tuple (fmDs fs)]) from hd)
      cases h1
      rw [fmDs_map] at h2
      obtain ⟨q, zs, rfl, hz, hzl, hzat, hza⟩ := tup_view h2
      have go : ∀ (H0 : Hp) (D : Ends), Same H H0 → D.rt = Q → tRet (tLc (iEnumT K (tCons (tOp (rIxT K) (tVar 0) (tC (V.int 1))) tNil)) (gTup K 2 (gCons (gName 1) (gCons (gName 2) gNil))) tYes (tTup (tCons (tTup (tCons (tC (V.int 1)) (tCons (tVar 1) tNil))) (tCons (tVar 2) tNil))) [1, 2]) D [some (.ref p), none, none] H0 := fun H0 D e0 eD => by
        obtain ⟨nx, rt, bk, ct⟩ := D
        obtain rfl : rt = Q := eD
        have few2 : zs.length < 100000 := by
          have : (ins (.lst w fs)).length = fs.length := en_len fs 0
          omega
        have hz0 := e0.seqT hz
        refine ⟨_, rfl, p, _, 1, _, rfl, rfl, e0.seqT hq, rfl, q, zs, rfl, hz0, fun D hD => lcH (K := K) (S := []) walk_enumT hD (slt few2) lsts_nil (fun i => insD ([1, (i : Int)], fs.getD i default)) (fun H1 e => e.seqT hz0) (fun i x H1 H2 Q1 hi e l y q1 => ?_) (fun H1 ys e hy hn ha => ?_)⟩
        · obtain ⟨T, x1, x2, rfl, hT, rfl, e1, e2⟩ := y
          cases e1
          walk_at "nf"
          refine ⟨T, _, rfl, .of upd_same, rfl, ?_⟩
          walk_at "sx"
          have l1 := lsts_to l (Same.new (o := HO.tup [V.int (i : Nat), x2]) hT)
          have e1 : Same H1 (upd H1 T (HO.tup [V.int (i : Nat), x2])) := Same.new hT
          generalize upd H1 T (HO.tup [V.int (i : Nat), x2]) = H2 at *
          refine ⟨Nat.le_of_ble_eq_true rfl, fun t ht => ⟨Nat.le_of_ble_eq_true rfl, fun t2 ht2 => q1 _ _ ((e1.then_new ht).then_new ht2) ?_⟩⟩
          have l3 := lsts_to l1 ((Same.new (o := HO.tup [V.int 1, V.int (i : Nat)]) ht).then_new (o := HO.tup [V.ref t, x2]) ht2)
          have e3 := (e.trans e1).trans ((Same.new (o := HO.tup [V.int 1, V.int (i : Nat)]) ht).then_new (o := HO.tup [V.ref t, x2]) ht2)
          refine .tup (seqT_hid l3 (.of upd_same)) (.cons (.tup (seqT_hid l3 (.of (by rw [upd_ne (ne_of_none upd_same ht2)]; exact upd_same))) (.cons (.int _) (.cons (.int _) .nil))) (.cons ?_ .nil))
          obtain ⟨g, hg1, hg2⟩ := hzat i x2 e2
          have ed : fs.getD i default = g := by rw [List.getD_eq_getElem?_getD, hg1]; rfl
          show Dp K _ x2 (fmD (fs.getD i default))
          rw [ed]
          have s3 := same_hid (S := []) hD e3
          rw [hid_nil] at s3
          exact (hg2.to e0).to s3
        · rw [hid_nil] at ha
          refine k _ D ys (e0.trans e) (e0.back hD) hy ?_
          have el : (List.range zs.length).map (fun i : Nat => insD ([1, (i : Int)], fs.getD i default)) = (ins (.lst w fs)).map insD := by
            refine List.ext_getElem? fun j => ?_
            rw [List.getElem?_map, List.getElem?_map]
            show _ = ((en 0 fs)[j]?).map insD
            rw [en_get]
            by_cases c : j < fs.length
            · rw [List.getElem?_range (by omega), List.getElem?_eq_getElem c]
              simp [c]
            · rw [List.getElem?_eq_none (by simp; omega), List.getElem?_eq_none (by omega)]
              rfl
          rw [← el]
          exact ha
      cases w <;> exact sq_if0 ⟨_, rfl, p, _, 0, _, rfl, rfl, hq, rfl, Nat.le_of_ble_eq_true rfl, fun t1 ht1 => ⟨t1, _, rfl, .inr (.of upd_same), rfl, rfl, _, rfl, iteT (go _ _ (Same.new ht1) rfl)⟩⟩
end
end Ws
/-! ## Q03d -/
namespace Ws
open PySem PySem.Spec PyProof.Rows L2 Fo
local macro_rules | `(tactic| walk_at "nf") => `(tactic| dsimp only [tNext, tSeq, tDrop, tRet, tRetN, tIfS, tAsg, gName, gTup, gCons, gNil, tVar, tC, tOp, tUn, rI, rI0, rU, rEq, rNe, tTest, tChain, tAnd, tOr, tNot, tAndV, tOrV, tNotV, tIf, tCB, tCKw, tCons, tNil, tTup, tLst, tCa, tCallS, tB, rIxT, rIxL, rIxS, cxOf, Cx.nox, Cx.wish, Cx.blk, L2.start, tPar, tPar3, tNever, tYes, tBits, tRz, tBM, rAppend, tyV, tXf, suiteEnds, gSub, rSetL, tBreak, rMax, tDGet, sDPut, tSl, tNoPart, tPart, tDisp, tPairs, tDGet2, tDNewK, tAugS, ipI, rGetL, tDIn, tDNotIn, tBM0, rPop])
local macro_rules | `(tactic| walk_at "sx") => `(tactic| simp only [wipe, List.cons.injEq, and_assoc, exists_and_left, and_true, List.map_cons, List.map_nil, List.length_cons, List.length_nil, List.cons_append, List.nil_append, List.append_nil, Nat.reduceAdd, Nat.reduceSub, List.replicate, List.getElem?_cons_zero, List.getElem?_cons_succ, List.set_cons_zero, List.set_cons_succ, Option.some.injEq, V.int.injEq, V.bl.injEq, V.ref.injEq, V.str.injEq, exists_eq_left', exists_eq_left, true_and, Bool.true_eq_false, Bool.false_eq_true, if_true, if_false])

theorem noList_pwL {f : Fm} (o : lwF f = true) (p : List Int) (d : Nat) : noListAll ((wk p d f).map pwD) = true := noListAll_of fun x hx => by
  obtain ⟨y, hy, rfl⟩ := List.mem_map.mp hx
  show (noList (intsD y.1) && (noList (fmD y.2.2) && true)) = true
  rw [noList_ints, noList_lw y.2.2 (wk_lw f p d o y hy).1]
  rfl
theorem dps_append : ∀ (a b : List Fm), dps (a ++ b) = max (dps a) (dps b)
  | [], b => by simp [dps]
  | f :: a, b => by rw [List.cons_append, dps, dps, dps_append a b, Nat.max_assoc]
theorem dp_ins (f : Fm) : dp f = 1 + dps ((ins f).map (·.2)) := by
  cases f with
  | lst w fs =>
    have h : ∀ (fs : List Fm) (i : Nat), ((en i fs).map (·.2)) = fs := fun fs => by
      induction fs with
      | nil => intro i; rfl
      | cons a fs ih => intro i; rw [en, List.map_cons, ih]
    show 1 + dps fs = 1 + dps ((en 0 fs).map (·.2))
    rw [h]
  | neg f => simp [dp, ins, dps]
  | bnd w n f => simp [dp, ins, dps]
  | _ => simp [dp, ins, dps]
section
variable {P : Program} {w : World} {K : PySem.W.Frag} {mg : Str → Option Value} {base : Heap}
theorem parts0 (D : Dt K mg "_law_parts" s__law_parts pr__law_parts) : Df P w K mg base CX0 2 "_law_parts" pr__law_parts (spParts 0 K) := by
  refine D.ok sc__law_parts (fun vs H Q E h => ?_) (fun f cdv A outer s H vs Q E hr h => ?_)
  · obtain ⟨v, wv, f, p, rfl, _⟩ := h
    rfl
  · obtain ⟨v, wv, f, p, rfl, _, _, _, h, _⟩ := h
    have := dp_pos f
    omega
theorem deep0 (D : Dt K mg "_law_deep" s__law_deep pr__law_deep) : Df P w K mg base CX0 2 "_law_deep" pr__law_deep (spDeep 0 K) := by
  refine D.ok sc__law_deep (fun vs H Q E h => ?_) (fun f cdv A outer s H vs Q E hr h => ?_)
  · obtain ⟨v, f, rfl, _⟩ := h
    rfl
  · obtain ⟨v, f, rfl, _, _, h, _⟩ := h
    have := dp_pos f
    omega
theorem ok_parts {N : Nat} (B : Bl mg) (F1 : Df P w K mg base CX0 1 "_law_inside" pr__law_inside (spInside K)) (F2 : Df P w K mg base CX0 (2 + N) "_law_parts" pr__law_parts (spParts N K)) (D : Dt K mg "_law_parts" s__law_parts pr__law_parts) :
    Df P w K mg base CX0 (2 + (N + 1)) "_law_parts" pr__law_parts (spParts (N + 1) K) := by
  refine D.ok sc__law_parts (fun vs H Q E h => ?_) (fun f cdv A outer s H vs Q E hr h => ?_)
  · obtain ⟨v, wv, f, p, rfl, _⟩ := h
    rfl
  · obtain ⟨v, wv, f, p, rfl, hd, hp, o, dN, few, pl, k⟩ := h
    refine ⟨_, (pss_cons (ps_set (i := 2) sc__law_parts.nd rfl (Or.inl rfl) (pe_lst (pa_cons (pe_tup (pa_cons (pv 1) (pa_cons (pv 0) pa_nil))) pa_nil))) (pss_cons (ps_for PassesOwn.never rfl (pi_list (pe_f F1 (hr.mono (by show _ ≤ 2 + N; omega)) pass0 (pa_cons (pv 0) pa_nil))) (pg_tup rfl (pgs_cons (pg_name (i := 3) sc__law_parts.nd rfl (Or.inl rfl)) (pgs_cons (pg_name (i := 4) sc__law_parts.nd rfl (Or.inl rfl)) pgs_nil))) (pss_one (ps_set (i := 2) sc__law_parts.nd rfl (Or.inl rfl) (pe_op op_cat (pv 2) (pe_f F2 (hr.mono (by show _ ≤ 2 + N; omega)) pass0 (pa_cons (pv 4) (pa_cons (pe_op (show OpR _ _ (rCatZ K) from op_catZ) (pv 1) (pv 3)) pa_nil))))))) (pss_one (ps_ret (pv 2))))), ?_⟩
    dsimp only [cxOf, Cx.nox, L2.start]
    refine sq_go ⟨_, rfl, _, rfl, Nat.le_of_ble_eq_true rfl, fun t ht => ⟨Nat.le_of_ble_eq_true rfl, fun L hL => ?_⟩⟩
    have e0 : Same H (upd (upd H t (HO.tup [wv, v])) L (HO.lst [V.ref t])) := (Same.new ht).then_new hL
    have et : upd (upd H t (HO.tup [wv, v])) L (HO.lst [V.ref t]) t = some (.tup [wv, v]) := by
      rw [upd_ne (ne_of_none upd_same hL)]; exact upd_same
    have hL0 : H L = none := (Same.new ht).back hL
    have h0 : DpAll K (upd (upd H t (HO.tup [wv, v])) L (HO.lst [V.ref t])) [.ref t] [pwD (p, 1, f)] := .cons (.tup (.of et) (.cons (hp.to e0) (.cons (hd.to e0) .nil))) .nil
    have eL : upd (upd H t (HO.tup [wv, v])) L (HO.lst [V.ref t]) L = some (.lst [.ref t]) := upd_same
    generalize upd (upd H t (HO.tup [wv, v])) L (HO.lst [V.ref t]) = H1 at e0 h0 eL ⊢
    show tSeq (tFor _ _ _) _ _ [some v, some wv, some (.ref L), none, none] _
    have gl := ins_len f
    refine sq_fr ⟨_, rfl, v, f, rfl, hd.to e0, o, by omega, fun H2 l ks e2 hl0 hl hks => ?_⟩
    have lk := hks.length
    rw [List.length_map] at lk
    have wl := wk_len p 1 f
    refine ⟨l, rfl, ⟨ks, .of hl⟩, for_it walk_list (fun i σ H' => ∃ (q : Addr) (zs : List V) (v3 v4 : Option V), σ = [some v, some wv, some (.ref q), v3, v4] ∧ Same H2 H' ∧ H q = none ∧ H' q = some (.lst zs) ∧ DpAll K H' zs ((((p, 1, f) : Wi) :: (((ins f).take i).map fun x => wk (p ++ x.1) 2 x.2).flatten).map pwD))
      ⟨L, [.ref t], none, none, rfl, Same.refl _, hL0, e2 _ _ eL, by rw [List.take_zero]; exact h0.to e2⟩ (fun i σ H' _ q => by obtain ⟨_, _, _, _, _, s, _⟩ := q; exact .of (s _ _ hl)) (fun i x σ H3 H4 hi q y => ?_) (fun σ H3 q => ?_)⟩
    · obtain ⟨q, zs, v3, v4, rfl, s3, hq0, hq, hz⟩ := q
      obtain ⟨rfl, hx⟩ := y
      obtain ⟨d0, hd0, hdx⟩ := hks.getV hx
      rw [List.getElem?_map] at hd0
      obtain ⟨y0, hy0, rfl⟩ : ∃ y0, (ins f)[i]? = some y0 ∧ insD y0 = d0 := by
        cases e : (ins f)[i]? with
        | none => rw [e] at hd0; cases hd0
        | some y0 => rw [e] at hd0; exact ⟨y0, rfl, by simpa using hd0⟩
      have hm := List.mem_of_getElem? hy0
      obtain ⟨st, g⟩ := y0
      obtain ⟨T2, stv, gv, rfl, hT2, hst, hg⟩ := Dp.two (show Dp K H2 x (.tuple [intsD st, fmD g]) from hdx)
      have d1 : dp g + 1 ≤ dp f := ins_dp _ hm
      have z1 : sz g + 1 ≤ sz f := ins_sz _ hm
      have st2 : st.length ≤ 2 := ins_st _ hm
      refine ⟨T2, _, rfl, s3.seqT hT2, rfl, _, _, rfl, _, _, rfl, rfl, ?_⟩
      have s0 : Same H H4 := (e0.trans e2).trans s3
      obtain ⟨pa, hpa', hpa⟩ := (hp.to s0).ints_tup
      obtain ⟨sa, hsa', hsa⟩ := (hst.to s3).ints_tup
      subst hpa' hsa'
      refine ⟨_, rfl, _, rfl, _, rfl, _, rfl, pa, sa, _, _, rfl, rfl, hpa, hsa, by rw [List.length_map, List.length_map]; omega, fun H5 r e5 hr5 => ?_⟩
      have hpn : Dp K H5 (.ref r) (intsD (p ++ st)) := by
        refine Dp.tup_ints ?_
        rw [List.map_append]
        exact hr5
      refine ⟨gv, .ref r, g, p ++ st, rfl, (hg.to s3).to e5, hpn, lwF_ins o _ hm, by omega, by omega, by rw [List.length_append]; omega, fun H6 l6 ws e6 hl60 hl6 hws => ?_⟩
      have e56 := e5.trans e6
      have hzl := hz.length
      have hwl := hws.length
      rw [List.length_map, wk_len] at hwl
      have bound : zs.length ≤ 3001 := by
        rw [hzl, List.length_map, List.length_cons]
        have : ((((ins f).take i).map fun x => wk (p ++ x.1) 2 x.2).flatten).length ≤ sz f := by
          rw [← wk_len p 1 f, wk_ins, List.length_cons]
          refine Nat.le_succ_of_le ?_
          rw [List.length_flatten, List.length_flatten, List.map_map, List.map_map]
          have : ∀ (l : List (List Int × Fm)) (i : Nat), ((l.take i).map (List.length ∘ fun x => wk (p ++ x.1) 2 x.2)).sum ≤ (l.map (List.length ∘ fun x => wk (p ++ x.1) (1 + 1) x.2)).sum := fun l => by
            induction l with
            | nil => intro i; simp
            | cons a l ih =>
              intro i
              cases i with
              | zero => simp
              | succ i =>
                have := ih i
                rw [List.take_succ_cons, List.map_cons, List.map_cons, List.sum_cons, List.sum_cons]
                simp only [Function.comp, wk_len] at this ⊢
                omega
          exact this _ _
        omega
      refine ⟨q, l6, zs, ws, rfl, rfl, e56 _ _ hq, hl6, by rw [sizeLine_eq]; omega, fun q2 hq2 => ?_⟩
      have e6n := Same.new (o := HO.lst (zs ++ ws)) hq2
      refine ⟨q2, zs ++ ws, _, _, rfl, (s3.trans e56).trans e6n, ((s0.trans e56).back hq2), upd_same, ?_⟩
      have et2 : (ins f).take (i + 1) = (ins f).take i ++ [(st, g)] := by
        rw [List.take_add_one, hy0]
        rfl
      rw [et2, List.map_append, List.flatten_append, ← List.cons_append, List.map_append]
      refine ((hz.to e56).to e6n).append ?_
      have ee : (([(st, g)].map fun x => wk (p ++ x.1) 2 x.2).flatten).map pwD = (wk (p ++ st) 1 g).map pwD := by
        show ((wk (p ++ st) 2 g ++ []).map pwD) = _
        rw [List.append_nil]
        exact wk_pw g _ _ _
      rw [ee]
      exact hws.to e6n
    · obtain ⟨q, zs, v3, v4, rfl, s3, hq0, hq, hz⟩ := q
      refine ⟨_, rfl, k _ q zs ((e0.trans e2).trans s3) hq0 hq ?_⟩
      rw [List.take_of_length_le (by omega)] at hz
      rw [wk_ins]
      exact hz
theorem ok_deep {N : Nat} (B : Bl mg) (F1 : Df P w K mg base CX0 1 "_law_inside" pr__law_inside (spInside K)) (F2 : Df P w K mg base CX0 (2 + N) "_law_deep" pr__law_deep (spDeep N K)) (D : Dt K mg "_law_deep" s__law_deep pr__law_deep) :
    Df P w K mg base CX0 (2 + (N + 1)) "_law_deep" pr__law_deep (spDeep (N + 1) K) := by
  refine D.ok sc__law_deep (fun vs H Q E h => ?_) (fun f cdv A outer s H vs Q E hr h => ?_)
  · obtain ⟨v, f, rfl, _⟩ := h
    rfl
  · obtain ⟨v, f, rfl, hd, o, dN, few, k⟩ := h
    refine ⟨_, (pss_cons (ps_set (i := 1) sc__law_deep.nd rfl (Or.inl rfl) pe_int) (pss_cons (ps_for PassesOwn.never rfl (pi_list (pe_f F1 (hr.mono (by show _ ≤ 2 + N; omega)) pass0 (pa_cons (pv 0) pa_nil))) (pg_tup rfl (pgs_cons (pg_name (i := 2) sc__law_deep.nd rfl (Or.inl rfl)) (pgs_cons (pg_name (i := 3) sc__law_deep.nd rfl (Or.inl rfl)) pgs_nil))) (pss_one (ps_set (i := 1) sc__law_deep.nd rfl (Or.inl rfl) (pe_callB (call_max2 rfl) (by rfl) B.max boot_max (pa_cons (pv 1) (pa_cons (pe_f F2 (hr.mono (by show _ ≤ 2 + N; omega)) pass0 (pa_cons (pv 3) pa_nil)) pa_nil)))))) (pss_one (ps_ret (pe_op op_add (pv 1) pe_int))))), ?_⟩
    dsimp only [cxOf, Cx.nox, L2.start]
    refine sq_go ?_
    show tSeq (tFor _ _ _) _ _ [some v, some (.int 0), none, none] _
    have gl := ins_len f
    refine sq_fr ⟨_, rfl, v, f, rfl, hd, o, by omega, fun H2 l ks e2 hl0 hl hks => ?_⟩
    have lk := hks.length
    rw [List.length_map] at lk
    refine ⟨l, rfl, ⟨ks, .of hl⟩, for_it walk_list (fun i σ H' => ∃ (v3 v4 : Option V), σ = [some v, some (.int ((dps (((ins f).take i).map (·.2)) : Nat) : Int)), v3, v4] ∧ Same H2 H') ⟨none, none, rfl, Same.refl _⟩ (fun i σ H' _ q => by obtain ⟨_, _, _, s⟩ := q; exact .of (s _ _ hl)) (fun i x σ H3 H4 hi q y => ?_) (fun σ H3 q => ?_)⟩
    · obtain ⟨v3, v4, rfl, s3⟩ := q
      obtain ⟨rfl, hx⟩ := y
      obtain ⟨d0, hd0, hdx⟩ := hks.getV hx
      rw [List.getElem?_map] at hd0
      obtain ⟨y0, hy0, rfl⟩ : ∃ y0, (ins f)[i]? = some y0 ∧ insD y0 = d0 := by
        cases e : (ins f)[i]? with
        | none => rw [e] at hd0; cases hd0
        | some y0 => rw [e] at hd0; exact ⟨y0, rfl, by simpa using hd0⟩
      have hm := List.mem_of_getElem? hy0
      obtain ⟨st, g⟩ := y0
      obtain ⟨T2, stv, gv, rfl, hT2, hst, hg⟩ := Dp.two (show Dp K H2 x (.tuple [intsD st, fmD g]) from hdx)
      have d1 : dp g + 1 ≤ dp f := ins_dp _ hm
      have z1 : sz g + 1 ≤ sz f := ins_sz _ hm
      refine ⟨T2, _, rfl, s3.seqT hT2, rfl, _, _, rfl, _, _, rfl, rfl, ?_⟩
      refine ⟨_, rfl, _, rfl, gv, g, rfl, hg.to s3, lwF_ins o _ hm, by omega, by omega, fun H5 e5 => ?_⟩
      refine ⟨_, _, rfl, some stv, some gv, ?_, s3.trans e5⟩
      have et2 : (ins f).take (i + 1) = (ins f).take i ++ [(st, g)] := by
        rw [List.take_add_one, hy0]
        rfl
      rw [et2, List.map_append, dps_append]
      have e1 : dps ([(st, g)].map (·.2)) = dp g := by simp [dps]
      rw [e1]
      have e2 : (if ((dp g : Nat) : Int) > ((dps (((ins f).take i).map (·.2)) : Nat) : Int) then ((dp g : Nat) : Int) else ((dps (((ins f).take i).map (·.2)) : Nat) : Int)) = ((max (dps (((ins f).take i).map (·.2))) (dp g) : Nat) : Int) := by
        split <;> omega
      show [some v, some (V.int _), some stv, some gv] = _
      rw [e2]
    · obtain ⟨v3, v4, rfl, s3⟩ := q
      rw [List.take_of_length_le (by omega)]
      refine ⟨_, rfl, _, _, rfl, rfl, ?_⟩
      have ed := dp_ins f
      have := k H3 (e2.trans s3)
      rw [ed] at this
      have ei : ((dps ((ins f).map (·.2)) : Nat) : Int) + 1 = ((1 + dps ((ins f).map (·.2)) : Nat) : Int) := by omega
      show Q (.int (((dps ((ins f).map (·.2)) : Nat) : Int) + 1)) H3
      rw [ei]
      exact this
end
end Ws
/-! ## Q03e -/
namespace Ws
open PySem PySem.Spec PyProof.Rows L2 Fo
local macro_rules | `(tactic| walk_at "nf") => `(tactic| dsimp only [tNext, tSeq, tDrop, tRet, tRetN, tIfS, tAsg, gName, gTup, gCons, gNil, tVar, tC, tOp, tUn, rI, rI0, rU, rEq, rNe, tTest, tChain, tAnd, tOr, tNot, tAndV, tOrV, tNotV, tIf, tCB, tCKw, tCons, tNil, tTup, tLst, tCa, tCallS, tB, rIxT, rIxL, rIxS, cxOf, Cx.nox, Cx.wish, Cx.blk, L2.start, tPar, tPar3, tNever, tYes, tBits, tRz, tBM, rAppend, tyV, tXf, suiteEnds, gSub, rSetL, tBreak, rMax, tDGet, sDPut, tSl, tNoPart, tPart, tDisp, tPairs, tDGet2, tDNewK, tAugS, ipI, rGetL, tDIn, tDNotIn, tBM0, rPop])
local macro_rules | `(tactic| walk_at "sx") => `(tactic| simp only [wipe, List.cons.injEq, and_assoc, exists_and_left, and_true, List.map_cons, List.map_nil, List.length_cons, List.length_nil, List.cons_append, List.nil_append, List.append_nil, Nat.reduceAdd, Nat.reduceSub, List.replicate, List.getElem?_cons_zero, List.getElem?_cons_succ, List.set_cons_zero, List.set_cons_succ, Option.some.injEq, V.int.injEq, V.bl.injEq, V.ref.injEq, V.str.injEq, exists_eq_left', exists_eq_left, true_and, Bool.true_eq_false, Bool.false_eq_true, if_true, if_false])

theorem at0 {α : Type} {x : α} {xs : List α} : atI (x :: xs) 0 = some x := atI_nat (xs := x :: xs) (j := 0) (v := x) rfl
theorem at1 {α : Type} {x y : α} {xs : List α} : atI (x :: y :: xs) 1 = some y := atI_nat (xs := x :: y :: xs) (j := 1) (v := y) rfl
theorem eqv_nil_t (ds : List PyData) : PyData.eqv (.tuple ds) (.tuple []) = ds.isEmpty := by
  cases ds <;> rfl
section
variable {P : Program} {w : World} {K : PySem.W.Frag} {mg : Str → Option Value} {base : Heap}
theorem put0 (D : Dt K mg "_law_put_at" s__law_put_at pr__law_put_at) : Df P w K mg base CX0 2 "_law_put_at" pr__law_put_at (spPutAt 0 K) := by
  refine D.ok sc__law_put_at (fun vs H Q E h => ?_) (fun f cdv A outer s H vs Q E hr h => ?_)
  · obtain ⟨S, v, wv, gv, f, g, h, p, rfl, _⟩ := h
    rfl
  · obtain ⟨S, v, wv, gv, f, g, h, p, rfl, _, _, _, _, _, h, _⟩ := h
    have := dp_pos f
    omega
theorem ok_put_at {N : Nat} (B : Bl mg) (F1 : Df P w K mg base CX0 (2 + N) "_law_put_at" pr__law_put_at (spPutAt N K)) (D : Dt K mg "_law_put_at" s__law_put_at pr__law_put_at) :
    Df P w K mg base CX0 (2 + (N + 1)) "_law_put_at" pr__law_put_at (spPutAt (N + 1) K) := by
  refine D.ok sc__law_put_at (fun vs H Q E h => ?_) (fun f cdv A outer s H vs Q E hr h => ?_)
  · obtain ⟨S, v, wv, gv, f, g, h, p, rfl, _⟩ := h
    rfl
  · obtain ⟨S, v, wv, gv, f, g, h, p, rfl, lS, hd, hp, hg, o, dN, few, pl, pt, k⟩ := h
    refine ⟨_, (pss_cons (ps_if (pt_cmpR (op_eqD (hu64 hr)) (pv 1) (pe_tup pa_nil) (nomark _)) (pss_one (ps_ret (pv 2))) pss_nil) (pss_cons (ps_if (pt_cmpR op_in_seq (pe_ix ix_tup (pv 0) pe_int (fun _ _ => rfl)) (pe_tup (pa_cons pe_str (pa_cons pe_str pa_nil))) (by rfl)) (pss_cons (ps_set (i := 3) sc__law_put_at.nd rfl (Or.inl rfl) (pe_callTy call_list_of (by rfl) B.list PyProof.Rows.boot_list (pa_cons (pe_ix ix_tup (pv 0) pe_int (fun _ _ => rfl)) pa_nil))) (pss_cons (ps_asg (pe_f F1 (hr.mono (by show _ ≤ 2 + N; omega)) pass0 (pa_cons (pe_ix ix_list (pv 3) (pe_ix ix_tup (pv 1) pe_int (fun _ _ => rfl)) (fun _ _ => rfl)) (pa_cons (pe_slice sl_tupZ (pv 1) (po_some pe_int) po_none) (pa_cons (pv 2) pa_nil)))) (pg_sub (pv 3) (pe_ix ix_tup (pv 1) pe_int (fun _ _ => rfl)) set_list)) (pss_one (ps_ret (pe_tup (pa_cons (pe_ix ix_tup (pv 0) pe_int (fun _ _ => rfl)) (pa_cons (pe_callTy call_tuple_of (by rfl) B.tuple PyProof.Rows.boot_tuple (pa_cons (pv 3) pa_nil)) pa_nil))))))) pss_nil) (pss_one (ps_ret (pe_op (show OpR _ _ (rCatZ K) from op_catZ) (pe_slice sl_tupZ (pv 0) po_none (po_some (pe_ix ix_tup (pv 1) pe_int (fun _ _ => rfl)))) (pe_tup (pa_cons (pe_f F1 (hr.mono (by show _ ≤ 2 + N; omega)) pass0 (pa_cons (pe_ix ix_tup (pv 0) (pe_ix ix_tup (pv 1) pe_int (fun _ _ => rfl)) (fun _ _ => rfl)) (pa_cons (pe_slice sl_tupZ (pv 1) (po_some pe_int) po_none) (pa_cons (pv 2) pa_nil)))) pa_nil))))))), ?_⟩
    dsimp only [cxOf, Cx.nox, L2.start]
    refine sq_if0 ⟨_, rfl, Nat.zero_le _, fun t0 ht0 => ⟨intsD p, .tuple [], hp.to (Same.new ht0), .tup (.of upd_same) .nil, shaped_intsD p, shaped_intsD [], _, rfl, ?_⟩⟩
    have e0 : Same H (upd H t0 (HO.tup [])) := Same.new ht0
    rw [show PyData.eqv (intsD p) (.tuple []) = p.isEmpty from by rw [show intsD p = .tuple (p.map PyData.int) from rfl, eqv_nil_t]; cases p <;> rfl]
    have hd1 := hd.to e0
    have hp1 := hp.to e0
    have hg1 := hg.to (same_hid2 (S := S) e0)
    have lS1 := lsts_to lS e0
    generalize upd H t0 (HO.tup []) = H1 at e0 hd1 hp1 hg1 lS1 ⊢
    obtain ⟨pa, hpa', hpa⟩ := hp1.ints_tup
    subst hpa'
    cases pt with
    | here => exact iteT ⟨_, rfl, k _ _ e0 hg1⟩
    | @neg f1 h1 r pt =>
      obtain ⟨q, x, y, rfl, hq, h1, h2⟩ := Dp.two (show Dp K H1 v (.tuple [.str "not", fmD f1]) from hd1)
      cases h1
      have d1 : dp f1 ≤ N := by simp only [dp] at dN; omega
      have z1 : sz f1 ≤ 3000 := by simp only [sz] at few; omega
      refine iteF (sq_if0 ⟨_, rfl, q, _, 0, _, rfl, rfl, hq, rfl, Nat.le_of_ble_eq_true rfl, fun t1 ht1 => ⟨t1, _, rfl, .inr (.of upd_same), rfl, rfl, _, rfl, iteF ?_⟩⟩)
      have e2 : Same H1 (upd H1 t1 (HO.tup [V.str "and", V.str "or"])) := Same.new ht1
      have hq2 := e2.seqT hq
      have hpa2 := e2.seqT hpa
      have hg2 := hg1.to (same_hid2 (S := S) e2)
      have lS2 := lsts_to lS1 e2
      have h2 := h2.to e2
      generalize upd H1 t1 (HO.tup [V.str "and", V.str "or"]) = H2 at e2 hq2 hpa2 hg2 lS2 h2 ⊢
      refine ⟨_, rfl, _, rfl, pa, _, 0, _, rfl, rfl, hpa2, at0, 1, rfl, q, _, rfl, hq2, fun H3 r3 e3 hr3 => ?_⟩
      refine ⟨_, rfl, _, rfl, pa, _, 0, _, rfl, rfl, e3.seqT hpa2, at0, q, _, 1, _, rfl, rfl, e3.seqT hq2, rfl, _, rfl, 1, rfl, pa, _, rfl, e3.seqT hpa2, fun H4 r4 e4 hr4 => ?_⟩
      have e34 := e3.trans e4
      have hrp : Dp K H4 (.ref r4) (intsD r) := by
        refine Dp.tup_ints ?_
        rw [show (1 : Int) = ((1 : Nat) : Int) from rfl, cutV_from] at hr4
        exact hr4
      have pl2 : r.length ≤ 1000 := by simp only [List.length_cons] at pl; omega
      refine ⟨_, rfl, S, y, .ref r4, gv, f1, g, h1, r, rfl, lsts_to lS2 e34, h2.to e34, hrp, hg2.to (same_hid2 (S := S) e34), o, d1, z1, pl2, pt, fun H5 u e5 hu => ⟨Nat.le_of_ble_eq_true rfl, fun t5 ht5 => ?_⟩⟩
      have e6 := Same.new (o := HO.tup [u]) ht5
      have hr6 : SqT K (upd H5 t5 (HO.tup [u])) r3 [.str "not"] := e6.seqT (e5.seqT (e4.seqT (hr3.cast rfl)))
      refine ⟨r3, t5, [.str "not"], [u], rfl, rfl, hr6, .of upd_same, Nat.le_of_ble_eq_true rfl, fun H7 r7 e7 hr7 => ?_⟩
      have eall := ((((e0.trans e2).trans e34).trans e5).trans e6).trans e7
      have lS7 := lsts_to lS eall
      exact k _ _ eall (.tup (seqT_hid lS7 hr7) (.cons (.str _) (.cons ((hu.to (same_hid2 (S := S) e6)).to (same_hid2 (S := S) e7)) .nil)))
    | @bnd b n f1 h1 r pt =>
      obtain ⟨q, zs0, rfl, hq, ha⟩ := (show Dp K H1 v (.tuple [.str (bw b), .int n, fmD f1]) from hd1).tup_inv
      obtain ⟨x, z, y, rfl, hx1, hz1, h2⟩ := ha.three
      cases hx1
      obtain rfl := hz1.int_inv
      have d1 : dp f1 ≤ N := by simp only [dp] at dN; omega
      have z1 : sz f1 ≤ 3000 := by simp only [sz] at few; omega
      have o1 : lwF f1 = true := by simp only [lwF, Bool.and_eq_true] at o; exact o.2
      have go : ∀ (t1 : Addr) (ht1 : H1 t1 = none), tRet (tOp (rCatZ K) (tSl (rSlZ K) (tVar 0) tNoPart (tPart (tOp (rIxT K) (tVar 1) (tC (V.int 0)))))
          (tTup (tCons (tCa (spPutAt N K) E0 (tCons (tOp (rIxT K) (tVar 0) (tOp (rIxT K) (tVar 1) (tC (V.int 0)))) (tCons (tSl (rSlZ K) (tVar 1) (tPart (tC (V.int 1))) tNoPart) (tCons (tVar 2) tNil)))) tNil)))
          { nx := fun _ H' => Q .non H', rt := Q } [some (.ref q), some (.ref pa), some gv, none] (upd H1 t1 (HO.tup [V.str "and", V.str "or"])) := fun t1 ht1 => by
        have e2 : Same H1 (upd H1 t1 (HO.tup [V.str "and", V.str "or"])) := Same.new ht1
        have hq2 := e2.seqT hq
        have hpa2 := e2.seqT hpa
        have hg2 := hg1.to (same_hid2 (S := S) e2)
        have lS2 := lsts_to lS1 e2
        have h2 := h2.to e2
        generalize upd H1 t1 (HO.tup [V.str "and", V.str "or"]) = H2 at e2 hq2 hpa2 hg2 lS2 h2 ⊢
        refine ⟨_, rfl, _, rfl, pa, _, 0, _, rfl, rfl, hpa2, at0, 2, rfl, q, _, rfl, hq2, fun H3 r3 e3 hr3 => ?_⟩
        refine ⟨_, rfl, _, rfl, pa, _, 0, _, rfl, rfl, e3.seqT hpa2, at0, q, _, 2, _, rfl, rfl, e3.seqT hq2, rfl, _, rfl, 1, rfl, pa, _, rfl, e3.seqT hpa2, fun H4 r4 e4 hr4 => ?_⟩
        have e34 := e3.trans e4
        have hrp : Dp K H4 (.ref r4) (intsD r) := by
          refine Dp.tup_ints ?_
          rw [show (1 : Int) = ((1 : Nat) : Int) from rfl, cutV_from] at hr4
          exact hr4
        have pl2 : r.length ≤ 1000 := by simp only [List.length_cons] at pl; omega
        refine ⟨_, rfl, S, y, .ref r4, gv, f1, g, h1, r, rfl, lsts_to lS2 e34, h2.to e34, hrp, hg2.to (same_hid2 (S := S) e34), o1, d1, z1, pl2, pt, fun H5 u e5 hu => ⟨Nat.le_of_ble_eq_true rfl, fun t5 ht5 => ?_⟩⟩
        have e6 := Same.new (o := HO.tup [u]) ht5
        have hr6 : SqT K (upd H5 t5 (HO.tup [u])) r3 [.str (bw b), .int n] := e6.seqT (e5.seqT (e4.seqT (hr3.cast rfl)))
        refine ⟨r3, t5, [.str (bw b), .int n], [u], rfl, rfl, hr6, .of upd_same, Nat.le_of_ble_eq_true rfl, fun H7 r7 e7 hr7 => ?_⟩
        have eall := ((((e0.trans e2).trans e34).trans e5).trans e6).trans e7
        have lS7 := lsts_to lS eall
        exact k _ _ eall (.tup (seqT_hid lS7 hr7) (.cons (.str _) (.cons (.int _) (.cons ((hu.to (same_hid2 (S := S) e6)).to (same_hid2 (S := S) e7)) .nil))))
      cases b <;> exact iteF (sq_if0 ⟨_, rfl, q, _, 0, _, rfl, rfl, hq, rfl, Nat.le_of_ble_eq_true rfl, fun t1 ht1 => ⟨t1, _, rfl, .inr (.of upd_same), rfl, rfl, _, rfl, iteF (go t1 ht1)⟩⟩)
    | @lst b fs i f1 h1 r hi pt =>
      obtain ⟨q, x, y, rfl, hq, hx1, h2⟩ := Dp.two (show Dp K H1 v (.tuple [.str (lw b), .tuple (fmDs fs)]) from hd1)
      cases hx1
      refine iteF (sq_if0 ⟨_, rfl, q, _, 0, _, rfl, rfl, hq, rfl, Nat.le_of_ble_eq_true rfl, fun t1 ht1 => ⟨t1, _, rfl, .inr (.of upd_same), rfl, rfl, true, by cases b <;> rfl, iteT ?_⟩⟩)
      have e2 : Same H1 (upd H1 t1 (HO.tup [V.str "and", V.str "or"])) := Same.new ht1
      have hq2 := e2.seqT hq
      have hpa2 := e2.seqT hpa
      have hg2 := hg1.to (same_hid2 (S := S) e2)
      have lS2 := lsts_to lS1 e2
      have h2 := h2.to e2
      generalize upd H1 t1 (HO.tup [V.str "and", V.str "or"]) = H2 at e2 hq2 hpa2 hg2 lS2 h2 ⊢
      obtain ⟨ta, zs, rfl, hz, hza⟩ := h2.tup_inv
      have oF : lwFs fs = true := o
      have nl : noListAll (fmDs fs) = true := noList_lws fs oF
      refine sq_go ⟨_, rfl, q, _, 1, _, rfl, rfl, hq2, rfl, ta, zs, rfl, .inr hz, fun I hI => ?_⟩
      have e3 : Same H2 (upd H2 I (HO.lst zs)) := Same.new hI
      have sh3 := same_hid (S := S) hI e3
      have hg3 := hg2.to sh3
      have eI : upd H2 I (HO.lst zs) I = some (.lst zs) := upd_same
      have lS3 : Lsts (I :: S) (upd H2 I (HO.lst zs)) := fun x m => by
        rcases List.mem_cons.mp m with rfl | m
        · exact ⟨_, eI, .inl ⟨_, rfl⟩⟩
        · exact lsts_to lS2 e3 x m
      have hza3 := hza.to e3
      have hq3 := e3.seqT hq2
      have hpa3 := e3.seqT hpa2
      generalize upd H2 I (HO.lst zs) = H3 at e3 hg3 eI lS3 hza3 hq3 hpa3 ⊢
      have lz := hza3.length
      rw [fmDs_map, List.length_map] at lz
      have il : i < fs.length := (List.getElem?_eq_some_iff.mp hi).1
      obtain ⟨zi, hzi, hdi⟩ := hza3.get (i := i) (d := fmD f1) (by rw [fmDs_map, List.getElem?_map, hi]; rfl)
      have d1 : dp f1 ≤ N := by
        have := dps_mem (List.mem_of_getElem? hi)
        simp only [dp] at dN; omega
      have z1 : sz f1 ≤ 3000 := by
        have : sz f1 + 1 ≤ sz (.lst b fs) := ins_sz (f := .lst b fs) ([1, ((0 + i : Nat) : Int)], f1) (List.mem_of_getElem? (i := i) (by show (en 0 fs)[i]? = _; rw [en_get, hi]; rfl))
        omega
      have pl2 : r.length ≤ 1000 := by simp only [List.length_cons] at pl; omega
      refine sq_as ⟨_, rfl, _, rfl, pa, _, 1, _, rfl, rfl, hpa3, at1, I, zs, (i : Nat), zi, rfl, rfl, .of eI, atI_nat hzi, _, rfl, 2, rfl, pa, _, rfl, hpa3, fun H4 r4 e4 hr4 => ?_⟩
      have hrp : Dp K H4 (.ref r4) (intsD r) := by
        refine Dp.tup_ints ?_
        rw [show (2 : Int) = ((2 : Nat) : Int) from rfl, cutV_from] at hr4
        exact hr4
      refine ⟨_, rfl, I :: S, zi, .ref r4, gv, f1, g, h1, r, rfl, lsts_to lS3 e4, hdi.to e4, hrp, hg3.to (same_hid2 (S := I :: S) e4), lwFs_all.mp oF f1 (List.mem_of_getElem? hi), d1, z1, pl2, pt, fun H5 u e5 hu => ?_⟩
      have e45 := e4.trans e5
      have eI5 := e45 _ _ eI
      have hpa5 := e45.seqT hpa3
      have hq5 := e45.seqT hq3
      refine ⟨_, rfl, _, rfl, pa, _, 1, _, rfl, rfl, hpa5, at1, I, zs, (i : Nat), i, rfl, rfl, eI5, ?_, ?_⟩
      · unfold ixN
        rw [if_pos (by omega), if_pos (by omega), Int.toNat_natCast]
      have e13 : Same H H3 := (e0.trans e2).trans e3
      have eH5 : Same H (upd H5 I (HO.lst (zs.set i u))) := (e13.trans e45).mut ((e0.trans e2).back hI)
      have hu6 : DpAll K (hid (I :: S) (upd H5 I (HO.lst (zs.set i u)))) (zs.set i u) (fmDs (fs.set i h1)) := by
        rw [hid_upd (by simp)]
        have hall : DpAll K (hid (I :: S) H5) zs (fmDs fs) := Dp.hids (lsts_to lS3 e45) _ _ nl (hza3.to e45)
        have e : fmDs (fs.set i h1) = (fmDs fs).set i (fmD h1) := by rw [fmDs_map, fmDs_map, List.map_set]
        rw [e]
        exact DpAll.set hu i hall
      have hq6 : SqT K (upd H5 I (HO.lst (zs.set i u))) q [V.str (lw b), V.ref ta] := ((e3.trans e45).mut hI).seqT hq2
      have eI6 : upd H5 I (HO.lst (zs.set i u)) I = some (.lst (zs.set i u)) := upd_same
      generalize upd H5 I (HO.lst (zs.set i u)) = H6 at eH5 hu6 hq6 eI6 ⊢
      refine ⟨_, rfl, q, _, 0, _, rfl, rfl, hq6, rfl, _, rfl, I, _, rfl, .inl ⟨.of eI6, fun t7 ht7 => ⟨Nat.le_of_ble_eq_true rfl, fun t8 ht8 => ?_⟩⟩⟩
      have e78 := (Same.new (o := HO.tup (zs.set i u)) ht7).then_new (o := HO.tup [V.str (lw b), V.ref t7]) ht8
      have lS8 := lsts_to lS (eH5.trans e78)
      refine k _ _ (eH5.trans e78) (.tup (seqT_hid lS8 (.of upd_same)) (.cons (.str _) (.cons (.tup (xs := zs.set i u) (seqT_hid lS8 (.of ?_)) ?_) .nil)))
      · rw [upd_ne (ne_of_none upd_same ht8)]; exact upd_same
      · exact Dp.exts (hid_sub fun a m => List.mem_cons_of_mem _ m) _ _ (hu6.to (same_hid2 e78))
end
end Ws
/-! ## Q03f -/
namespace Ws
open PySem PySem.Spec PyProof.Rows L2 Fo
local macro_rules | `(tactic| walk_at "nf") => `(tactic| dsimp only [tNext, tSeq, tDrop, tRet, tRetN, tIfS, tAsg, gName, gTup, gCons, gNil, tVar, tC, tOp, tUn, rI, rI0, rU, rEq, rNe, tTest, tChain, tAnd, tOr, tNot, tAndV, tOrV, tNotV, tIf, tCB, tCKw, tCons, tNil, tTup, tLst, tCa, tCallS, tB, rIxT, rIxL, rIxS, cxOf, Cx.nox, Cx.wish, Cx.blk, L2.start, tPar, tPar3, tNever, tYes, tBits, tRz, tBM, rAppend, tyV, tXf, suiteEnds, gSub, rSetL, tBreak, rMax, tDGet, sDPut, tSl, tNoPart, tPart, tDisp, tPairs, tDGet2, tDNewK, tAugS, ipI, rGetL, tDIn, tDNotIn, tBM0, rPop])
local macro_rules | `(tactic| walk_at "sx") => `(tactic| simp only [wipe, List.cons.injEq, and_assoc, exists_and_left, and_true, List.map_cons, List.map_nil, List.length_cons, List.length_nil, List.cons_append, List.nil_append, List.append_nil, Nat.reduceAdd, Nat.reduceSub, List.replicate, List.getElem?_cons_zero, List.getElem?_cons_succ, List.set_cons_zero, List.set_cons_succ, Option.some.injEq, V.int.injEq, V.bl.injEq, V.ref.injEq, V.str.injEq, exists_eq_left', exists_eq_left, true_and, Bool.true_eq_false, Bool.false_eq_true, if_true, if_false])

def spMinusL (K : PySem.W.Frag) : Sp := fun vs H Q _ => ∃ (tv : V) (c more : Int) (ps : List Pr), vs = [tv, .int more] ∧ Dp K H tv (tmD c ps) ∧ ps.length ≤ 1000 ∧ ∀ H' u, Same H H' → Dp K H' u (tmD (more - c) (negP ps)) → Q u H'
def spInwL (N : Nat) (K : PySem.W.Frag) : Sp := fun vs H Q _ => ∃ (v : V) (f : Fm) (c : Bool), vs = [v, .bl c] ∧ Dp K H v (fmD f) ∧ okF f = true ∧ dp f ≤ N ∧ sz f ≤ 3000 ∧ ∀ H' u, Same H H' → Dp K H' u (fmD (inwF f c)) → Q u H'
abbrev s__law_minus : Stmt := top 51
abbrev nm__law_minus : List Str := ["term", "more", "name", "factor"]
abbrev pr__law_minus : List Str := ["term", "more"]
theorem sc__law_minus : FnScope nm__law_minus pr__law_minus (defScope s__law_minus) := ⟨rfl, rfl, rfl, by decide +kernel, rfl, by decide +kernel, by decide +kernel⟩
abbrev s__law_inward : Stmt := top 52
abbrev nm__law_inward : List Str := ["formula", "contrary_v", "word", "low", "part"]
abbrev pr__law_inward : List Str := ["formula", "contrary_v"]
theorem sc__law_inward : FnScope nm__law_inward pr__law_inward (defScope s__law_inward) := ⟨rfl, rfl, rfl, by decide +kernel, rfl, by decide +kernel, by decide +kernel⟩
section
variable {P : Program} {w : World} {K : PySem.W.Frag} {mg : Str → Option Value} {base : Heap}
theorem ok_minusL (B : Bl mg) (D : Dt K mg "_law_minus" s__law_minus pr__law_minus) : Df P w K mg base CX0 1 "_law_minus" pr__law_minus (spMinusL K) := by
  refine D.ok sc__law_minus (fun vs H Q E h => ?_) (fun f cdv A outer s H vs Q E hr h => ?_)
  · obtain ⟨tv, c, more, ps, rfl, _⟩ := h
    rfl
  · obtain ⟨tv, c, more, ps, rfl, hd, few, k⟩ := h
    refine ⟨_, (pss_one (ps_ret (pe_tup (pa_cons (pe_op op_sub (pv 1) (pe_ix ix_tup (pv 0) pe_int (fun _ _ => rfl))) (pa_cons (pe_callTy call_tuple_of (by rfl) B.tuple PyProof.Rows.boot_tuple (pa_cons (pe_lc (own := [("name", 2), ("factor", 3)]) (g := gTup K 2 (gCons (gName 2) (gCons (gName 3) gNil))) (tt := tYes) (by rfl) sc__law_minus.nd (pi_tup (pe_ix ix_tup (pv 0) pe_int (fun _ _ => rfl))) (blkOk_by (own := [("name", 2), ("factor", 3)]) (N := nm__law_minus) (sc := defScope s__law_minus) (by decide +kernel)) (fun _ _ _ _ _ => pg_tup rfl (pgs_cons (pg_name (i := 2) sc__law_minus.nd rfl (Or.inl rfl)) (pgs_cons (pg_name (i := 3) sc__law_minus.nd rfl (Or.inl rfl)) pgs_nil))) (fun _ _ _ _ _ => pts_nil) (fun _ _ _ _ _ => (pe_tup (pa_cons (pv 2) (pa_cons (pe_un un_neg (pv 3)) pa_nil))))) pa_nil)) pa_nil))))), ?_⟩
    dsimp only [cxOf, Cx.nox, L2.start]
    obtain ⟨p, q, zs, rfl, h1, hp⟩ := tm_v hd
    refine ⟨_, rfl, _, rfl, p, _, 0, _, rfl, rfl, h1, rfl, _, _, rfl, rfl, ?_⟩
    refine ⟨_, rfl, p, _, 1, _, rfl, rfl, h1, rfl, q, rfl, ⟨_, hp.seq⟩, fun D hD => lcH (K := K) (S := []) walk_tup hD (by rw [hp.len]; exact slt (by omega)) lsts_nil (fun i => prD ((ps.getD i (0, 0)).1, -(ps.getD i (0, 0)).2)) (fun H1 e => e.seqT hp.seq) (fun i x H1 H2 Q1 hi e l y q1 => ?_) (fun H1 ys e hy hn ha => ?_)⟩
    · obtain ⟨rfl, hx⟩ := y
      obtain ⟨r, rfl, hr1⟩ := hp.at_ i x hx
      walk_at "nf"
      refine ⟨r, _, rfl, e.seqT hr1, rfl, ?_⟩
      walk_at "sx"
      exact ⟨Nat.le_of_ble_eq_true rfl, fun t ht => q1 _ _ (Same.new ht) (.tup (seqT_hid (lsts_to l (Same.new ht)) (.of upd_same)) (.cons (.int _) (.cons (.int _) .nil)))⟩
    · rw [hid_nil] at ha
      have el : (List.range zs.length).map (fun i => prD ((ps.getD i (0, 0)).1, -(ps.getD i (0, 0)).2)) = (negP ps).map prD := by
        rw [hp.len, by_places ps (0, 0) (fun p => prD (p.1, -p.2))]
        unfold negP
        rw [List.map_map]
        rfl
      rw [el] at ha
      refine ⟨D, ys, rfl, .inl ⟨.of hy, fun t ht => ⟨Nat.le_of_ble_eq_true rfl, fun t2 ht2 => ?_⟩⟩⟩
      have e2 : Same H1 (upd (upd H1 t (HO.tup ys)) t2 (HO.tup [V.int (more - c), V.ref t])) := (Same.new ht).then_new ht2
      exact k _ _ (e.trans e2) (.tup (.of upd_same) (.cons (.int _) (.cons (.tup (xs := ys) (.of (by rw [upd_ne (ne_of_none upd_same ht2)]; exact upd_same)) (ha.to e2)) .nil)))
theorem flip_and {σ : L2.St} {H : Hp} {R : VK} {c b : Bool} (h1 : σ[1]? = some (some (.bl c))) (h2 : σ[2]? = some (some (.str (lw b)))) (q : ∀ H', Same H H' → R (.str (lw (fl c b))) H') :
    tIf (tB (tVar 1)) (tDGet (tDisp [(tC (V.str "and"), tC (V.str "or")), (tC (V.str "or"), tC (V.str "and"))]) (tVar 2)) (tVar 2) σ H R := by
  cases c with
  | false => exact ⟨_, h1, _, rfl, iteF ⟨_, h2, q _ (Same.refl _)⟩⟩
  | true =>
    refine ⟨_, h1, _, rfl, iteT fun p hp => ⟨upd_same, [(.inr "and", .str "or"), (.inr "or", .str "and")], rfl, by decide, _, h2, p, .str (lw (!b)), rfl, ?_, q _ ((Same.new hp).mut hp)⟩⟩
    cases b with
    | true => exact .inl ⟨_, .inr "and", .inl upd_same, rfl, by decide +kernel⟩
    | false => exact .inl ⟨_, .inr "or", .inl upd_same, rfl, by decide +kernel⟩
theorem flip_some {σ : L2.St} {H : Hp} {R : VK} {c b : Bool} (h1 : σ[1]? = some (some (.bl c))) (h2 : σ[2]? = some (some (.str (bw b)))) (q : ∀ H', Same H H' → R (.str (bw (fl c b))) H') :
    tIf (tB (tVar 1)) (tDGet (tDisp [(tC (V.str "some"), tC (V.str "all")), (tC (V.str "all"), tC (V.str "some"))]) (tVar 2)) (tVar 2) σ H R := by
  cases c with
  | false => exact ⟨_, h1, _, rfl, iteF ⟨_, h2, q _ (Same.refl _)⟩⟩
  | true =>
    refine ⟨_, h1, _, rfl, iteT fun p hp => ⟨upd_same, [(.inr "some", .str "all"), (.inr "all", .str "some")], rfl, by decide, _, h2, p, .str (bw (!b)), rfl, ?_, q _ ((Same.new hp).mut hp)⟩⟩
    cases b with
    | true => exact .inl ⟨_, .inr "some", .inl upd_same, rfl, by decide +kernel⟩
    | false => exact .inl ⟨_, .inr "all", .inl upd_same, rfl, by decide +kernel⟩
theorem inwL0 (D : Dt K mg "_law_inward" s__law_inward pr__law_inward) : Df P w K mg base CX0 2 "_law_inward" pr__law_inward (spInwL 0 K) := by
  refine D.ok sc__law_inward (fun vs H Q E h => ?_) (fun f cdv A outer s H vs Q E hr h => ?_)
  · obtain ⟨v, f, c, rfl, _⟩ := h
    rfl
  · obtain ⟨v, f, c, rfl, _, _, h, _⟩ := h
    have := dp_pos f
    omega
theorem ok_inwL {N : Nat} (B : Bl mg) (F1 : Df P w K mg base CX0 1 "_law_minus" pr__law_minus (spMinusL K)) (F2 : Df P w K mg base CX0 (2 + N) "_law_inward" pr__law_inward (spInwL N K)) (D : Dt K mg "_law_inward" s__law_inward pr__law_inward) :
    Df P w K mg base CX0 (2 + (N + 1)) "_law_inward" pr__law_inward (spInwL (N + 1) K) := by
  refine D.ok sc__law_inward (fun vs H Q E h => ?_) (fun f cdv A outer s H vs Q E hr h => ?_)
  · obtain ⟨v, f, c, rfl, _⟩ := h
    rfl
  · obtain ⟨v, f, c, rfl, hd, o, dN, few, k⟩ := h
    refine ⟨_, (pss_cons (ps_set (i := 2) sc__law_inward.nd rfl (Or.inl rfl) (pe_ix ix_tup (pv 0) pe_int (fun _ _ => rfl))) (pss_cons (ps_if (pt_cmpR op_eq (pv 2) pe_str (nomark _)) (pss_one (ps_ret (pe_f F2 (hr.mono (by show _ ≤ 2 + N; omega)) pass0 (pa_cons (pe_ix ix_tup (pv 0) pe_int (fun _ _ => rfl)) (pa_cons (pe_not (pv 1)) pa_nil))))) pss_nil) (pss_cons (ps_if (pt_cmpR op_eq (pv 2) pe_str (nomark _)) (pss_one (ps_ret (pe_ifExp (pt_val (pv 1)) (pe_tup (pa_cons pe_str (pa_cons (pv 0) pa_nil))) (pv 0)))) pss_nil) (pss_cons (ps_if (pt_cmpR op_in_seq (pv 2) (pe_tup (pa_cons pe_str (pa_cons pe_str pa_nil))) (by rfl)) (pss_cons (ps_set (i := 2) sc__law_inward.nd rfl (Or.inl rfl) (pe_ifExp (pt_val (pv 1)) (pe_dget (hu_of hr) (pe_disp (pps_cons pe_str pe_str (pps_cons pe_str pe_str pps_nil)) (by rfl) (by rfl) (fun z => by cases z) (by decide)) (pv 2) (fun _ _ => rfl)) (pv 2))) (pss_one (ps_ret (pe_tup (pa_cons (pv 2) (pa_cons (pe_callTy call_tuple_of (by rfl) B.tuple PyProof.Rows.boot_tuple (pa_cons (pe_lc (own := [("part", 4)]) (g := gName 4) (tt := tYes) (by rfl) sc__law_inward.nd (pi_tup (pe_ix ix_tup (pv 0) pe_int (fun _ _ => rfl))) (blkOk_by (own := [("part", 4)]) (N := nm__law_inward) (sc := defScope s__law_inward) (by decide +kernel)) (fun _ _ _ _ _ => pg_name (i := 4) sc__law_inward.nd rfl (Or.inl rfl)) (fun _ _ _ _ _ => pts_nil) (fun _ _ _ _ _ => (pe_f F2 (hr.mono (by show _ ≤ 2 + N; omega)) pass0 (pa_cons (pv 4) (pa_cons (pv 1) pa_nil))))) pa_nil)) pa_nil)))))) pss_nil) (pss_cons (ps_if (pt_cmpR op_in_seq (pv 2) (pe_tup (pa_cons pe_str (pa_cons pe_str pa_nil))) (by rfl)) (pss_cons (ps_set (i := 2) sc__law_inward.nd rfl (Or.inl rfl) (pe_ifExp (pt_val (pv 1)) (pe_dget (hu_of hr) (pe_disp (pps_cons pe_str pe_str (pps_cons pe_str pe_str pps_nil)) (by rfl) (by rfl) (fun z => by cases z) (by decide)) (pv 2) (fun _ _ => rfl)) (pv 2))) (pss_one (ps_ret (pe_tup (pa_cons (pv 2) (pa_cons (pe_ix ix_tup (pv 0) pe_int (fun _ _ => rfl)) (pa_cons (pe_f F2 (hr.mono (by show _ ≤ 2 + N; omega)) pass0 (pa_cons (pe_ix ix_tup (pv 0) pe_int (fun _ _ => rfl)) (pa_cons (pv 1) pa_nil))) pa_nil))))))) pss_nil) (pss_cons (ps_if (pt_not (pt_val (pv 1))) (pss_one (ps_ret (pv 0))) pss_nil) (pss_cons (ps_set (i := 3) sc__law_inward.nd rfl (Or.inl rfl) (pe_tup (pa_cons pe_str (pa_cons (pe_f F1 (hr.mono (by show _ ≤ 2 + N; omega)) pass0 (pa_cons (pe_ix ix_tup (pv 0) pe_int (fun _ _ => rfl)) (pa_cons (pe_un un_neg pe_int) pa_nil))) pa_nil)))) (pss_cons (ps_if (pt_cmpR op_eq (pv 2) pe_str (nomark _)) (pss_one (ps_ret (pv 3))) pss_nil) (pss_one (ps_ret (pe_tup (pa_cons pe_str (pa_cons (pe_tup (pa_cons (pe_tup (pa_cons pe_str (pa_cons (pe_tup (pa_cons (pe_op op_sub (pe_ix ix_tup (pe_ix ix_tup (pv 0) pe_int (fun _ _ => rfl)) pe_int (fun _ _ => rfl)) pe_int) (pa_cons (pe_ix ix_tup (pe_ix ix_tup (pv 0) pe_int (fun _ _ => rfl)) pe_int (fun _ _ => rfl)) pa_nil))) pa_nil))) (pa_cons (pv 3) pa_nil))) pa_nil))))))))))))), ?_⟩
    dsimp only [cxOf, Cx.nox, L2.start]
    cases f with
    | bad n => cases o
    | neg g =>
      obtain ⟨q, x, y, rfl, hq, h1, h2⟩ := Dp.two (show Dp K H v (.tuple [.str "not", fmD g]) from hd)
      cases h1
      have d1 : dp g ≤ N := by simp only [dp] at dN; omega
      have z1 : sz g ≤ 3000 := by simp only [sz] at few; omega
      exact sq_go ⟨_, rfl, q, _, 0, _, rfl, rfl, hq, rfl, sq_if0 ⟨_, rfl, rfl, _, rfl, iteT ⟨_, rfl, q, _, 1, _, rfl, rfl, hq, rfl, _, rfl, _, rfl, y, g, !c, rfl, h2, o, d1, z1, k⟩⟩⟩
    | mod m k0 ps =>
      obtain ⟨q, zs0, rfl, hq, ha⟩ := (show Dp K H v (.tuple [.str "mod", .int m, tmD k0 ps]) from hd).tup_inv
      obtain ⟨x, y, z0, rfl, h1, h2, h3⟩ := ha.three
      cases h1
      refine sq_go ⟨_, rfl, q, _, 0, _, rfl, rfl, hq, rfl, sq_if0 ⟨_, rfl, rfl, _, rfl, iteF (sq_if0 ⟨_, rfl, rfl, _, rfl, iteT ⟨_, rfl, _, rfl, ?_⟩⟩)⟩⟩
      cases c with
      | true => exact iteT ⟨_, rfl, Nat.le_of_ble_eq_true rfl, fun t ht => k _ _ (Same.new ht) (.tup (.of upd_same) (.cons (.str _) (.cons (hd.to (Same.new ht)) .nil)))⟩
      | false => exact iteF ⟨_, rfl, k _ _ (Same.refl _) hd⟩
    | lst b fs =>
      obtain ⟨q, x, y, rfl, hq, h1, h2⟩ := Dp.two (show Dp K H v (.tuple [.str (lw b), .tuple (fmDs fs)]) from hd)
      cases h1
      rw [fmDs_map] at h2
      obtain ⟨ta, zs, rfl, hz, hzl, hzat, hza⟩ := tup_view h2
      have zl := szs_len fs
      have oF : okFs fs = true := o
      have go : ∀ (t1 : Addr) (ht1 : H t1 = none) (D : Ends), D.rt = Q → tSeq (tAsg (tIf (tB (tVar 1)) (tDGet (tDisp [(tC (V.str "and"), tC (V.str "or")), (tC (V.str "or"), tC (V.str "and"))]) (tVar 2)) (tVar 2)) (gName 2))
          (tRet (tTup (tCons (tVar 2) (tCons (tCB (fun xs H Q => ∃ p ys, xs = [V.ref p] ∧ ((SqL K H p ys ∧ ∀ (l : Addr), H l = none → Q (V.ref l) (upd H l (HO.tup ys))) ∨ SqT K H p ys ∧ Q (V.ref p) H))
            (tCons (tLc (iTup K (tOp (rIxT K) (tVar 0) (tC (V.int 1)))) (gName 4) tYes (tCa (spInwL N K) E0 (tCons (tVar 4) (tCons (tVar 1) tNil))) [4]) tNil)) tNil))))
          D [some (.ref q), some (.bl c), some (.str (lw b)), none, none] (upd H t1 (HO.tup [V.str "and", V.str "or"])) := fun t1 ht1 D eD => by
        obtain ⟨nx, rt, bk, ct⟩ := D
        obtain rfl : rt = Q := eD
        have e1 : Same H (upd H t1 (HO.tup [V.str "and", V.str "or"])) := Same.new ht1
        refine sq_go (flip_and rfl rfl fun H2 e2 => ?_)
        have e12 := e1.trans e2
        have hz2 := e12.seqT hz
        refine ⟨_, rfl, _, rfl, q, _, 1, _, rfl, rfl, e12.seqT hq, rfl, ta, rfl, ⟨zs, hz2⟩, fun D hD => lcH (K := K) (S := []) walk_tup hD (by rw [hzl]; exact slt (by simp only [sz] at few; omega)) lsts_nil (fun i => fmD (inwF (fs.getD i default) c)) (fun H3 e => e.seqT hz2) (fun i x H3 H4 Q1 hi e l y q1 => ?_) (fun H3 ys e hy hn ha => ?_)⟩
        · obtain ⟨rfl, hx⟩ := y
          obtain ⟨g, hg1, hg2⟩ := hzat i x hx
          have hm := List.mem_of_getElem? hg1
          have d1 : dp g ≤ N := by have := dps_mem hm; simp only [dp] at dN; omega
          have z1 : sz g ≤ 3000 := by
            have : sz g + 1 ≤ sz (.lst b fs) := ins_sz (f := .lst b fs) ([1, ((0 + i : Nat) : Int)], g) (List.mem_of_getElem? (i := i) (by show (en 0 fs)[i]? = _; rw [en_get, hg1]; rfl))
            omega
          have og := okFs_all.mp oF g hm
          have eg : fs.getD i default = g := by rw [List.getD_eq_getElem?_getD, hg1]; rfl
          rw [eg] at q1
          exact ⟨rfl, _, rfl, _, rfl, x, g, c, rfl, (hg2.to e12).to e, og, d1, z1, fun H5 u e5 hu => q1 _ _ e5 (Dp.hid (lsts_to l e5) _ _ (noList_lw _ (inw_lw g c og)) hu)⟩
        · rw [hid_nil] at ha
          have el : (List.range zs.length).map (fun i => fmD (inwF (fs.getD i default) c)) = fmDs (inwFs fs c) := by
            rw [hzl, by_places fs default (fun f => fmD (inwF f c)), fmDs_map, inwFs_map, List.map_map]
            rfl
          rw [el] at ha
          refine ⟨D, ys, rfl, .inl ⟨.of hy, fun t ht => ⟨Nat.le_of_ble_eq_true rfl, fun t2 ht2 => ?_⟩⟩⟩
          have e3 : Same H3 (upd (upd H3 t (HO.tup ys)) t2 (HO.tup [V.str (lw (fl c b)), V.ref t])) := (Same.new ht).then_new ht2
          exact k _ _ ((e12.trans e).trans e3) (.tup (.of upd_same) (.cons (.str _) (.cons (.tup (xs := ys) (.of (by rw [upd_ne (ne_of_none upd_same ht2)]; exact upd_same)) (ha.to e3)) .nil)))
      cases b with
      | true => exact sq_go ⟨_, rfl, q, _, 0, _, rfl, rfl, hq, rfl, sq_if0 ⟨_, rfl, rfl, _, rfl, iteF (sq_if0 ⟨_, rfl, rfl, _, rfl, iteF (sq_if0 ⟨_, rfl, Nat.le_of_ble_eq_true rfl, fun t1 ht1 => ⟨t1, _, rfl, .inr (.of upd_same), rfl, rfl, _, rfl, iteT (go t1 ht1 _ rfl)⟩⟩)⟩)⟩⟩
      | false => exact sq_go ⟨_, rfl, q, _, 0, _, rfl, rfl, hq, rfl, sq_if0 ⟨_, rfl, rfl, _, rfl, iteF (sq_if0 ⟨_, rfl, rfl, _, rfl, iteF (sq_if0 ⟨_, rfl, Nat.le_of_ble_eq_true rfl, fun t1 ht1 => ⟨t1, _, rfl, .inr (.of upd_same), rfl, rfl, _, rfl, iteT (go t1 ht1 _ rfl)⟩⟩)⟩)⟩⟩
    | bnd b m g =>
      obtain ⟨q, zs0, rfl, hq, ha⟩ := (show Dp K H v (.tuple [.str (bw b), .int m, fmD g]) from hd).tup_inv
      obtain ⟨x, z, y, rfl, h1, h3, h2⟩ := ha.three
      cases h1
      obtain rfl := h3.int_inv
      have d1 : dp g ≤ N := by simp only [dp] at dN; omega
      have z1 : sz g ≤ 3000 := by simp only [sz] at few; omega
      have og : okF g = true := by simp only [okF, Bool.and_eq_true] at o; exact o.2
      have go : ∀ (H1 : Hp) (D : Ends), Same H H1 → D.rt = Q → tSeq (tAsg (tIf (tB (tVar 1)) (tDGet (tDisp [(tC (V.str "some"), tC (V.str "all")), (tC (V.str "all"), tC (V.str "some"))]) (tVar 2)) (tVar 2)) (gName 2))
          (tRet (tTup (tCons (tVar 2) (tCons (tOp (rIxT K) (tVar 0) (tC (V.int 1))) (tCons (tCa (spInwL N K) E0 (tCons (tOp (rIxT K) (tVar 0) (tC (V.int 2))) (tCons (tVar 1) tNil))) tNil)))))
          D [some (.ref q), some (.bl c), some (.str (bw b)), none, none] H1 := fun H1 D e1 eD => by
        obtain ⟨nx, rt, bk, ct⟩ := D
        obtain rfl : rt = Q := eD
        refine sq_go (flip_some rfl rfl fun H2 e2 => ?_)
        have e12 := e1.trans e2
        refine ⟨_, rfl, _, rfl, q, _, 1, _, rfl, rfl, e12.seqT hq, rfl, _, rfl, q, _, 2, _, rfl, rfl, e12.seqT hq, rfl, _, rfl, y, g, c, rfl, h2.to e12, og, d1, z1, fun H3 u e3 hu => ⟨Nat.le_of_ble_eq_true rfl, fun t ht => ?_⟩⟩
        exact k _ _ ((e12.trans e3).then_new ht) (.tup (.of upd_same) (.cons (.str _) (.cons (.int _) (.cons (hu.to (Same.new ht)) .nil))))
      cases b with
      | true => exact sq_go ⟨_, rfl, q, _, 0, _, rfl, rfl, hq, rfl, sq_if0 ⟨_, rfl, rfl, _, rfl, iteF (sq_if0 ⟨_, rfl, rfl, _, rfl, iteF (sq_if0 ⟨_, rfl, Nat.le_of_ble_eq_true rfl, fun t1 ht1 => ⟨t1, _, rfl, .inr (.of upd_same), rfl, rfl, _, rfl, iteF (sq_if0 ⟨_, rfl, Nat.le_of_ble_eq_true rfl, fun t2 ht2 => ⟨t2, _, rfl, .inr (.of upd_same), rfl, rfl, _, rfl, iteT (go _ _ ((Same.new ht1).then_new ht2) rfl)⟩⟩)⟩⟩)⟩)⟩⟩
      | false => exact sq_go ⟨_, rfl, q, _, 0, _, rfl, rfl, hq, rfl, sq_if0 ⟨_, rfl, rfl, _, rfl, iteF (sq_if0 ⟨_, rfl, rfl, _, rfl, iteF (sq_if0 ⟨_, rfl, Nat.le_of_ble_eq_true rfl, fun t1 ht1 => ⟨t1, _, rfl, .inr (.of upd_same), rfl, rfl, _, rfl, iteF (sq_if0 ⟨_, rfl, Nat.le_of_ble_eq_true rfl, fun t2 ht2 => ⟨t2, _, rfl, .inr (.of upd_same), rfl, rfl, _, rfl, iteT (go _ _ ((Same.new ht1).then_new ht2) rfl)⟩⟩)⟩⟩)⟩)⟩⟩
    | ge k0 ps =>
      obtain ⟨q, x, y, rfl, hq, h1, h2⟩ := Dp.two (show Dp K H v (.tuple [.str "ge", tmD k0 ps]) from hd)
      cases h1
      refine sq_go ⟨_, rfl, q, _, 0, _, rfl, rfl, hq, rfl, sq_if0 ⟨_, rfl, rfl, _, rfl, iteF (sq_if0 ⟨_, rfl, rfl, _, rfl, iteF (sq_if0 ⟨_, rfl, Nat.le_of_ble_eq_true rfl, fun t1 ht1 => ⟨t1, _, rfl, .inr (.of upd_same), rfl, rfl, _, rfl, iteF (sq_if0 ⟨_, rfl, Nat.le_of_ble_eq_true rfl, fun t2 ht2 => ⟨t2, _, rfl, .inr (.of upd_same), rfl, rfl, _, rfl, iteF (sq_if0 ⟨_, rfl, _, rfl, ?_⟩)⟩⟩)⟩⟩)⟩)⟩⟩
      have e2 : Same H (upd (upd H t1 (HO.tup [V.str "and", V.str "or"])) t2 (HO.tup [V.str "some", V.str "all"])) := (Same.new ht1).then_new ht2
      cases c with
      | false => exact iteT ⟨_, rfl, k _ _ e2 (hd.to e2)⟩
      | true =>
        generalize upd (upd H t1 (HO.tup [V.str "and", V.str "or"])) t2 (HO.tup [V.str "some", V.str "all"]) = H2 at e2 ⊢
        refine iteF (sq_go ⟨_, rfl, q, _, 1, _, rfl, rfl, e2.seqT hq, rfl, _, rfl, y, k0, -1, ps, rfl, h2.to e2, by have := (isTm_ok o).len; omega, fun H3 u e3 hu => ⟨Nat.le_of_ble_eq_true rfl, fun t ht => ?_⟩⟩)
        exact sq_if0 ⟨_, rfl, rfl, _, rfl, iteT ⟨_, rfl, k _ _ ((e2.trans e3).then_new ht) (.tup (.of upd_same) (.cons (.str _) (.cons (hu.to (Same.new ht)) .nil)))⟩⟩
    | eq k0 ps =>
      obtain ⟨q, x, y, rfl, hq, h1, h2⟩ := Dp.two (show Dp K H v (.tuple [.str "eq", tmD k0 ps]) from hd)
      cases h1
      refine sq_go ⟨_, rfl, q, _, 0, _, rfl, rfl, hq, rfl, sq_if0 ⟨_, rfl, rfl, _, rfl, iteF (sq_if0 ⟨_, rfl, rfl, _, rfl, iteF (sq_if0 ⟨_, rfl, Nat.le_of_ble_eq_true rfl, fun t1 ht1 => ⟨t1, _, rfl, .inr (.of upd_same), rfl, rfl, _, rfl, iteF (sq_if0 ⟨_, rfl, Nat.le_of_ble_eq_true rfl, fun t2 ht2 => ⟨t2, _, rfl, .inr (.of upd_same), rfl, rfl, _, rfl, iteF (sq_if0 ⟨_, rfl, _, rfl, ?_⟩)⟩⟩)⟩⟩)⟩)⟩⟩
      have e2 : Same H (upd (upd H t1 (HO.tup [V.str "and", V.str "or"])) t2 (HO.tup [V.str "some", V.str "all"])) := (Same.new ht1).then_new ht2
      cases c with
      | false => exact iteT ⟨_, rfl, k _ _ e2 (hd.to e2)⟩
      | true =>
        generalize upd (upd H t1 (HO.tup [V.str "and", V.str "or"])) t2 (HO.tup [V.str "some", V.str "all"]) = H2 at e2 ⊢
        refine iteF (sq_go ⟨_, rfl, q, _, 1, _, rfl, rfl, e2.seqT hq, rfl, _, rfl, y, k0, -1, ps, rfl, h2.to e2, by have := (isTm_ok o).len; omega, fun H3 u e3 hu => ⟨Nat.le_of_ble_eq_true rfl, fun t ht => ?_⟩⟩)
        refine sq_if0 ⟨_, rfl, rfl, _, rfl, iteF ?_⟩
        have e4 := (e2.trans e3).then_new (o := HO.tup [V.str "ge", u]) ht
        have low : Dp K (upd H3 t (HO.tup [V.str "ge", u])) (.ref t) (fmD (.ge (-1 - k0) (negP ps))) := .tup (.of upd_same) (.cons (.str _) (.cons (hu.to (Same.new ht)) .nil))
        generalize upd H3 t (HO.tup [V.str "ge", u]) = H4 at e4 low ⊢
        obtain ⟨yp, a, b, rfl, hy, hy1, hy2⟩ := Dp.two (show Dp K H y (.tuple [.int k0, prsD ps]) from h2)
        obtain rfl := hy1.int_inv
        have hq4 := e4.seqT hq
        have hy4 := e4.seqT hy
        refine ⟨_, rfl, q, _, 1, _, rfl, rfl, hq4, rfl, yp, _, 0, _, rfl, rfl, hy4, rfl, _, _, rfl, rfl, _, rfl, q, _, 1, _, rfl, rfl, hq4, rfl, yp, _, 1, _, rfl, rfl, hy4, rfl, Nat.le_of_ble_eq_true rfl, fun t5 ht5 => ⟨Nat.le_of_ble_eq_true rfl, fun t6 ht6 => ⟨_, rfl, Nat.le_of_ble_eq_true rfl, fun t7 ht7 => ⟨Nat.le_of_ble_eq_true rfl, fun t8 ht8 => ?_⟩⟩⟩⟩
        have e5 := Same.new (o := HO.tup [V.int (k0 - 1), b]) ht5
        have e6 := Same.new (o := HO.tup [V.str "ge", V.ref t5]) ht6
        have e7 := Same.new (o := HO.tup [V.ref t6, V.ref t]) ht7
        have e8 := Same.new (o := HO.tup [V.str "or", V.ref t7]) ht8
        have e58 := ((e5.trans e6).trans e7).trans e8
        have g5 : upd H4 t5 (HO.tup [V.int (k0 - 1), b]) t5 = some (.tup [V.int (k0 - 1), b]) := upd_same
        have g6 : upd (upd H4 t5 (HO.tup [V.int (k0 - 1), b])) t6 (HO.tup [V.str "ge", V.ref t5]) t6 = some (.tup [V.str "ge", V.ref t5]) := upd_same
        have g7 : upd (upd (upd H4 t5 (HO.tup [V.int (k0 - 1), b])) t6 (HO.tup [V.str "ge", V.ref t5])) t7 (HO.tup [V.ref t6, V.ref t]) t7 = some (.tup [V.ref t6, V.ref t]) := upd_same
        refine k _ _ (e4.trans e58) (.tup (.of upd_same) (.cons (.str _) (.cons (.tup (xs := [.ref t6, .ref t]) (.of (e8 _ _ g7)) (.cons (.tup (xs := [.str "ge", .ref t5]) (.of (e8 _ _ (e7 _ _ g6))) (.cons (.str _) (.cons (.tup (xs := [.int (k0 - 1), b]) (.of (e8 _ _ (e7 _ _ (e6 _ _ g5)))) (.cons (.int _) (.cons ((hy2.to e4).to e58) .nil))) .nil))) (.cons (low.to e58) .nil))) .nil)))
end
end Ws
/-! ## Q03g -/
namespace Ws
open PySem PySem.Spec PyProof.Rows L2 Fo
local macro_rules | `(tactic| walk_at "nf") => `(tactic| dsimp only [tNext, tSeq, tDrop, tRet, tRetN, tIfS, tAsg, gName, gTup, gCons, gNil, tVar, tC, tOp, tUn, rI, rI0, rU, rEq, rNe, tTest, tChain, tAnd, tOr, tNot, tAndV, tOrV, tNotV, tIf, tCB, tCKw, tCons, tNil, tTup, tLst, tCa, tCallS, tB, rIxT, rIxL, rIxS, cxOf, Cx.nox, Cx.wish, Cx.blk, L2.start, tPar, tPar3, tNever, tYes, tBits, tRz, tBM, rAppend, tyV, tXf, suiteEnds, gSub, rSetL, tBreak, rMax, tDGet, sDPut, tSl, tNoPart, tPart, tDisp, tPairs, tDGet2, tDNewK, tAugS, ipI, rGetL, tDIn, tDNotIn, tBM0, rPop])
local macro_rules | `(tactic| walk_at "sx") => `(tactic| simp only [wipe, List.cons.injEq, and_assoc, exists_and_left, and_true, List.map_cons, List.map_nil, List.length_cons, List.length_nil, List.cons_append, List.nil_append, List.append_nil, Nat.reduceAdd, Nat.reduceSub, List.replicate, List.getElem?_cons_zero, List.getElem?_cons_succ, List.set_cons_zero, List.set_cons_succ, Option.some.injEq, V.int.injEq, V.bl.injEq, V.ref.injEq, V.str.injEq, exists_eq_left', exists_eq_left, true_and, Bool.true_eq_false, Bool.false_eq_true, if_true, if_false])

def madeD (f : Fm) : PyData := if fitF f = true then (if dp f < 21 then .tuple [.str "told", fmD f] else .tuple [.str "great", .int 20, .bool true]) else .tuple [.str "great", .int (10 ^ 9), .bool true]
def spMade (K : PySem.W.Frag) : Sp := fun vs H Q _ => ∃ (v : V) (f : Fm), vs = [v] ∧ Dp K H v (fmD f) ∧ lwF f = true ∧ dp f ≤ 22 ∧ sz f ≤ 3000 ∧ ∀ H' u, Same H H' → Dp K H' u (madeD f) → Q u H'
def spAheadL (K : PySem.W.Frag) : Sp := fun vs H Q _ => ∃ (v : V) (f : Fm), vs = [v] ∧ Dp K H v (fmD f) ∧ lwF f = true ∧ dp f ≤ 22 ∧ sz f ≤ 3000 ∧ ∀ H', Same H H' → Q (.bl (aheadB f)) H'
abbrev s__law_made : Stmt := top 54
abbrev nm__law_made : List Str := ["formula", "path", "part"]
abbrev pr__law_made : List Str := ["formula"]
theorem sc__law_made : FnScope nm__law_made pr__law_made (defScope s__law_made) := ⟨rfl, rfl, rfl, by decide +kernel, rfl, by decide +kernel, by decide +kernel⟩
abbrev s__law_ahead : Stmt := top 55
abbrev nm__law_ahead : List Str := ["formula", "path", "part"]
abbrev pr__law_ahead : List Str := ["formula"]
theorem sc__law_ahead : FnScope nm__law_ahead pr__law_ahead (defScope s__law_ahead) := ⟨rfl, rfl, rfl, by decide +kernel, rfl, by decide +kernel, by decide +kernel⟩
section
variable {P : Program} {w : World} {K : PySem.W.Frag} {mg : Str → Option Value} {base : Heap}
/-- a part is no atom, or it is one, with its term last -/
theorem part_view {H : Hp} {v : V} {g : Fm} (h : Dp K H v (fmD g)) (o : lwF g = true) :
    (∃ (p : Addr) (xs : List V) (kw : Str), v = .ref p ∧ SqT K H p xs ∧ atI xs 0 = some (.str kw) ∧ inV (.str kw) [.str "ge", .str "eq", .str "mod"] = false ∧ fitP g = true ∧ atomP g = false) ∨
    ∃ (p tq : Addr) (xs : List V) (kw : Str) (c : Int) (b : V), v = .ref p ∧ SqT K H p xs ∧ atI xs 0 = some (.str kw) ∧ inV (.str kw) [.str "ge", .str "eq", .str "mod"] = true ∧ atI xs (-1) = some (.ref tq) ∧ SqT K H tq [.int c, b] ∧ fitC c = fitP g ∧ atomP g = true := by
  cases g with
  | bad k => cases o
  | neg g =>
    obtain ⟨p, a, b, rfl, hq, h1, h2⟩ := Dp.two (show Dp K H v (.tuple [.str "not", fmD g]) from h)
    cases h1
    exact .inl ⟨p, _, "not", rfl, hq, rfl, rfl, rfl, rfl⟩
  | lst w fs =>
    obtain ⟨p, a, b, rfl, hq, h1, h2⟩ := Dp.two (show Dp K H v (.tuple [.str (lw w), .tuple (fmDs fs)]) from h)
    cases h1
    exact .inl ⟨p, _, lw w, rfl, hq, rfl, by cases w <;> rfl, rfl, rfl⟩
  | bnd w m g =>
    obtain ⟨p, zs0, rfl, hq, ha⟩ := (show Dp K H v (.tuple [.str (bw w), .int m, fmD g]) from h).tup_inv
    obtain ⟨a, b, z0, rfl, h1, h2, h3⟩ := ha.three
    cases h1
    exact .inl ⟨p, _, bw w, rfl, hq, rfl, by cases w <;> rfl, rfl, rfl⟩
  | ge c ps =>
    obtain ⟨p, a, b, rfl, hq, h1, h2⟩ := Dp.two (show Dp K H v (.tuple [.str "ge", tmD c ps]) from h)
    cases h1
    obtain ⟨tq, c', b2, rfl, htq, hc, hb⟩ := Dp.two (show Dp K H b (.tuple [.int c, prsD ps]) from h2)
    obtain rfl := hc.int_inv
    exact .inr ⟨p, tq, _, "ge", c, b2, rfl, hq, rfl, rfl, rfl, htq, rfl, rfl⟩
  | eq c ps =>
    obtain ⟨p, a, b, rfl, hq, h1, h2⟩ := Dp.two (show Dp K H v (.tuple [.str "eq", tmD c ps]) from h)
    cases h1
    obtain ⟨tq, c', b2, rfl, htq, hc, hb⟩ := Dp.two (show Dp K H b (.tuple [.int c, prsD ps]) from h2)
    obtain rfl := hc.int_inv
    exact .inr ⟨p, tq, _, "eq", c, b2, rfl, hq, rfl, rfl, rfl, htq, rfl, rfl⟩
  | mod m c ps =>
    obtain ⟨p, zs0, rfl, hq, ha⟩ := (show Dp K H v (.tuple [.str "mod", .int m, tmD c ps]) from h).tup_inv
    obtain ⟨a, z0, b, rfl, h1, h3, h2⟩ := ha.three
    cases h1
    obtain ⟨tq, c', b2, rfl, htq, hc, hb⟩ := Dp.two (show Dp K H b (.tuple [.int c, prsD ps]) from h2)
    obtain rfl := hc.int_inv
    exact .inr ⟨p, tq, _, "mod", c, b2, rfl, hq, rfl, rfl, rfl, htq, rfl, rfl⟩
theorem ok_made (B : Bl mg) (F1 : Df P w K mg base CX0 24 "_law_parts" pr__law_parts (spParts 22 K)) (F2 : Df P w K mg base CX0 24 "_law_deep" pr__law_deep (spDeep 22 K)) (D : Dt K mg "_law_made" s__law_made pr__law_made) :
    Df P w K mg base CX0 25 "_law_made" pr__law_made (spMade K) := by
  refine D.ok sc__law_made (fun vs H Q E h => ?_) (fun f cdv A outer s H vs Q E hr h => ?_)
  · obtain ⟨v, f, rfl, _⟩ := h
    rfl
  · obtain ⟨v, f, rfl, hd, o, dN, few, k⟩ := h
    refine ⟨_, (pss_cons (ps_for PassesOwn.never rfl (pi_list (pe_f F1 (hr.mono (by decide)) pass0 (pa_cons (pv 0) (pa_cons (pe_tup pa_nil) pa_nil)))) (pg_tup rfl (pgs_cons (pg_name (i := 1) sc__law_made.nd rfl (Or.inl rfl)) (pgs_cons (pg_name (i := 2) sc__law_made.nd rfl (Or.inl rfl)) pgs_nil))) (pss_one (ps_if (PW.pt (pw_and (pt_cmpR op_in_seq (pe_ix ix_tup (pv 2) pe_int (fun _ _ => rfl)) (pe_tup (pa_cons pe_str (pa_cons pe_str (pa_cons pe_str pa_nil)))) (by rfl)) (pw_and1 (pt_cmpR op_gt (pe_callB call_abs (by rfl) B.abs boot_abs (pa_cons (pe_ix ix_tup (pe_ix ix_tup (pv 2) (pe_un un_neg pe_int) (fun _ _ => rfl)) pe_int (fun _ _ => rfl)) pa_nil)) (pe_op op_pow pe_int pe_int) (nomark _))))) (pss_one (ps_ret (pe_tup (pa_cons pe_str (pa_cons (pe_op op_pow pe_int pe_int) (pa_cons pe_bl pa_nil)))))) pss_nil))) (pss_one (ps_ret (pe_ifExp (pt_cmpR op_lt (pe_f F2 (hr.mono (by decide)) pass0 (pa_cons (pv 0) pa_nil)) pe_int (nomark _)) (pe_tup (pa_cons pe_str (pa_cons (pv 0) pa_nil))) (pe_tup (pa_cons pe_str (pa_cons pe_int (pa_cons pe_bl pa_nil)))))))), ?_⟩
    dsimp only [cxOf, Cx.nox, L2.start]
    refine sq_fr ⟨_, rfl, Nat.zero_le _, fun t ht => ⟨v, .ref t, f, [], rfl, hd.to (Same.new ht), .tup (.of upd_same) .nil, o, dN, few, by simp; omega, fun H1 l zs e1 hl0 hl hz => ?_⟩⟩
    have e01 : Same H H1 := (Same.new ht).trans e1
    have lz := hz.length
    rw [List.length_map, wk_len] at lz
    refine ⟨l, rfl, ⟨zs, .of hl⟩, for_it walk_list (fun i σ H' => ∃ (v1 v2 : Option V), σ = [some v, v1, v2] ∧ Same H1 H' ∧ ∀ x ∈ (wk [] 1 f).take i, fitP x.2.2 = true) ⟨none, none, rfl, Same.refl _, fun x hx => absurd hx (by simp)⟩ (fun i σ H' _ q => by obtain ⟨_, _, _, s, _⟩ := q; exact .of (s _ _ hl)) (fun i x σ H3 H4 hi q y => ?_) (fun σ H3 q => ?_)⟩
    · obtain ⟨v1, v2, rfl, s3, hall⟩ := q
      obtain ⟨rfl, hx⟩ := y
      obtain ⟨d0, hd0, hdx⟩ := hz.getV hx
      rw [List.getElem?_map] at hd0
      obtain ⟨y0, hy0, rfl⟩ : ∃ y0, (wk [] 1 f)[i]? = some y0 ∧ pwD y0 = d0 := by
        cases e : (wk [] 1 f)[i]? with
        | none => rw [e] at hd0; cases hd0
        | some y0 => rw [e] at hd0; exact ⟨y0, rfl, by simpa using hd0⟩
      have ht1 : (wk [] 1 f).take (i + 1) = (wk [] 1 f).take i ++ [y0] := by
        rw [List.take_add_one, hy0]
        rfl
      obtain ⟨pp, d, g⟩ := y0
      have og : lwF g = true := (wk_lw f [] 1 o _ (List.mem_of_getElem? hy0)).1
      obtain ⟨T, pathv, partv, rfl, hT, hpath, hpart⟩ := Dp.two (show Dp K H1 x (.tuple [intsD pp, fmD g]) from hdx)
      have hpart := hpart.to s3
      refine ⟨T, _, rfl, s3.seqT hT, rfl, _, _, rfl, _, _, rfl, rfl, ?_⟩
      have next : fitP g = true → ∀ H5, Same H4 H5 → ∃ (v1 v2 : Option V), [some v, some pathv, some partv] = [some v, v1, v2] ∧ Same H1 H5 ∧ ∀ x ∈ (wk [] 1 f).take (i + 1), fitP x.2.2 = true := fun fg H5 e5 => ⟨_, _, rfl, s3.trans e5, fun x hx => by
        rw [ht1] at hx
        rcases List.mem_append.mp hx with hx | hx
        · exact hall x hx
        · obtain rfl : x = (pp, d, g) := by simpa using hx
          exact fg⟩
      rcases part_view hpart og with ⟨p, xs, kw, ep, hq, a0, iw, af, _⟩ | ⟨p, tq, xs, kw, c, b, ep, hq, a0, iw, am, htq, ef, _⟩
      · subst ep
        exact ⟨_, rfl, p, _, 0, _, rfl, rfl, hq, a0, Nat.le_of_ble_eq_true rfl, fun t2 ht2 => ⟨t2, _, rfl, .inr (.of upd_same), rfl, rfl, _, rfl, by
          rw [if_neg (by simp), iw]
          exact iteF (next af _ (Same.new ht2))⟩⟩
      · subst ep
        refine ⟨_, rfl, p, _, 0, _, rfl, rfl, hq, a0, Nat.le_of_ble_eq_true rfl, fun t2 ht2 => ⟨t2, _, rfl, .inr (.of upd_same), rfl, rfl, _, rfl, ?_⟩⟩
        rw [if_neg (by simp), iw]
        have e2 : Same H4 (upd H4 t2 (HO.tup [V.str "ge", V.str "eq", V.str "mod"])) := Same.new ht2
        generalize upd H4 t2 (HO.tup [V.str "ge", V.str "eq", V.str "mod"]) = H5 at e2 ⊢
        refine iteT ⟨_, rfl, _, rfl, p, xs, -1, _, rfl, rfl, e2.seqT hq, am, tq, _, 0, _, rfl, rfl, e2.seqT htq, rfl, c, rfl, _, _, rfl, rfl, ⟨by decide, by decide, by decide⟩, _, _, rfl, rfl, _, rfl, ?_⟩
        by_cases cb : -(10 ^ 9) ≤ c ∧ c ≤ 10 ^ 9
        · have ca : ¬ ((10 : Int) ^ (Int.toNat 9) < if c < 0 then -c else c) := by
            have : (10 : Int) ^ (Int.toNat 9) = 10 ^ 9 := rfl
            rw [this]
            split <;> omega
          rw [decide_eq_false ca]
          exact iteF (next (ef ▸ decide_eq_true cb) _ e2)
        · have ca : ((10 : Int) ^ (Int.toNat 9) < if c < 0 then -c else c) := by
            have : (10 : Int) ^ (Int.toNat 9) = 10 ^ 9 := rfl
            rw [this]
            split <;> omega
          rw [decide_eq_true ca]
          refine iteT ⟨_, _, rfl, rfl, ⟨by decide, by decide, by decide⟩, Nat.le_of_ble_eq_true rfl, fun t5 ht5 => ?_⟩
          have nf : ¬ fitF f = true := fun h => by
            have := (fit_wk f [] 1).mp h _ (List.mem_of_getElem? hy0)
            have e3 : fitC c = true := ef ▸ this
            exact cb (of_decide_eq_true e3)
          refine k _ _ (((e01.trans s3).trans e2).then_new ht5) ?_
          unfold madeD
          rw [if_neg nf]
          exact .tup (.of upd_same) (.cons (.str _) (.cons (.int _) (.cons (.bl _) .nil)))
    · obtain ⟨v1, v2, rfl, s3, hall⟩ := q
      rw [List.take_of_length_le (by rw [wk_len]; omega)] at hall
      have ft : fitF f = true := (fit_wk f [] 1).mpr hall
      refine ⟨_, rfl, v, f, rfl, (hd.to e01).to s3, o, dN, few, fun H4 e4 => ⟨_, _, rfl, rfl, _, rfl, ?_⟩⟩
      have e04 := (e01.trans s3).trans e4
      have em : madeD f = if dp f < 21 then .tuple [.str "told", fmD f] else .tuple [.str "great", .int 20, .bool true] := by
        unfold madeD
        rw [if_pos ft]
      rw [em] at k
      by_cases c : dp f < 21
      · rw [if_pos c] at k
        rw [decide_eq_true (by omega)]
        exact iteT ⟨_, rfl, Nat.le_of_ble_eq_true rfl, fun t5 ht5 => k _ _ (e04.then_new ht5) (.tup (.of upd_same) (.cons (.str _) (.cons ((hd.to e04).to (Same.new ht5)) .nil)))⟩
      · rw [if_neg c] at k
        rw [decide_eq_false (by omega)]
        exact iteF ⟨Nat.le_of_ble_eq_true rfl, fun t5 ht5 => k _ _ (e04.then_new ht5) (.tup (.of upd_same) (.cons (.str _) (.cons (.int _) (.cons (.bl _) .nil))))⟩
/-- a part begins with a word; behind a not, so does what is in it -/
theorem word_view {H : Hp} {v : V} {g : Fm} (h : Dp K H v (fmD g)) (o : lwF g = true) :
    (∃ (p : Addr) (xs : List V) (kw : Str), v = .ref p ∧ SqT K H p xs ∧ atI xs 0 = some (.str kw) ∧ decide (V.str kw = V.str "not") = false ∧ aheadP g = true) ∨
    ∃ (p q : Addr) (ys : List V) (kw : Str), v = .ref p ∧ SqT K H p [.str "not", .ref q] ∧ SqT K H q ys ∧ atI ys 0 = some (.str kw) ∧ decide (V.str kw = V.str "mod") = aheadP g := by
  cases g with
  | bad k => cases o
  | neg g =>
    obtain ⟨p, a, b, rfl, hq, h1, h2⟩ := Dp.two (show Dp K H v (.tuple [.str "not", fmD g]) from h)
    cases h1
    have o2 : lwF g = true := o
    right
    cases g with
    | bad k => cases o2
    | neg g =>
      obtain ⟨q, a, z, rfl, hs, hs1, hs2⟩ := Dp.two (show Dp K H b (.tuple [.str "not", fmD g]) from h2)
      cases hs1
      exact ⟨p, q, _, "not", rfl, hq, hs, rfl, rfl⟩
    | ge c ps =>
      obtain ⟨q, a, z, rfl, hs, hs1, hs2⟩ := Dp.two (show Dp K H b (.tuple [.str "ge", tmD c ps]) from h2)
      cases hs1
      exact ⟨p, q, _, "ge", rfl, hq, hs, rfl, rfl⟩
    | eq c ps =>
      obtain ⟨q, a, z, rfl, hs, hs1, hs2⟩ := Dp.two (show Dp K H b (.tuple [.str "eq", tmD c ps]) from h2)
      cases hs1
      exact ⟨p, q, _, "eq", rfl, hq, hs, rfl, rfl⟩
    | lst w fs =>
      obtain ⟨q, a, z, rfl, hs, hs1, hs2⟩ := Dp.two (show Dp K H b (.tuple [.str (lw w), .tuple (fmDs fs)]) from h2)
      cases hs1
      exact ⟨p, q, _, lw w, rfl, hq, hs, rfl, by cases w <;> rfl⟩
    | bnd w m g =>
      obtain ⟨q, zs0, rfl, hs, ha⟩ := (show Dp K H b (.tuple [.str (bw w), .int m, fmD g]) from h2).tup_inv
      obtain ⟨a, z, z0, rfl, hs1, hs2, hs3⟩ := ha.three
      cases hs1
      exact ⟨p, q, _, bw w, rfl, hq, hs, rfl, by cases w <;> rfl⟩
    | mod m c ps =>
      obtain ⟨q, zs0, rfl, hs, ha⟩ := (show Dp K H b (.tuple [.str "mod", .int m, tmD c ps]) from h2).tup_inv
      obtain ⟨a, z, z0, rfl, hs1, hs2, hs3⟩ := ha.three
      cases hs1
      exact ⟨p, q, _, "mod", rfl, hq, hs, rfl, rfl⟩
  | lst w fs =>
    obtain ⟨p, a, b, rfl, hq, h1, h2⟩ := Dp.two (show Dp K H v (.tuple [.str (lw w), .tuple (fmDs fs)]) from h)
    cases h1
    exact .inl ⟨p, _, lw w, rfl, hq, rfl, by cases w <;> rfl, rfl⟩
  | bnd w m g =>
    obtain ⟨p, zs0, rfl, hq, ha⟩ := (show Dp K H v (.tuple [.str (bw w), .int m, fmD g]) from h).tup_inv
    obtain ⟨a, b, z0, rfl, h1, h2, h3⟩ := ha.three
    cases h1
    exact .inl ⟨p, _, bw w, rfl, hq, rfl, by cases w <;> rfl, rfl⟩
  | ge c ps =>
    obtain ⟨p, a, b, rfl, hq, h1, h2⟩ := Dp.two (show Dp K H v (.tuple [.str "ge", tmD c ps]) from h)
    cases h1
    exact .inl ⟨p, _, "ge", rfl, hq, rfl, rfl, rfl⟩
  | eq c ps =>
    obtain ⟨p, a, b, rfl, hq, h1, h2⟩ := Dp.two (show Dp K H v (.tuple [.str "eq", tmD c ps]) from h)
    cases h1
    exact .inl ⟨p, _, "eq", rfl, hq, rfl, rfl, rfl⟩
  | mod m c ps =>
    obtain ⟨p, zs0, rfl, hq, ha⟩ := (show Dp K H v (.tuple [.str "mod", .int m, tmD c ps]) from h).tup_inv
    obtain ⟨a, z0, b, rfl, h1, h3, h2⟩ := ha.three
    cases h1
    exact .inl ⟨p, _, "mod", rfl, hq, rfl, rfl, rfl⟩
theorem ok_aheadL (B : Bl mg) (F1 : Df P w K mg base CX0 24 "_law_parts" pr__law_parts (spParts 22 K)) (D : Dt K mg "_law_ahead" s__law_ahead pr__law_ahead) :
    Df P w K mg base CX0 25 "_law_ahead" pr__law_ahead (spAheadL K) := by
  refine D.ok sc__law_ahead (fun vs H Q E h => ?_) (fun f cdv A outer s H vs Q E hr h => ?_)
  · obtain ⟨v, f, rfl, _⟩ := h
    rfl
  · obtain ⟨v, f, rfl, hd, o, dN, few, k⟩ := h
    refine ⟨_, (pss_cons (ps_for PassesOwn.never rfl (pi_list (pe_f F1 (hr.mono (by decide)) pass0 (pa_cons (pv 0) (pa_cons (pe_tup pa_nil) pa_nil)))) (pg_tup rfl (pgs_cons (pg_name (i := 1) sc__law_ahead.nd rfl (Or.inl rfl)) (pgs_cons (pg_name (i := 2) sc__law_ahead.nd rfl (Or.inl rfl)) pgs_nil))) (pss_one (ps_if (PW.pt (pw_and (pt_cmpR op_eq (pe_ix ix_tup (pv 2) pe_int (fun _ _ => rfl)) pe_str (nomark _)) (pw_and1 (pt_cmpR op_ne (pe_ix ix_tup (pe_ix ix_tup (pv 2) pe_int (fun _ _ => rfl)) pe_int (fun _ _ => rfl)) pe_str (nomark _))))) (pss_one (ps_ret pe_bl)) pss_nil))) (pss_one (ps_ret pe_bl))), ?_⟩
    dsimp only [cxOf, Cx.nox, L2.start]
    refine sq_fr ⟨_, rfl, Nat.zero_le _, fun t ht => ⟨v, .ref t, f, [], rfl, hd.to (Same.new ht), .tup (.of upd_same) .nil, o, dN, few, by simp; omega, fun H1 l zs e1 hl0 hl hz => ?_⟩⟩
    have e01 : Same H H1 := (Same.new ht).trans e1
    have lz := hz.length
    rw [List.length_map, wk_len] at lz
    refine ⟨l, rfl, ⟨zs, .of hl⟩, for_it walk_list (fun i σ H' => ∃ (v1 v2 : Option V), σ = [some v, v1, v2] ∧ Same H1 H' ∧ ∀ x ∈ (wk [] 1 f).take i, aheadP x.2.2 = true) ⟨none, none, rfl, Same.refl _, fun x hx => absurd hx (by simp)⟩ (fun i σ H' _ q => by obtain ⟨_, _, _, s, _⟩ := q; exact .of (s _ _ hl)) (fun i x σ H3 H4 hi q y => ?_) (fun σ H3 q => ?_)⟩
    · obtain ⟨v1, v2, rfl, s3, hall⟩ := q
      obtain ⟨rfl, hx⟩ := y
      obtain ⟨d0, hd0, hdx⟩ := hz.getV hx
      rw [List.getElem?_map] at hd0
      obtain ⟨y0, hy0, rfl⟩ : ∃ y0, (wk [] 1 f)[i]? = some y0 ∧ pwD y0 = d0 := by
        cases e : (wk [] 1 f)[i]? with
        | none => rw [e] at hd0; cases hd0
        | some y0 => rw [e] at hd0; exact ⟨y0, rfl, by simpa using hd0⟩
      have ht1 : (wk [] 1 f).take (i + 1) = (wk [] 1 f).take i ++ [y0] := by
        rw [List.take_add_one, hy0]
        rfl
      obtain ⟨pp, d, g⟩ := y0
      have og : lwF g = true := (wk_lw f [] 1 o _ (List.mem_of_getElem? hy0)).1
      obtain ⟨T, pathv, partv, rfl, hT, hpath, hpart⟩ := Dp.two (show Dp K H1 x (.tuple [intsD pp, fmD g]) from hdx)
      have hpart := hpart.to s3
      refine ⟨T, _, rfl, s3.seqT hT, rfl, _, _, rfl, _, _, rfl, rfl, ?_⟩
      have next : aheadP g = true → ∃ (v1 v2 : Option V), [some v, some pathv, some partv] = [some v, v1, v2] ∧ Same H1 H4 ∧ ∀ x ∈ (wk [] 1 f).take (i + 1), aheadP x.2.2 = true := fun fg => ⟨_, _, rfl, s3, fun x hx => by
        rw [ht1] at hx
        rcases List.mem_append.mp hx with hx | hx
        · exact hall x hx
        · obtain rfl : x = (pp, d, g) := by simpa using hx
          exact fg⟩
      rcases word_view hpart og with ⟨p, xs, kw, ep, hq, a0, iw, af⟩ | ⟨p, q, ys, kw, ep, hq, hqs, a0, ef⟩
      · subst ep
        exact ⟨_, rfl, p, _, 0, _, rfl, rfl, hq, a0, rfl, _, rfl, by rw [iw]; exact iteF (next af)⟩
      · subst ep
        refine ⟨_, rfl, p, _, 0, _, rfl, rfl, hq, rfl, rfl, _, rfl, iteT ⟨_, rfl, p, _, 1, _, rfl, rfl, hq, rfl, q, _, 0, _, rfl, rfl, hqs, a0, rfl, _, rfl, ?_⟩⟩
        rw [ef]
        cases af : aheadP g with
        | true => exact iteF (next af)
        | false =>
          refine iteT ?_
          have nb : aheadB f = false := by
            unfold aheadB
            rw [List.all_eq_false]
            exact ⟨_, List.mem_of_getElem? hy0, by show ¬ aheadP g = true; rw [af]; simp⟩
          have := k H4 (e01.trans s3)
          rw [nb] at this
          exact this
    · obtain ⟨v1, v2, rfl, s3, hall⟩ := q
      rw [List.take_of_length_le (by rw [wk_len]; omega)] at hall
      have := k H3 (e01.trans s3)
      rw [show aheadB f = true from List.all_eq_true.mpr hall] at this
      exact this
end
end Ws
/-! ## Q03h -/
namespace Ws
open PySem PySem.Spec PyProof.Rows L2 Fo
local macro_rules | `(tactic| walk_at "nf") => `(tactic| dsimp only [tNext, tSeq, tDrop, tRet, tRetN, tIfS, tAsg, gName, gTup, gCons, gNil, tVar, tC, tOp, tUn, rI, rI0, rU, rEq, rNe, tTest, tChain, tAnd, tOr, tNot, tAndV, tOrV, tNotV, tIf, tCB, tCKw, tCons, tNil, tTup, tLst, tCa, tCallS, tB, rIxT, rIxL, rIxS, cxOf, Cx.nox, Cx.wish, Cx.blk, L2.start, tPar, tPar3, tNever, tYes, tBits, tRz, tBM, rAppend, tyV, tXf, suiteEnds, gSub, rSetL, tBreak, rMax, tDGet, sDPut, tSl, tNoPart, tPart, tDisp, tPairs, tDGet2, tDNewK, tAugS, ipI, rGetL, tDIn, tDNotIn, tBM0, rPop])
local macro_rules | `(tactic| walk_at "sx") => `(tactic| simp only [wipe, List.cons.injEq, and_assoc, exists_and_left, and_true, List.map_cons, List.map_nil, List.length_cons, List.length_nil, List.cons_append, List.nil_append, List.append_nil, Nat.reduceAdd, Nat.reduceSub, List.replicate, List.getElem?_cons_zero, List.getElem?_cons_succ, List.set_cons_zero, List.set_cons_succ, Option.some.injEq, V.int.injEq, V.bl.injEq, V.ref.injEq, V.str.injEq, exists_eq_left', exists_eq_left, true_and, Bool.true_eq_false, Bool.false_eq_true, if_true, if_false])

def spFormulaL (K : PySem.W.Frag) : Sp := fun vs H Q _ => ∃ (a l c : Addr) (n : Nat), vs = [.ref a] ∧ LSt H a l c n ∧ n ≤ 1000 ∧ ∀ H' u f, Sbt a l H H' → LSt H' a l c (n + 1000) → okF f = true → sz f ≤ 310 → dp f ≤ 20 → Dp K H' u (fmD f) → Q u H'
abbrev s__law_formula : Stmt := top 56
abbrev nm__law_formula : List Str := ["state", "formula", "path", "part", "rows", "const", "step"]
abbrev pr__law_formula : List Str := ["state"]
theorem sc__law_formula : FnScope nm__law_formula pr__law_formula (defScope s__law_formula) := ⟨rfl, rfl, rfl, by decide +kernel, rfl, by decide +kernel, by decide +kernel⟩
theorem SN.mono {n m : Nat} {d : PyData} (h : SN n d) (e : n ≤ m) : SN m d := ⟨h.1, Nat.le_trans h.2 e⟩
theorem sn_str (x : Str) (h : PyData.canLay0 (.str x) = true := by decide +kernel) : SN 0 (.str x) := ⟨h, by simp [PyData.depth]⟩
theorem sn_lw (b : Bool) : SN 0 (.str (lw b)) := by cases b <;> exact sn_str _
theorem sn_bw (b : Bool) : SN 0 (.str (bw b)) := by cases b <;> exact sn_str _
theorem sn_tm (c : Int) (ps : List Pr) : SN 3 (tmD c ps) := SN.tuple fun d hd => by
  simp only [List.mem_cons, List.not_mem_nil, or_false] at hd
  rcases hd with rfl | rfl
  · exact (SN.int c).mono (Nat.zero_le _)
  · refine SN.tuple fun d hd => ?_
    obtain ⟨p, _, rfl⟩ := List.mem_map.mp hd
    refine SN.tuple fun d hd => ?_
    simp only [List.mem_cons, List.not_mem_nil, or_false] at hd
    rcases hd with rfl | rfl <;> exact SN.int _
theorem sn_two {n : Nat} {a b : PyData} (h1 : SN n a) (h2 : SN n b) : SN (n + 1) (.tuple [a, b]) := SN.tuple fun d hd => by
  simp only [List.mem_cons, List.not_mem_nil, or_false] at hd
  rcases hd with rfl | rfl
  · exact h1
  · exact h2
theorem sn_three {n : Nat} {a b c : PyData} (h1 : SN n a) (h2 : SN n b) (h3 : SN n c) : SN (n + 1) (.tuple [a, b, c]) := SN.tuple fun d hd => by
  simp only [List.mem_cons, List.not_mem_nil, or_false] at hd
  rcases hd with rfl | rfl | rfl
  · exact h1
  · exact h2
  · exact h3
mutual
theorem sn_fm : ∀ f : Fm, lwF f = true → SN (2 * dp f + 3) (fmD f)
  | .neg f, h => (sn_two ((sn_str _).mono (Nat.zero_le _)) (sn_fm f h)).mono (by simp only [dp]; omega)
  | .lst w fs, h => (sn_two (n := 2 * dps fs + 4) ((sn_lw w).mono (Nat.zero_le _)) (SN.tuple (sns_fm fs h))).mono (by simp only [dp]; omega)
  | .bnd w n f, h => (sn_three ((sn_bw w).mono (Nat.zero_le _)) ((SN.int n).mono (Nat.zero_le _)) (sn_fm f (by simp only [lwF, Bool.and_eq_true] at h; exact h.2))).mono (by simp only [dp]; omega)
  | .ge c ps, _ => (sn_two ((sn_str _).mono (Nat.zero_le _)) (sn_tm c ps)).mono (by simp [dp])
  | .eq c ps, _ => (sn_two ((sn_str _).mono (Nat.zero_le _)) (sn_tm c ps)).mono (by simp [dp])
  | .mod m c ps, _ => (sn_three ((sn_str _).mono (Nat.zero_le _)) ((SN.int m).mono (Nat.zero_le _)) (sn_tm c ps)).mono (by simp [dp])
  | .bad k, h => by cases h
theorem sns_fm : ∀ fs : List Fm, lwFs fs = true → ∀ d ∈ fmDs fs, SN (2 * dps fs + 3) d
  | [], _, d, hd => by cases hd
  | f :: fs, h, d, hd => by
    simp only [lwFs, Bool.and_eq_true] at h
    rcases List.mem_cons.mp (show d ∈ fmD f :: fmDs fs from hd) with rfl | hd
    · exact (sn_fm f h.1).mono (by simp only [dps]; omega)
    · exact (sns_fm fs h.2 d hd).mono (by simp only [dps]; omega)
end
theorem wk_path : ∀ (f : Fm) (p : List Int) (d : Nat), ∀ x ∈ wk p d f, x.1.length ≤ p.length + 2 * (x.2.1 - d) ∧ d ≤ x.2.1 :=
  ind fun f ih p d x hx => by
    rcases mem_wk.mp hx with rfl | ⟨y, hy, hx⟩
    · exact ⟨by simp, Nat.le_refl _⟩
    · obtain ⟨h1, h2⟩ := ih y hy _ _ x hx
      have h3 := ins_st y hy
      rw [List.length_append] at h1
      exact ⟨by omega, by omega⟩
theorem eqv_nil_l (ds : List PyData) : PyData.eqv (.list ds) (.list []) = ds.isEmpty := by
  cases ds <;> rfl
section
variable {P : Program} {w : World} {K : PySem.W.Frag} {mg : Str → Option Value} {base : Heap}
/-- an atom: what stands ahead of its term, and the term; other constants in its place -/
theorem atom_view {H : Hp} {v : V} {g : Fm} (h : Dp K H v (fmD g)) (o : okF g = true) (at_ : atomP g = true) : ∃ (p tq : Addr) (xs ini : List V) (inD : List PyData) (c : Int) (ps : List Pr) (b : V) (G : Int → Fm), v = .ref p ∧ SqT K H p xs ∧ DpAll K H ini inD ∧ cutV xs none (some (-1)) = ini ∧ ini.length ≤ 2 ∧ noListAll inD = true ∧
    atI xs (-1) = some (.ref tq) ∧ SqT K H tq [.int c, b] ∧ Dp K H b (prsD ps) ∧ ∀ k, fmD (G k) = .tuple (inD ++ [tmD k ps]) ∧ sz (G k) = 1 ∧ dp (G k) = 1 ∧ (fitC k = true → okF (G k) = true) := by
  cases g with
  | ge c ps =>
    obtain ⟨p, a, b, rfl, hq, h1, h2⟩ := Dp.two (show Dp K H v (.tuple [.str "ge", tmD c ps]) from h)
    cases h1
    obtain ⟨tq, c', b2, rfl, htq, hc, hb⟩ := Dp.two (show Dp K H b (.tuple [.int c, prsD ps]) from h2)
    obtain rfl := hc.int_inv
    exact ⟨p, tq, _, [.str "ge"], [.str "ge"], c, ps, b2, fun k => .ge k ps, rfl, hq, .cons (.str _) .nil, rfl, Nat.le_of_ble_eq_true rfl, rfl, rfl, htq, hb, fun k => ⟨rfl, rfl, rfl, fun fk => fitC_tm (k := c) o fk⟩⟩
  | eq c ps =>
    obtain ⟨p, a, b, rfl, hq, h1, h2⟩ := Dp.two (show Dp K H v (.tuple [.str "eq", tmD c ps]) from h)
    cases h1
    obtain ⟨tq, c', b2, rfl, htq, hc, hb⟩ := Dp.two (show Dp K H b (.tuple [.int c, prsD ps]) from h2)
    obtain rfl := hc.int_inv
    exact ⟨p, tq, _, [.str "eq"], [.str "eq"], c, ps, b2, fun k => .eq k ps, rfl, hq, .cons (.str _) .nil, rfl, Nat.le_of_ble_eq_true rfl, rfl, rfl, htq, hb, fun k => ⟨rfl, rfl, rfl, fun fk => fitC_tm (k := c) o fk⟩⟩
  | mod m c ps =>
    obtain ⟨p, zs0, rfl, hq, ha⟩ := (show Dp K H v (.tuple [.str "mod", .int m, tmD c ps]) from h).tup_inv
    obtain ⟨a, z0, b, rfl, h1, h3, h2⟩ := ha.three
    cases h1
    obtain rfl := h3.int_inv
    obtain ⟨tq, c', b2, rfl, htq, hc, hb⟩ := Dp.two (show Dp K H b (.tuple [.int c, prsD ps]) from h2)
    obtain rfl := hc.int_inv
    refine ⟨p, tq, _, [.str "mod", .int m], [.str "mod", .int m], c, ps, b2, fun k => .mod m k ps, rfl, hq, .cons (.str _) (.cons (.int _) .nil), rfl, Nat.le_of_ble_eq_true rfl, rfl, rfl, htq, hb, fun k => ⟨rfl, rfl, rfl, fun fk => ?_⟩⟩
    simp only [okF, Bool.and_eq_true] at o ⊢
    exact ⟨o.1, fitC_tm (k := c) o.2 fk⟩
  | _ => cases at_
theorem ok_formulaL (B : Bl mg) (F1 : Df P w K mg base CX0 2 "_law_draw" pr__law_draw spDrawW) (F2 : Df P w K mg base CX0 11 "_law_bound" pr__law_bound (spBoundL 4 K)) (F3 : Df P w K mg base CX0 24 "_law_parts" pr__law_parts (spParts 22 K)) (F4 : Df P w K mg base CX0 3 "_law_of" pr__law_of spOf)
    (F5 : Df P w K mg base CX0 24 "_law_put_at" pr__law_put_at (spPutAt 22 K)) (F6 : Df P w K mg base CX0 24 "_law_deep" pr__law_deep (spDeep 22 K)) (D : Dt K mg "_law_formula" s__law_formula pr__law_formula) : Df P w K mg base CX0 25 "_law_formula" pr__law_formula (spFormulaL K) := by
  refine D.ok sc__law_formula (fun vs H Q E h => ?_) (fun f cdv A outer s H vs Q E hr h => ?_)
  · obtain ⟨a, l, c, n, rfl, _⟩ := h
    rfl
  · obtain ⟨a, l, c, n, rfl, hs, hn, k⟩ := h
    refine ⟨_, (pss_cons (ps_set (i := 1) sc__law_formula.nd rfl (Or.inl rfl) (pe_f F2 (hr.mono (by decide)) pass0 (pa_cons (pv 0) (pa_cons (pe_lst (pa_cons pe_int (pa_cons pe_int (pa_cons pe_int (pa_cons pe_int pa_nil))))) (pa_cons pe_int (pa_cons pe_int pa_nil)))))) (pss_cons (ps_setLc (i := 4) (own := [("path", 2), ("part", 3)]) (g := gTup K 2 (gCons (gName 2) (gCons (gName 3) gNil))) (tt := (tTest (tOp (rIn K false) (tOp (rIxT K) (tVar 3) (tC (.int 0))) (tTup (tCons (tC (.str "ge")) (tCons (tC (.str "eq")) (tCons (tC (.str "mod")) tNil))))))) rfl sc__law_formula.nd rfl rfl (sw_true rfl rfl rfl (by decide +kernel)) (pi_list (pe_f F3 (hr.mono (by decide)) pass0 (pa_cons (pv 1) (pa_cons (pe_tup pa_nil) pa_nil)))) (blkOk_by (own := [("path", 2), ("part", 3)]) (N := nm__law_formula) (sc := defScope s__law_formula) (by decide +kernel)) (fun _ _ _ _ _ => pg_tup rfl (pgs_cons (pg_name (i := 2) sc__law_formula.nd rfl (Or.inl rfl)) (pgs_cons (pg_name (i := 3) sc__law_formula.nd rfl (Or.inl rfl)) pgs_nil))) (fun _ _ _ _ _ => (pts_one (pt_cmpR op_in_seq (pe_ix ix_tup (pv 3) pe_int (fun _ _ => rfl)) (pe_tup (pa_cons pe_str (pa_cons pe_str (pa_cons pe_str pa_nil)))) (by rfl)))) (fun _ _ _ _ _ => (pe_tup (pa_cons (pv 2) (pa_cons (pv 3) pa_nil))))) (pss_cons (ps_if (PW.pt (pw_and (pt_cmpR (op_neD (hu64 hr)) (pv 4) (pe_lst pa_nil) (nomark _)) (pw_and1 (pt_cmpR op_eq (pe_f F1 (hr.mono (by decide)) pass0 (pa_cons (pv 0) (pa_cons pe_int pa_nil))) pe_int (nomark _))))) (pss_cons (ps_asg (pe_f F4 (hr.mono (by decide)) pass0 (pa_cons (pv 0) (pa_cons (pv 4) pa_nil))) (pg_tup rfl (pgs_cons (pg_name (i := 2) sc__law_formula.nd rfl (Or.inl rfl)) (pgs_cons (pg_name (i := 3) sc__law_formula.nd rfl (Or.inl rfl)) pgs_nil)))) (pss_cons (ps_set (i := 5) sc__law_formula.nd rfl (Or.inl rfl) (pe_f F4 (hr.mono (by decide)) pass0 (pa_cons (pv 0) (pa_cons (pe_lst (pa_cons (pe_op op_pow pe_int pe_int) (pa_cons (pe_un un_neg (pe_op op_pow pe_int pe_int)) (pa_cons (pe_op op_sub (pe_op op_pow pe_int pe_int) pe_int) (pa_cons (pe_op op_sub pe_int (pe_op op_pow pe_int pe_int)) pa_nil))))) pa_nil)))) (pss_one (ps_set (i := 1) sc__law_formula.nd rfl (Or.inl rfl) (pe_f F5 (hr.mono (by decide)) pass0 (pa_cons (pv 1) (pa_cons (pv 2) (pa_cons (pe_op (show OpR _ _ (rCatZ K) from op_catZ) (pe_slice sl_tupZ (pv 3) po_none (po_some (pe_un un_neg pe_int))) (pe_tup (pa_cons (pe_tup (pa_cons (pv 5) (pa_cons (pe_ix ix_tup (pe_ix ix_tup (pv 3) (pe_un un_neg pe_int) (fun _ _ => rfl)) pe_int (fun _ _ => rfl)) pa_nil))) pa_nil))) pa_nil)))))))) pss_nil) (pss_cons (ps_if (pt_cmpR op_eq (pe_f F1 (hr.mono (by decide)) pass0 (pa_cons (pv 0) (pa_cons pe_int pa_nil))) pe_int (nomark _)) (pss_one (ps_for PassesOwn.never rfl (pi_range1 (by rfl) B.range (pa_cons (pe_op op_sub pe_int (pe_f F6 (hr.mono (by decide)) pass0 (pa_cons (pv 1) pa_nil))) pa_nil)) (pg_name (i := 6) sc__law_formula.nd rfl (Or.inl rfl)) (pss_one (ps_set (i := 1) sc__law_formula.nd rfl (Or.inl rfl) (pe_tup (pa_cons (pe_f F4 (hr.mono (by decide)) pass0 (pa_cons (pv 0) (pa_cons (pe_lst (pa_cons pe_str (pa_cons pe_str pa_nil))) pa_nil))) (pa_cons (pe_tup (pa_cons (pv 1) pa_nil)) pa_nil))))))) pss_nil) (pss_one (ps_ret (pv 1))))))), ?_⟩
    dsimp only [cxOf, Cx.nox, L2.start]
    refine sq_go ⟨_, rfl, Nat.le_of_ble_eq_true rfl, fun np hnp => ?_⟩
    have S0 : St4 (upd H np (HO.lst nm4)) a l c np n := ⟨hs.new hnp, upd_same, (hs.off hnp).1, (hs.off hnp).2.1⟩
    refine ⟨a, l, c, np, n, 3, rfl, S0, by simp [bT]; omega, by decide, fun H1 u f e1 st1 o1 z1 d1 hu => ?_⟩
    have s1 : Sbt a l H H1 := (Sbt.of (Same.new hnp)).trans e1
    have z1 : sz f ≤ 283 := z1
    have d1 : dp f ≤ 9 := d1
    have st1 : LSt H1 a l c (n + 917) := st1
    have w1 := ok_lw f o1
    -- the second half
    have rest : ∀ (H2 : Hp) (u : V) (f : Fm) (v2 v3 v4 v5 : Option V) (m : Nat) (D : Ends), Sbt a l H H2 → LSt H2 a l c m → m ≤ n + 930 → okF f = true → sz f ≤ 283 → dp f ≤ 9 → Dp K H2 u (fmD f) → D.rt = Q →
        tSeq (tIfS (tTest (tOp rEq (tCa spDrawW E0 (tCons (tVar 0) (tCons (tC (V.int 3)) tNil))) (tC (V.int 0))))
          (tFor (iRng1 (tCons (tOp (rI0 fun i j => V.int (i - j)) (tC (V.int 20)) (tCa (spDeep 22 K) E0 (tCons (tVar 1) tNil))) tNil)) (gName 6)
            (tAsg (tTup (tCons (tCa spOf E0 (tCons (tVar 0) (tCons (tLst (tCons (tC (V.str "and")) (tCons (tC (V.str "or")) tNil))) tNil))) (tCons (tTup (tCons (tVar 1) tNil)) tNil))) (gName 1))) tNext) (tRet (tVar 1))
          D [some (.ref a), some u, v2, v3, v4, v5, none] H2 := by
      intro H2 u f v2 v3 v4 v5 m D s2 st2 hm o2 z2 d2 hu2 eD
      obtain ⟨nx, rt, bk, ct⟩ := D
      obtain rfl : rt = Q := eD
      refine sq_if0 ⟨_, rfl, a, l, c, m, 3, rfl, st2, by omega, by decide, by decide, fun H3 r e3 st3 r1 r2 => ⟨rfl, _, rfl, ?_⟩⟩
      have hu3 := keepT e3 st2 _ _ (noList_fm f o2) hu2
      have s3 := s2.trans e3
      by_cases c1 : r = 0
      · rw [decide_eq_true (by rw [c1])]
        refine iteT ⟨_, rfl, u, f, rfl, hu3, ok_lw f o2, by omega, by omega, fun H4 e4 => ⟨_, _, rfl, rfl, ((20 - dp f : Nat) : Int), ?_, by omega, by omega, ?_⟩⟩
        · show [V.int ((20 : Int) - ((dp f : Nat) : Int))] = _
          rw [show (20 : Int) - ((dp f : Nat) : Int) = ((20 - dp f : Nat) : Int) from by omega]
        rw [Int.toNat_natCast]
        refine for_it walk_range (fun i σ H' => ∃ (u' : V) (f' : Fm) (v6 : Option V), σ = [some (.ref a), some u', v2, v3, v4, v5, v6] ∧ Sbt a l H H' ∧ LSt H' a l c (m + 1 + i) ∧ okF f' = true ∧ sz f' = sz f + i ∧ dp f' = dp f + i ∧ Dp K H' u' (fmD f')) ⟨u, f, none, rfl, s3.same e4, st3.same e4, o2, rfl, rfl, hu3.to e4⟩ (fun _ _ _ _ _ => trivial) (fun i x σ H5 H6 hi p y => ?_) (fun σ H5 p => ?_)
        · obtain ⟨u', f', v6, rfl, s5, st5, o5, z5, d5, hu5⟩ := p
          obtain ⟨rfl, rfl⟩ := y
          refine ⟨_, rfl, Nat.le_of_ble_eq_true rfl, fun wl hwl => ⟨a, l, c, wl, _, _, rfl, st5.new hwl, by omega, upd_same, (st5.off hwl).1, (st5.off hwl).2.1, by decide, by decide, fun H7 x e7 st7 hx => ?_⟩⟩
          obtain ⟨b, rfl⟩ : ∃ b : Bool, x = .str (lw b) := by
            simp only [List.mem_cons, List.not_mem_nil, or_false] at hx
            rcases hx with rfl | rfl
            · exact ⟨true, rfl⟩
            · exact ⟨false, rfl⟩
          have hu7 := keepT e7 (st5.new hwl) _ _ (noList_fm f' o5) (hu5.to (Same.new hwl))
          refine ⟨_, rfl, Nat.le_of_ble_eq_true rfl, fun t ht => ⟨Nat.le_of_ble_eq_true rfl, fun t2 ht2 => ?_⟩⟩
          have e78 := (Same.new (o := HO.tup [u']) ht).then_new (o := HO.tup [V.str (lw b), V.ref t]) ht2
          refine ⟨.ref t2, .lst b [f'], _, rfl, ((s5.same (Same.new hwl)).trans e7).same e78, (st7.same e78).mono (by omega), by simp [okF, okFs, o5], by simp only [sz, szs]; omega, by simp only [dp, dps]; omega, .tup (.of upd_same) (.cons (.str _) (.cons (.tup (xs := [u']) (.of (by rw [upd_ne (ne_of_none upd_same ht2)]; exact upd_same)) (.cons (hu7.to e78) .nil)) .nil))⟩
        · obtain ⟨u', f', v6, rfl, s5, st5, o5, z5, d5, hu5⟩ := p
          exact ⟨_, rfl, k _ _ f' s5 (st5.mono (by omega)) o5 (by omega) (by omega) hu5⟩
      · rw [decide_eq_false (fun z => c1 (V.int.inj z))]
        exact iteF ⟨_, rfl, k _ _ f s3 (st3.mono (by omega)) o2 (by omega) (by omega) hu3⟩
    -- the atoms
    refine sq_go ⟨_, rfl, Nat.zero_le _, fun t ht => ⟨u, .ref t, f, [], rfl, hu.to (Same.new ht), .tup (.of upd_same) .nil, w1, by omega, by omega, by simp; omega, fun H2 pl zs e2 hpl0 hpl hz => ?_⟩⟩
    have e12 : Same H1 H2 := (Same.new ht).trans e2
    have lz := hz.length
    rw [List.length_map, wk_len] at lz
    have nlp : ∀ x ∈ wk [] 1 f, noList (pwD x) = true := fun x hx => by
      show (noList (intsD x.1) && (noList (fmD x.2.2) && true)) = true
      rw [noList_ints, noList_lw x.2.2 (wk_lw f [] 1 w1 x hx).1]
      rfl
    have nlg : ∀ i, noList (pwD ((wk [] 1 f).getD i ([], 0, .bad 0))) = true := fun i => by
      rw [List.getD_eq_getElem?_getD]
      cases e : (wk [] 1 f)[i]? with
      | none => rfl
      | some x => exact nlp x (List.mem_of_getElem? e)
    refine ⟨pl, rfl, ⟨zs, .of hpl⟩, fun D hD => lcF walk_list hD (slt (by omega)) (fun i => atomP ((wk [] 1 f).getD i ([], 0, .bad 0)).2.2) (fun i y H => Dp K H y (pwD ((wk [] 1 f).getD i ([], 0, .bad 0)))) (fun i y H3 H4 e n h => keepN e n n _ _ (nlg i) h) (fun H3 e => .of (e _ _ hpl)) (fun i x H3 H4 Q1 Q0 hi e y q1 q0 => ?_) (fun H3 ys e hD3 g => ?_)⟩
    · obtain ⟨rfl, hx⟩ := y
      obtain ⟨d0, hd0, hdx⟩ := hz.getV hx
      rw [List.getElem?_map] at hd0
      obtain ⟨y0, hy0, rfl⟩ : ∃ y0, (wk [] 1 f)[i]? = some y0 ∧ pwD y0 = d0 := by
        cases e : (wk [] 1 f)[i]? with
        | none => rw [e] at hd0; cases hd0
        | some y0 => rw [e] at hd0; exact ⟨y0, rfl, by simpa using hd0⟩
      have ey : (wk [] 1 f).getD i ([], 0, .bad 0) = y0 := by rw [List.getD_eq_getElem?_getD, hy0]; rfl
      rw [ey] at q1 q0
      obtain ⟨pp, d, g⟩ := y0
      have og : lwF g = true := (wk_lw f [] 1 w1 _ (List.mem_of_getElem? hy0)).1
      obtain ⟨T, pathv, partv, rfl, hT, hpath, hpart⟩ := Dp.two (show Dp K H2 x (.tuple [intsD pp, fmD g]) from hdx)
      have hpart := hpart.to e
      have hpath := hpath.to e
      refine ⟨T, _, rfl, e.seqT hT, rfl, _, _, rfl, _, _, rfl, rfl, rfl, ?_⟩
      rcases part_view hpart og with ⟨p, xs, kw, ep, hq, a0, iw, _, ap⟩ | ⟨p, tq, xs, kw, c', b, ep, hq, a0, iw, am, htq, ef, ap⟩
      · subst ep
        refine ⟨_, rfl, p, _, 0, _, rfl, rfl, hq, a0, Nat.le_of_ble_eq_true rfl, fun t2 ht2 => ⟨t2, _, rfl, .inr (.of upd_same), rfl, rfl, _, rfl, ?_⟩⟩
        rw [if_neg (by simp), iw]
        exact iteF (q0 ap _ (Same.new ht2))
      · subst ep
        refine ⟨_, rfl, p, _, 0, _, rfl, rfl, hq, a0, Nat.le_of_ble_eq_true rfl, fun t2 ht2 => ⟨t2, _, rfl, .inr (.of upd_same), rfl, rfl, _, rfl, ?_⟩⟩
        rw [if_neg (by simp), iw]
        refine iteT ⟨_, rfl, _, rfl, Nat.le_of_ble_eq_true rfl, fun t3 ht3 => ?_⟩
        have e3 := (Same.new (o := HO.tup [V.str "ge", V.str "eq", V.str "mod"]) ht2).then_new (o := HO.tup [pathv, V.ref p]) ht3
        exact q1 ap _ _ (.tup (.of upd_same) (.cons (hpath.to e3) (.cons (hpart.to e3) .nil))) e3
    · have ha := g.dp (K := K) (fun i => pwD ((wk [] 1 f).getD i ([], 0, .bad 0))) (fun i y h => h)
      have el : ((List.range zs.length).filter fun i => atomP ((wk [] 1 f).getD i ([], 0, .bad 0)).2.2).map (fun i => pwD ((wk [] 1 f).getD i ([], 0, .bad 0))) = ((wk [] 1 f).filter fun x => atomP x.2.2).map pwD := by
        rw [lz, ← wk_len [] 1 f, ← filter_get (wk [] 1 f) ([], 0, .bad 0) (fun x => atomP x.2.2), List.map_map]
        rfl
      rw [el] at ha
      have e13 := e12.trans e
      have s3 := s1.same e13
      have st3 := st1.same e13
      have hu3 := hu.to e13
      have lf : ys.length ≤ sz f := by
        rw [ha.length, List.length_map, ← wk_len [] 1 f]
        exact List.length_filter_le _ _
      have nlr : noListAll (((wk [] 1 f).filter fun x => atomP x.2.2).map pwD) = true := noListAll_of fun y hy => by
        obtain ⟨x, hx, rfl⟩ := List.mem_map.mp hy
        exact nlp x (List.mem_filter.mp hx).1
      have snr : SN 25 (.list (((wk [] 1 f).filter fun x => atomP x.2.2).map pwD)) := SN.list fun y hy => by
        obtain ⟨x, hx, rfl⟩ := List.mem_map.mp hy
        have hw := wk_lw f [] 1 w1 x (List.mem_filter.mp hx).1
        exact (sn_two (n := 21) ((SN.ints _).mono (by omega)) ((sn_fm x.2.2 hw.1).mono (by omega))).mono (by omega)
      show tSeq (tIfS (tAnd _ _) _ _) _ _ [some (.ref a), some u, none, none, some (.ref D), none, none] H3
      refine sq_if0 ⟨_, rfl, Nat.zero_le _, fun t0 ht0 => ⟨.list (((wk [] 1 f).filter fun x => atomP x.2.2).map pwD), .list [], .lst (.of ((Same.new ht0) _ _ hD3)) (ha.to (Same.new ht0)), .lst (.of upd_same) .nil, snr.shaped (by decide), SN.shaped (n := 1) (SN.list fun d hd => by cases hd) (by decide), _, rfl, ?_⟩⟩
      rw [eqv_nil_l]
      have e4 := Same.new (o := HO.lst ([] : List V)) ht0
      have st4 := st3.same e4
      have s4 := s3.same e4
      have hu4 := hu3.to e4
      have hD4 := e4 _ _ hD3
      have ha4 := ha.to e4
      generalize upd H3 t0 (HO.lst []) = H4 at st4 s4 hu4 hD4 ha4 ⊢
      cases hempty : (((wk [] 1 f).filter fun x => atomP x.2.2).map pwD).isEmpty with
      | true => exact iteF (rest H4 u f _ _ _ _ _ _ s4 st4 (by omega) o1 z1 d1 hu4 rfl)
      | false =>
      have ypos : 1 ≤ ys.length := by
        rw [ha.length]
        cases hl : (((wk [] 1 f).filter fun x => atomP x.2.2).map pwD) with
        | nil => rw [hl] at hempty; cases hempty
        | cons a b => simp
      have Dst : D ≠ a ∧ D ≠ l := by
        obtain ⟨cs, ls, kk, SS⟩ := st4
        refine ⟨fun z => ?_, fun z => ?_⟩
        · have := SS.top; rw [← z, hD4] at this; cases this
        · obtain ⟨cs1, ls1, kk1, SS1⟩ := st1
          have q := e12 _ _ SS1.lefts
          rw [← z] at q
          rw [hD] at q; cases q
      refine iteT ⟨_, rfl, a, l, c, _, 3, rfl, st4, by omega, by decide, by decide, fun H5 r e5 st5 r1 r2 => ⟨rfl, _, rfl, ?_⟩⟩
      have hu5 := keepT e5 st4 _ _ (noList_fm f o1) hu4
      have s5 := s4.trans e5
      by_cases c1 : r = 0
      case neg =>
        rw [decide_eq_false (fun z => c1 (V.int.inj z))]
        exact iteF (rest H5 u f _ _ _ _ _ _ s5 st5 (by omega) o1 z1 d1 hu5 rfl)
      rw [decide_eq_true (by rw [c1])]
      have hD5 := e5 _ _ hD4 Dst.1 Dst.2
      have ha5 := keepTs e5 st4 _ _ nlr ha4
      refine iteT (sq_as ⟨_, rfl, _, rfl, a, l, c, D, _, ys, rfl, st5, by omega, hD5, Dst.1, Dst.2, ypos, by omega, fun H6 x e6 st6 hx => ?_⟩)
      have hu6 := keepT e6 st5 _ _ (noList_fm f o1) hu5
      have s6 := s5.trans e6
      have ha6 := keepTs e6 st5 _ _ nlr ha5
      obtain ⟨j, hj⟩ := List.mem_iff_getElem?.mp hx
      obtain ⟨d0, hd0, hdx⟩ := ha6.getV hj
      obtain ⟨y0, hy0, rfl⟩ := List.mem_map.mp (List.mem_of_getElem? hd0)
      obtain ⟨hy1, hy2⟩ := List.mem_filter.mp hy0
      obtain ⟨rp, hrp, hput⟩ := put_all f [] 1 y0 hy1
      obtain ⟨pp, dd, g⟩ := y0
      have og : okF g = true := (wk_ok f [] 1 o1 _ hy1).2.1
      obtain ⟨T, pathv, partv, rfl, hT, hpath, hpart⟩ := Dp.two (show Dp K H6 x (.tuple [intsD pp, fmD g]) from hdx)
      refine ⟨T, _, rfl, hT, rfl, _, _, rfl, _, _, rfl, rfl, ?_⟩
      obtain ⟨p, tq, xs, ini, inD, c0, ps, b, G, rfl, hq, hini, ecut, il, nli, am, htq, hb, hG⟩ := atom_view hpart og hy2
      -- the constant
      refine sq_go ⟨_, rfl, _, _, rfl, rfl, ⟨by decide, by decide, by decide⟩, _, _, rfl, rfl, ⟨by decide, by decide, by decide⟩, _, rfl, _, _, rfl, rfl, ⟨by decide, by decide, by decide⟩, _, _, rfl, rfl, _, _, rfl, rfl, ⟨by decide, by decide, by decide⟩, _, _, rfl, rfl, Nat.le_of_ble_eq_true rfl, fun cl hcl => ?_⟩
      refine ⟨a, l, c, cl, _, _, rfl, st6.new hcl, by omega, upd_same, (st6.off hcl).1, (st6.off hcl).2.1, Nat.le_of_ble_eq_true rfl, Nat.le_of_ble_eq_true rfl, fun H7 x7 e7 st7 hx7 => ?_⟩
      obtain ⟨k7, rfl, hk7⟩ : ∃ k : Int, x7 = .int k ∧ fitC k = true := by
        simp only [List.mem_cons, List.not_mem_nil, or_false] at hx7
        rcases hx7 with rfl | rfl | rfl | rfl
        · exact ⟨_, rfl, by decide⟩
        · exact ⟨_, rfl, by decide⟩
        · exact ⟨_, rfl, by decide⟩
        · exact ⟨_, rfl, by decide⟩
      have sn6 := st6.new (o := HO.lst [V.int ((10 : Int) ^ (Int.toNat 9)), V.int (-((10 : Int) ^ (Int.toNat 9))), V.int ((10 : Int) ^ (Int.toNat 9) - 1), V.int (1 - (10 : Int) ^ (Int.toNat 9))]) hcl
      have n6 := Same.new (o := HO.lst [V.int ((10 : Int) ^ (Int.toNat 9)), V.int (-((10 : Int) ^ (Int.toNat 9))), V.int ((10 : Int) ^ (Int.toNat 9) - 1), V.int (1 - (10 : Int) ^ (Int.toNat 9))]) hcl
      have hu7 := keepT e7 sn6 _ _ (noList_fm f o1) (hu6.to n6)
      have hpath7 := keepT e7 sn6 _ _ (noList_ints pp) (hpath.to n6)
      have hini7 := keepTs e7 sn6 _ _ nli (hini.to n6)
      have hb7 := keepT e7 sn6 _ _ (noList_prs ps) (hb.to n6)
      have hq7 := e7.seqT sn6 (n6.seqT hq)
      have htq7 := e7.seqT sn6 (n6.seqT htq)
      have s7 := (s6.same n6).trans e7
      obtain ⟨gd, gz, gp, go⟩ := hG k7
      obtain ⟨hF, hputP, PP⟩ := hput (G k7)
      rw [show ([] : List Int) ++ rp = rp from rfl] at hrp
      have hrp : pp = rp := hrp
      subst hrp
      refine ⟨_, rfl, _, rfl, _, rfl, _, rfl, _, rfl, p, xs, rfl, hq7, fun H8 r8 e8 hr8 => ⟨_, rfl, _, rfl, _, rfl, p, xs, -1, _, rfl, rfl, e8.seqT hq7, am, tq, _, 1, _, rfl, rfl, e8.seqT htq7, rfl, Nat.le_of_ble_eq_true rfl, fun t1 ht1 => ⟨Nat.le_of_ble_eq_true rfl, fun t2 ht2 => ?_⟩⟩⟩
      rw [ecut] at hr8
      have e12' := (Same.new (o := HO.tup [V.int k7, b]) ht1).then_new (o := HO.tup [V.ref t1]) ht2
      refine ⟨r8, t2, ini, [.ref t1], rfl, rfl, e12'.seqT hr8, .of upd_same, by simp; omega, fun H9 q9 e9 hq9 => ?_⟩
      have e79 : Same H7 H9 := (e8.trans e12').trans e9
      have et1 : H9 t1 = some (.tup [V.int k7, b]) := e9 _ _ (by rw [upd_ne (ne_of_none upd_same ht2)]; exact upd_same)
      have hg9 : Dp K H9 (.ref q9) (fmD (G k7)) := by
        rw [gd]
        exact .tup hq9 ((hini7.to e79).append (.cons (.tup (.of et1) (.cons (.int _) (.cons (hb7.to e79) .nil))) .nil))
      have ppl : pp.length ≤ 1000 := by
        have := wk_path f [] 1 _ hy1
        have := wk_dp f [] 1 _ hy1
        simp only [List.length_nil] at *
        omega
      refine ⟨[], u, pathv, .ref q9, f, G k7, hF, pp, rfl, lsts_nil, hu7.to e79, hpath7.to e79, by rw [hid_nil]; exact hg9, w1, by omega, by omega, ppl, hputP, fun H10 u10 e10 hu10 => ?_⟩
      rw [hid_nil] at hu10
      have e710 := e79.trans e10
      have zz := PP.sz_
      have dz := PP.dp_
      have wd := wk_dp f [] 1 _ hy1
      have ws := sz_pos g
      have og1 : sz g = 1 := by cases g <;> first | rfl | cases hy2
      refine rest H10 u10 hF _ _ _ _ _ _ (s7.same e710) (st7.same e710) (by omega) (PP.ok_ o1 (go hk7)) ?_ ?_ hu10 rfl
      · have zz : sz hF + sz g = sz f + sz (G k7) := zz
        omega
      · have dz : 1 + dp hF ≤ max (1 + dp f) (dd + dp (G k7)) := dz
        have wd : dd + 1 ≤ 1 + dp f := wd
        omega
end
end Ws
/-! ## Z03a -/
namespace Ws
open PySem PySem.Spec PyProof.Rows L2 LamX
/-! ### the end, with tables and guards -/
def tab0 : Obj := { cls := .none, data := .fields #[] }
theorem lawCallGT {P : Program} {w : World} {K : PySem.W.Frag} {mg mb : Str → Option Value} {k : Nat} {fa a : Addr} {cs : List (Addr × Addr)} {fd : FuncData} {x : Str} {sp : Sp} {s₁ : Shared} {vs : List Value} {ns : List Int}
    (KX : K.In s₁.heap) (hns : s₁.heap.Ns mainGlobals mg) (hb : s₁.heap.Ns builtinsNs mb) (hbb : ∀ y : Str, y ≠ "__name__" → mb y = bootBuiltins y) (hlim : s₁.heap.NoLimit) (hg : s₁.gens = #[])
    (tE : ∀ p ∈ cs, s₁.heap.get? p.2 = some tab0) (tK : ∀ p ∈ cs, K.lookup p.2 = none) (tC : ∀ p ∈ cs, PySem.W.CodeHd s₁.heap p.1 p.2)
    (bmn : ∃ (bm : Addr) (ob : Obj), mg "__builtins__" = some (.ref bm) ∧ bm ≠ builtinsNs ∧ s₁.heap.get? bm = some ob ∧ ob.cls = .type "module" ∧ ob.dict = some builtinsNs ∧ ob.data = .plain)
    (ha : s₁.heap.get? a = some { cls := .type "list", data := .seq vs.toArray }) (hi : IntsAre vs ns) (hl : ns.length ≤ sizeLine) (hr : Room k callerA)
    (F : ∀ base : Heap, K.In base → base.Ns mainGlobals mg → (∀ p ∈ cs, TabB base mg p.1 p.2) → FnOkG P w K mg base CX0 k fa fd [x] sp) (hbind : ∀ (s : Shared) (u : Value), BindsTo s fd ⟨[u], []⟩ [(x, u)])
    (hsp : ∀ H : Hp, (∀ p ∈ cs, H p.2 = some (.tbl #[])) → SqL K H a (ns.map V.int) → sp [.ref a] H (fun v _ => v = .bl true) fun _ _ _ => False) :
    codeAny (model P w) callerA (.call (.ref fa) ⟨[.ref a], []⟩) (fun r s' => r = .ok (.ret (.bool true)) ∧ PySem.OldK s₁.heap s'.heap ∧ s'.os = s₁.os ∧ AllBare s'.gens) s₁ := by
  have rv := vals_ints hi
  have lv := hi.length
  have noTab : ∀ p ∈ cs, p.2 ≠ a := fun p hp z => by
    have q := tE p hp
    rw [z, ha] at q
    exact nomatch congrArg Obj.data (Option.some.inj q)
  have main : ∀ T : Hp, (∀ p ∈ cs, T p.2 = some (.tbl #[])) → SqL K T a (ns.map V.int) → HOk P w T s₁.heap →
      (∀ b u, T b = some u → (b = a ∧ ∃ ob xs, u = .frz ob (.lst xs)) ∨ ∃ p ∈ cs, b = p.2 ∧ u = .tbl #[]) → (T a ≠ none → K.lookup a = none) →
      codeAny (model P w) callerA (.call (.ref fa) ⟨[.ref a], []⟩) (fun r s' => r = .ok (.ret (.bool true)) ∧ PySem.OldK s₁.heap s'.heap ∧ s'.os = s₁.os ∧ AllBare s'.gens) s₁ := fun T tT tS tk tA tKa => by
    have off : ∀ {b : Addr} {o : Obj}, s₁.heap.get? b = some o → (∀ xs n, o.data ≠ .seq xs n) → o.data ≠ .fields #[] → T b = none := fun {b o} z d1 d2 => by
      cases t : T b with
      | none => rfl
      | some u =>
        rcases tA b u t with ⟨rfl, _⟩ | ⟨p, hp, rfl, _⟩
        · cases ha.symm.trans z
          exact absurd rfl (d1 _ _)
        · cases (tE p hp).symm.trans z
          exact absurd rfl d2
    have dicts : ∀ {b : Addr} {m : Str → Option Value}, s₁.heap.Ns b m → (hidT s₁.heap T).Ns b m := fun {b m} z =>
      let ⟨o, es, ep, g1, g2, g3⟩ := z
      ⟨o, es, ep, hidT_get g1 (off g1 (fun xs n q => nomatch g2.symm.trans q) (fun q => nomatch g2.symm.trans q)), g2, g3⟩
    have kin : K.In (hidT s₁.heap T) := fun b o z => hidT_get (KX b o z) (by
      cases t : T b with
      | none => rfl
      | some u =>
        rcases tA b u t with ⟨rfl, _⟩ | ⟨p, hp, rfl, _⟩
        · rw [tKa (fun y => by rw [t] at y; exact nomatch y)] at z
          exact nomatch z
        · rw [tK p hp] at z
          exact nomatch z)
    have tabs : ∀ p ∈ cs, TabB (hidT s₁.heap T) mg p.1 p.2 := fun p hp => by
      have e0 := tE p hp
      refine ⟨?_, ?_, fun z => ?_⟩
      · obtain ⟨o, us, c1, c2, c3, c4, c5, c6, c7, g, r1, r2, r3⟩ := tC p hp
        exact ⟨o, us, c1, c2, c3, c4, c5, c6, c7, hidT_get g (off g (fun xs n q => nomatch r2.symm.trans q) (fun q => by
          have q2 := r2.symm.trans q
          cases q2
          exact nomatch r3.1)), r1, r2, r3⟩
      · obtain ⟨bm, ob, b1, b2, b3, b4, b5, b6⟩ := bmn
        refine ⟨bm, ob, b1, b2, fun q => ?_, fun q => ?_, hidT_get b3 (off b3 (fun xs n q => nomatch b6.symm.trans q) (fun q => nomatch b6.symm.trans q)), b4, b5, b6⟩
        · obtain ⟨o, es, ep, g1, g2, _⟩ := hns
          rw [q, g1] at b3
          cases b3
          exact nomatch b6.symm.trans g2
        · rw [q, e0] at b3
          cases b3
          exact nomatch b6
      · obtain ⟨o, es, ep, g1, g2, _⟩ := hns
        rw [z, e0] at g1
        cases g1
        exact nomatch g2
    obtain ⟨mc, lim1, lim2⟩ := hlim
    have mods : Mod K mg (hidT s₁.heap T) := ⟨kin, dicts hns, ⟨mb, dicts hb, hbb⟩, ⟨mc, dicts lim1, lim2⟩⟩
    have nil : ∀ {b : Addr}, b ∈ frs ([] : List Env) → False := fun {b} z => by cases z
    have env : Env0 P w K mg (hidT s₁.heap T) callerA [] s₁ T := ⟨rfl, mods, fun b o z => of_hidT z, Nat.le_of_eq (hidT_size ..), trivial, fun b z => (nil z).elim, tk, .of_eq hg⟩
    refine codeAny_mono ((F _ kin (dicts hns) tabs).run _ [] s₁ T ⟨[.ref a], []⟩ [.ref a] [.ref a] _ _ rfl hr env (hbind _ _) (.cons rfl .nil) (hsp T tT tS)) fun r s' z => ?_
    cases r with
    | error e => exact False.elim z
    | ok fl =>
      cases fl with
      | ret u =>
        obtain ⟨v, H2, z1, z2, un, z4, z5, z6⟩ := z
        obtain rfl : v = .bl true := z6
        have same : ∀ b o, (∀ p ∈ cs, b ≠ p.2) → s₁.heap.get? b = some o → s'.heap.get? b = some o := fun b o nb g => by
          cases t : T b with
          | none => exact un.keep b o g t (fun y => nil y) (fun y => nomatch y)
          | some u =>
            rcases tA b u t with ⟨e, ob, xs, rfl⟩ | ⟨p, hp, e, _⟩
            · have g1 := (tk b _ t).1
              have g2 := (z4 b _ (un.frzs b ob _ t)).1
              rw [g1] at g
              cases g
              exact g2
            · exact absurd e (nb p hp)
        have more : ∀ p ∈ cs, ∃ ys : Array Value, s'.heap.get? p.2 = some { cls := .none, data := .fields ys } := fun p hp => by
          obtain ⟨ys, y⟩ := un.tbls p.2 #[] (tT p hp)
          exact ⟨_, z4 p.2 _ y⟩
        refine ⟨by rw [show u = Value.bool true from z5], ⟨fun b o g => ?_, fun b o g => ?_⟩, z1, z2⟩
        · by_cases c : ∃ p ∈ cs, b = p.2
          · obtain ⟨p, hp, rfl⟩ := c
            obtain ⟨ys, hy⟩ := more p hp
            cases (tE p hp).symm.trans g
            exact .inr (.inl ⟨((tC p hp).tab (tE p hp)).isCodeTable, rfl, #[], ys, rfl, by rw [Array.empty_append]; exact hy⟩)
          · exact .inl (same b o (fun p hp e => c ⟨p, hp, e⟩) g)
        · by_cases c : ∃ p ∈ cs, b = p.2
          · obtain ⟨p, hp, rfl⟩ := c
            obtain ⟨ys, hy⟩ := more p hp
            exact ⟨_, hy⟩
          · exact ⟨o, same b o (fun p hp e => c ⟨p, hp, e⟩) g⟩
      | next => exact False.elim z
      | brk => exact False.elim z
      | cont => exact False.elim z
  have pick : ∀ (U : Option HO) (b : Addr) (u : HO), (if ∃ p ∈ cs, b = p.2 then some (.tbl #[]) else if b = a then U else none) = some u → (b = a ∧ U = some u) ∨ ∃ p ∈ cs, b = p.2 ∧ u = .tbl #[] := fun U b u z => by
    by_cases c : ∃ p ∈ cs, b = p.2
    · rw [if_pos c] at z
      obtain ⟨p, hp, e⟩ := c
      exact .inr ⟨p, hp, e, (Option.some.inj z).symm⟩
    · rw [if_neg c] at z
      by_cases d : b = a
      · rw [if_pos d] at z
        exact .inl ⟨d, z⟩
      · rw [if_neg d] at z
        exact nomatch z
  have atT : ∀ (U : Option HO), ∀ p ∈ cs, (if ∃ q ∈ cs, p.2 = q.2 then some (HO.tbl #[]) else if p.2 = a then U else none) = some (.tbl #[]) := fun U p hp => if_pos ⟨p, hp, rfl⟩
  have atA : ∀ (U : Option HO), (if ∃ q ∈ cs, a = q.2 then some (HO.tbl #[]) else if a = a then U else none) = U := fun U => by
    rw [if_neg (fun ⟨p, hp, e⟩ => noTab p hp e.symm), if_pos rfl]
  cases own : K.lookup a with
  | some o =>
    obtain rfl : o = { cls := .type "list", data := .seq vs.toArray } := Option.some.inj ((KX a o own).symm.trans ha)
    refine main (fun b => if ∃ p ∈ cs, b = p.2 then some (.tbl #[]) else if b = a then none else none) (atT none) (.inr ⟨_, _, _, own, rfl, rfl, rfl, by simp only [List.size_toArray]; omega, by simpa using rv⟩) (fun b u z => ?_) (fun b u z => ?_) fun z => (z (atA none)).elim
    · rcases pick none b u z with ⟨_, q⟩ | ⟨p, hp, rfl, rfl⟩
      · exact nomatch q
      · exact tE p hp
    · rcases pick none b u z with ⟨_, q⟩ | q
      · exact nomatch q
      · exact .inr q
  | none =>
    refine main (fun b => if ∃ p ∈ cs, b = p.2 then some (.tbl #[]) else if b = a then some (.frz { cls := .type "list", data := .seq vs.toArray } (.lst (ns.map V.int))) else none) (atT _) (.inl (.inr ⟨_, atA _⟩)) (fun b u z => ?_) (fun b u z => ?_) fun _ => own
    · rcases pick _ b u z with ⟨rfl, q⟩ | ⟨p, hp, rfl, rfl⟩
      · obtain rfl := Option.some.inj q
        exact ⟨ha, by simpa using hl, vs, _, rv, ha⟩
      · exact tE p hp
    · rcases pick _ b u z with ⟨e, q⟩ | q
      · exact .inl ⟨e, _, _, (Option.some.inj q).symm⟩
      · exact .inr q
theorem walkGT {l : PySem.W.OpenLaw} {n k : Nat} {q : Program} {loose : List Str} {XP : (Str → Option Value) → Heap → Prop} {YP : World → Heap → Prop} {d : DefRec} {K : Params → PySem.W.Frag} {x : Str}
    (hn : l.most = some n) (hn2 : n ≤ sizeLine) (hdf : d.params.defaults = []) (hr : Room k callerA) (hY : ∀ (w : World) (h : Heap), YP w h → (K w.params).In h)
    (F : ∀ (w : World) (mg : Str → Option Value) (fa : Addr) (h : Heap), (K w.params).In h → h.Ns mainGlobals mg → XP mg h → mg d.name = some (.ref fa) →
      (∀ (y : Str) (g : Addr), ((recsOf q).any fun e => e.name == y) = true → mg y = some (.ref g) → OwnTab (K w.params) g h) →
      ∃ (fd : FuncData) (cs : List (Addr × Addr)) (sp : Sp), (∀ p ∈ cs, h.get? p.2 = some tab0) ∧ (∀ p ∈ cs, (K w.params).lookup p.2 = none) ∧ (∀ p ∈ cs, PySem.W.CodeHd h p.1 p.2) ∧ (∀ (s : Shared) (u : Value), BindsTo s fd ⟨[u], []⟩ [(x, u)]) ∧
        (∀ (H : Hp) (a : Addr) (ns : List Int), ns.length ≤ n → (∀ p ∈ cs, H p.2 = some (.tbl #[])) → SqL (K w.params) H a (ns.map V.int) → sp [.ref a] H (fun v _ => v = .bl true) fun _ _ _ => False) ∧
        ∀ base : Heap, (K w.params).In base → base.Ns mainGlobals mg → (∀ p ∈ cs, TabB base mg p.1 p.2) → FnOkG l.prog w (K w.params) mg base CX0 k fa fd [x] sp) :
    PySem.W.WalkO q loose XP YP l.row.toRowW d [] (fun f vs => PySem.call f vs) := by
  refine Att.attach_callB hn hdf fun w s₀ s₁ mg mb fa o pm cd doc a vs ns G Y ho hd hcd hmg hobj hints hlen hbits hg => ?_
  have KX := hY w _ Y
  have own : ∀ (y : Str) (g : Addr), ((recsOf q).any fun e => e.name == y) = true → mg y = some (.ref g) → OwnTab (K w.params) g s₁.heap := fun y g hy hm c P o1 fd1 e dd vs1 sl k1 k2 k3 k4 k5 => by
    obtain ⟨r, mr, nr⟩ := List.any_eq_true.mp hy
    obtain rfl : r.name = y := beq_iff_eq.mp nr
    obtain ⟨a2, o2, fd2, c2, P2, h1, h2, h3, h4, h5, ⟨oc, vc, e1, _, e3, e4⟩, hP⟩ := G.T.tab r mr
    cases hm.symm.trans h1
    cases (KX _ _ k1).symm.trans h2
    cases k2.symm.trans h3
    cases k3.symm.trans h4
    cases (KX _ _ k4).symm.trans e1
    cases e3
    cases k5.symm.trans e4
    exact hP
  obtain ⟨fd, cs, sp, tE, tK, tC, hb, hsp, hF⟩ := F w mg fa _ KX G.T.g G.X hmg own
  exact lawCallGT KX G.T.g G.T.b G.T.builtins G.T.nolimit hg tE tK tC G.T.bmain hobj hints (Nat.le_trans hlen hn2) hr hF hb fun H hH hS => hsp H a ns hlen hH hS
end Ws
/-! ## Q03i -/
namespace Ws
open PySem PySem.Spec PyProof.Rows L2 RZ LamX Fo
local macro_rules | `(tactic| walk_at "nf") => `(tactic| dsimp only [tNext, tSeq, tDrop, tRet, tRetN, tIfS, tAsg, gName, gTup, gCons, gNil, tVar, tC, tOp, tUn, rI, rI0, rU, rEq, rNe, tTest, tChain, tAnd, tOr, tNot, tAndV, tOrV, tNotV, tIf, tCB, tCKw, tCons, tNil, tTup, tLst, tCa, tCallS, tB, rIxT, rIxL, rIxS, cxOf, Cx.nox, Cx.wish, Cx.blk, L2.start, tPar, tPar3, tNever, tYes, tBits, tRz, tBM, rAppend, tyV, tXf, suiteEnds, gSub, rSetL, tBreak, rMax, tDGet, sDPut, tSl, tNoPart, tPart, tDisp, tPairs, tDGet2, tDNewK, tAugS, ipI, rGetL, tDIn, tDNotIn, tBM0, rPop])
local macro_rules | `(tactic| walk_at "sx") => `(tactic| simp only [wipe, List.cons.injEq, and_assoc, exists_and_left, and_true, List.map_cons, List.map_nil, List.length_cons, List.length_nil, List.cons_append, List.nil_append, List.append_nil, Nat.reduceAdd, Nat.reduceSub, List.replicate, List.getElem?_cons_zero, List.getElem?_cons_succ, List.set_cons_zero, List.set_cons_succ, Option.some.injEq, V.int.injEq, V.bl.injEq, V.ref.injEq, V.str.injEq, exists_eq_left', exists_eq_left, true_and, Bool.true_eq_false, Bool.false_eq_true, if_true, if_false])

/-! ### what a call told or raised -/
structure Ex2 (K : PySem.W.Frag) (mg : Str → Option Value) (SE BF TG : Addr) : Prop where
  say : mg "SayError" = some (.ref SE)
  ex : ∀ i : Nat, i < 2 → ExcC K ([BF, TG].getD i 0)
  sub : ∀ i : Nat, i < 2 → PySem.W.kitOne K (.ref ([BF, TG].getD i 0)) (.ref SE) = some true
  exm : ∀ i j : Nat, j ≤ i → i < 2 → PySem.W.exmOne K (.ref ([BF, TG].getD i 0)) (.ref ([BF, TG].getD j 0)) = some (decide (i = j))
def CaughtE (BF TG : Addr) (Q : VK) : XK := fun cls d H =>
  ∃ (i : Nat) (v : V) (dd : Addr), i < 2 ∧ cls = .ref ([BF, TG].getD i 0) ∧ d = some dd ∧ H dd = some (.xd [(["path", "most"].getD i "", v)]) ∧ ∀ t, H t = none → Q (.ref t) (upd H t (.tup [.str (["formula", "great"].getD i ""), v, .bl true]))
def TTc (BF TG : Addr) : (XK → Hp → VK → Prop) → Hp → VK → Prop := fun tl H Q => tl (CaughtE BF TG Q) H fun v H1 => ∀ t, H1 t = none → Q (.ref t) (upd H1 t (.tup [.str "told", v]))
def tTold (f c' : Addr) (q : Str) (n : Nat) (tl : XK → Hp → VK → Prop) (W : WX) : TS := fun D σ H => ∃ Ech : XK, (∀ cls d σ' H', Ech cls d H' → σ'.length = n → W cls d σ' H') ∧ σ[0]? = some (some (.ref f)) ∧ H c' = some (CodeO c' q) ∧ tl Ech H (fun v H1 => ∀ t, H1 t = none → D.nx (σ.set 1 (some (.ref t))) (upd H1 t (.tup [.str "told", v])))
theorem takes_len {X : Cx} {W : WX} (t : Takes X W) : Takes X (fun cls d σ H => σ.length = X.N.length → W cls d σ H) := fun u s' ⟨a, B, sI, pins, σ, H, cls, d, e, I, nb, up, sky, na, os, ag, w⟩ =>
  t u s' ⟨a, B, sI, pins, σ, H, cls, d, e, I, nb, up, sky, na, os, ag, w I.len⟩
abbrev s__law_caught : Stmt := top 53
abbrev nm__law_caught : List Str := ["call", "told", "e"]
abbrev pr__law_caught : List Str := ["call"]
theorem sc__law_caught : FnScope nm__law_caught pr__law_caught (defScope s__law_caught) := ⟨rfl, rfl, rfl, by decide +kernel, rfl, by decide +kernel, by decide +kernel⟩
section
variable {X : Cx} {SE BF TG : Addr}
theorem caught_gives {P : Program} {w : World} {q : Str} {g : Addr} {cdg : Value} (B : Bl X.mg) (T : ErS X.prog X.w X.K X.mg X.base BF TG) (S : Ex2 X.K X.mg SE BF TG) :
    GivesTo X nm__law_caught "_law_caught" (defScope s__law_caught) g cdg (defBody s__law_caught) "call" q (TTc BF TG) := by
  intro f c' s H Q tl act hc h
  have told : ∀ (W : WX) (pn : List (Addr × Obj)) (xe : Value → Shared → Prop) (p1 p2 p3 p4 p5 p6 : Pos) (j k : Nat), Takes ((cxOf C8.CX0 X.prog X.w X.K X.mg X.base nm__law_caught "_law_caught" (defScope s__law_caught) g cdg X.A X.stack s H C8.E0).nox.tr pn xe) W →
      PS ((cxOf C8.CX0 X.prog X.w X.K X.mg X.base nm__law_caught "_law_caught" (defScope s__law_caught) g cdg X.A X.stack s H C8.E0).nox.tr pn xe) (.Assign [.Name "told" p3] (.Tuple [.Constant (.str "told") j p4, .Call (.Name "call" p1) [] [] p2] k p5) p6) (tTold f c' q 3 tl W) := by
    intro W pn xe p1 p2 p3 p4 p5 p6 j k tk
    refine ⟨fun pins s' σ H' D I h' => ?_⟩
    obtain ⟨Ech, hW, h1, h2, h3⟩ := h'
    have hp := act (fun cls d σ H => σ.length = 3 → W cls d σ H) pn xe Ech p1 p2 (takes_len tk) hW
    exact (ps_set (i := 1) sc__law_caught.nd rfl (Or.inl rfl) (pe_tup (pa_cons (pe_str) (pa_cons hp pa_nil)))).run pins s' σ H' D I (by
      try walk_at "nf"
      try walk_at "sx"
      simp only [show (2 ≤ sizeLine) = True from eq_true (by decide), true_and]
      exact ⟨h1, h2, h3⟩)
  refine ⟨_, (pss_cons (ps_try_manyA (i := 2) (tb := _) (Wout := _) rfl rfl sc__law_caught.nd rfl rfl L2.takes0 (fun W pn xe tk _ => (pss_one (told W pn xe _ _ _ _ _ _ _ _ tk))) (.cons ⟨rfl, by decide, Or.inl T.BadFormula.mgC⟩ (fun a oe cls d pn hz hf => (pss_one (ps_set (i := 1) sc__law_caught.nd rfl (Or.inl rfl) (pe_tup (pa_cons pe_str (pa_cons (pe_xf T.BadFormula.xf T.BadFormula.no hz hf (pv 2)) (pa_cons (pe_callB (call_isX hz hf) (by rfl) B.isinstance boot_isinstance (pa_cons (pv 2) (pa_cons (pe_glob (v := .ref SE) rfl S.say rfl) pa_nil))) pa_nil))))))) (.cons ⟨rfl, by decide, Or.inl T.TooGreat.mgC⟩ (fun a oe cls d pn hz hf => (pss_one (ps_set (i := 1) sc__law_caught.nd rfl (Or.inl rfl) (pe_tup (pa_cons pe_str (pa_cons (pe_xf T.TooGreat.xf T.TooGreat.no hz hf (pv 2)) (pa_cons (pe_callB (call_isX hz hf) (by rfl) B.isinstance boot_isinstance (pa_cons (pv 2) (pa_cons (pe_glob (v := .ref SE) rfl S.say rfl) pa_nil))) pa_nil))))))) .nil))) (pss_one (ps_ret (pv 1)))), ?_⟩
  refine ⟨CaughtE BF TG Q, fun cls d σ' H' hE hl => ?_, rfl, hc, ?_⟩
  rotate_left
  · unfold TTc at h
    try walk_at "nf"
    try walk_at "sx"
    exact h
  match σ', hl with
  | [x, y, z], _ =>
  obtain ⟨i, v, dd, hi, rfl, rfl, hd, hq⟩ := hE
  · have : i = 0 ∨ i = 1 := by omega
    rcases this with rfl | rfl
    · refine ⟨true, S.exm 0 0 (by decide) (by decide), fun _ a ha => ?_, fun z => by cases z⟩
      try walk_at "nf"
      try walk_at "sx"
      exact ⟨rfl, _, hd, v, rfl, ⟨_, .ref SE, true, BF, dd, _, rfl, rfl, S.ex 0 (by decide), rfl, hd, fun u hu => hu, S.sub 0 (by decide), by decide, hq⟩⟩
    · refine ⟨false, S.exm 1 0 (by decide) (by decide), (fun z => by cases z), fun _ => ⟨true, S.exm 1 1 (by decide) (by decide), fun _ a ha => ?_, fun z => by cases z⟩⟩
      try walk_at "nf"
      try walk_at "sx"
      exact ⟨rfl, _, hd, v, rfl, ⟨_, .ref SE, true, TG, dd, _, rfl, rfl, S.ex 1 (by decide), rfl, hd, fun u hu => hu, S.sub 1 (by decide), by decide, hq⟩⟩
end
section
variable {X : Cx} {SE BF TG : Addr}
theorem pe_caught {TB : List (Addr × Str)} {c P : Addr} {k : Nat} {params : Arguments} {body : Expr} {scope : Scope} {t : XK → TE} {p lpos pos : Pos} (D : Dt X.K X.mg "_law_caught" s__law_caught pr__law_caught) (B : Bl X.mg) (T : ErS X.prog X.w X.K X.mg X.base BF TG) (S : Ex2 X.K X.mg SE BF TG)
    (hTB : TabB X.base X.mg c P) (hcode : X.env.code = .ref c) {q : Str} (hq : X.env.qual = q) (hmT : (P, q ++ "<lambda>") ∈ TB) (hu : ∀ p ∈ TB, p.1 = P → p.2 = q ++ "<lambda>") (hr : Room (k + 2) X.A) (L : LamS X.env.scope scope)
    (hbody : ∀ (A : Around) (outer : List Env) (s : Shared) (H : Hp) (E : XK) (f c' : Addr), Room k (A.deeper (lamEnv X scope s.heap.objs.size f c')) → PE (lamCx X A outer s H E scope f c') body (t E))
    (hdef : defaultsOf params X.env = ([], []) := by rfl)
    (hbind : ∀ (q : Str) (cl : List (Str × Addr)) (pm cv ctv : Value), bindArgs (PySem.W.kla_fn "<lambda>" q params body scope cl pm cv ctv) ⟨[], []⟩ = pure [] := by intros; rfl) (hg : Gl X "_law_caught" := by rfl) :
    PE X (.Call (.Name "_law_caught" p) [.Lambda params body scope lpos] [] pos) (tLam TB (TTc BF TG) t) := by
  subst hq
  obtain ⟨g, fd, F, m, b⟩ := D.ex
  have kp := F.kp
  obtain ⟨oc, od, kV, doc, pm, an, cdv, ct, osl, rfl, lk, hcd⟩ := F.ex
  exact pe_lamcall hg m kp lk hcd b sc__law_caught rfl (Or.inl rfl) (caught_gives (P := X.prog) (w := X.w) B T S) hTB hcode hmT hu hr L hdef hbind hbody
end
end Ws
/-! ## Q03i2 -/
namespace Ws
open PySem PySem.Spec PyProof.Rows L2 RZ LamX Fo
local macro_rules | `(tactic| walk_at "nf") => `(tactic| dsimp only [tNext, tSeq, tDrop, tRet, tRetN, tIfS, tAsg, gName, gTup, gCons, gNil, tVar, tC, tOp, tUn, rI, rI0, rU, rEq, rNe, tTest, tChain, tAnd, tOr, tNot, tAndV, tOrV, tNotV, tIf, tCB, tCKw, tCons, tNil, tTup, tLst, tCa, tCallS, tB, rIxT, rIxL, rIxS, cxOf, Cx.nox, Cx.wish, Cx.blk, L2.start, tPar, tPar3, tNever, tYes, tBits, tRz, tBM, rAppend, tyV, tXf, suiteEnds, gSub, rSetL, tBreak, rMax, tDGet, sDPut, tSl, tNoPart, tPart, tDisp, tPairs, tDGet2, tDNewK, tAugS, ipI, rGetL, tDIn, tDNotIn, tBM0, rPop])
local macro_rules | `(tactic| walk_at "sx") => `(tactic| simp only [wipe, List.cons.injEq, and_assoc, exists_and_left, and_true, List.map_cons, List.map_nil, List.length_cons, List.length_nil, List.cons_append, List.nil_append, List.append_nil, Nat.reduceAdd, Nat.reduceSub, List.replicate, List.getElem?_cons_zero, List.getElem?_cons_succ, List.set_cons_zero, List.set_cons_succ, Option.some.injEq, V.int.injEq, V.bl.injEq, V.ref.injEq, V.str.injEq, exists_eq_left', exists_eq_left, true_and, Bool.true_eq_false, Bool.false_eq_true, if_true, if_false])

/-! ### what inward, negated, is_inward tell through `_law_caught` -/
def errD (s : Str) (d : PyData) : PyData := .tuple [.str s, d, .bool true]
def toldD (d : PyData) : PyData := .tuple [.str "told", d]
def dueI (g : Fm) : PyData := if fitF g = true then (match needE g with | .ok => toldD (fmD g) | .great n => errD "great" (.int (n : Nat)) | .bad p => errD "formula" (intsD p)) else errD "great" (.int (10 ^ 9))
section
variable {K : PySem.W.Frag} {H : Hp} {BF TG : Addr} {Q : VK}
theorem out_c (i : Nat) (hi : i < 2) {d : PyData} (q : ∀ H' v, Same H H' → Dp K H' v (errD (["formula", "great"].getD i "") d) → Q v H') : OutF K ([BF, TG].getD i 0) (["path", "most"].getD i "") d H (CaughtE BF TG Q) := fun H' dd u e hu hd =>
  ⟨i, u, dd, hi, rfl, rfl, hd, fun t ht => q _ _ (e.then_new ht) (.tup (.of upd_same) (.cons (.str _) (.cons (hu.to (Same.new ht)) (.cons (.bl _) .nil))))⟩
theorem out_f {p : List Int} (q : ∀ H' v, Same H H' → Dp K H' v (errD "formula" (intsD p)) → Q v H') : OutF K BF "path" (intsD p) H (CaughtE BF TG Q) := out_c 0 (by decide) q
theorem out_g {n : Int} (q : ∀ H' v, Same H H' → Dp K H' v (errD "great" (.int n)) → Q v H') : OutF K TG "most" (.int n) H (CaughtE BF TG Q) := out_c 1 (by decide) q
theorem lam_inw {v : V} {f : Fm} {c : Bool} (hd : Dp K H v (fmD f)) (o : okF f = true) (s : sz f ≤ 2000) (d : dp f ≤ 20) (wd : fitF (inwF f c) = true → Wid (inwF f c)) (q : ∀ H' u, Same H H' → Dp K H' u (dueI (inwF f c)) → Q u H') :
    TTc BF TG (fun E H' Q' => spInw 20 K BF TG c [v] H' Q' E) H Q := by
  have no : needE f = .ok := need_ok o s d
  refine ⟨v, f, rfl, hd, ⟨by omega, fun x hx => ?_⟩, ⟨fun n e => (by rw [no] at e; cases e), fun n e => (by rw [no] at e; cases e)⟩, fun _ => ⟨o, d, fun ft => ?_, fun ft => ?_⟩⟩
  · have h1 := wk_sub_sz f [] 1 x hx
    have h2 := ins_len x.2.2
    omega
  · refine out_g fun H' u e hu => q H' u e ?_
    unfold dueI
    rw [if_neg (by rw [ft]; simp)]
    exact hu
  · have ed : dueI (inwF f c) = (match needE (inwF f c) with | .ok => toldD (fmD (inwF f c)) | .great n => errD "great" (.int (n : Nat)) | .bad p => errD "formula" (intsD p)) := by
      unfold dueI
      rw [if_pos ft]
    refine ⟨wd ft, ⟨fun n e => out_g fun H' u e1 hu => q H' u e1 ?_, fun p e => out_f fun H' u e1 hu => q H' u e1 ?_⟩, fun e H1 u e1 hu t ht => q _ _ (e1.then_new ht) ?_⟩
    · rw [ed, e]
      exact hu
    · rw [ed, e]
      exact hu
    · rw [ed, e]
      exact .tup (.of upd_same) (.cons (.str _) (.cons (hu.to (Same.new ht)) .nil))
theorem lam_bad {v : V} {h : Fm} {p : List Int} {c : Bool} (hd : Dp K H v (fmD h)) (wd : Wid h) (nb : needE h = .bad p) (q : ∀ H' u, Same H H' → Dp K H' u (errD "formula" (intsD p)) → Q u H') :
    TTc BF TG (fun E H' Q' => spInw 20 K BF TG c [v] H' Q' E) H Q :=
  ⟨v, h, rfl, hd, wd, ⟨fun n e => (by rw [nb] at e; cases e), fun p' e => (by rw [nb] at e; cases e; exact out_f q)⟩, fun e => (by rw [nb] at e; cases e)⟩
theorem lam_badI {v : V} {h : Fm} {p : List Int} (hd : Dp K H v (fmD h)) (wd : Wid h) (nb : needE h = .bad p) (q : ∀ H' u, Same H H' → Dp K H' u (errD "formula" (intsD p)) → Q u H') :
    TTc BF TG (fun E H' Q' => spIsInw K BF TG [v] H' Q' E) H Q :=
  ⟨v, h, rfl, hd, wd, ⟨fun n e => (by rw [nb] at e; cases e), fun p' e => (by rw [nb] at e; cases e; exact out_f q)⟩, fun e => (by rw [nb] at e; cases e)⟩
end
/-! ### the formula of many equations -/
def eq3 : Fm := .eq 3 [(1, 1)]
def manyF (n : Nat) : Fm := .lst true (List.replicate n eq3)
theorem eq3_ok : okF eq3 = true := by decide +kernel
theorem szs_rep (g : Fm) : ∀ n, szs (List.replicate n g) = n * sz g
  | 0 => by simp [szs]
  | n + 1 => by rw [List.replicate_succ]; simp only [szs, szs_rep g n]; rw [Nat.succ_mul]; omega
theorem dps_rep (g : Fm) : ∀ n, dps (List.replicate n g) ≤ dp g
  | 0 => by simp [dps]
  | n + 1 => by rw [List.replicate_succ]; simp only [dps]; have := dps_rep g n; omega
theorem many_ok (n : Nat) : okF (manyF n) = true := by
  show okFs (List.replicate n eq3) = true
  exact okFs_all.mpr fun g hg => by rw [List.eq_of_mem_replicate hg]; exact eq3_ok
theorem many_sz (n : Nat) : sz (manyF n) = n + 1 := by
  have := szs_rep eq3 n
  have e : sz eq3 = 1 := rfl
  rw [e] at this
  simp only [manyF, sz, this]
  omega
theorem many_dp (n : Nat) : dp (manyF n) ≤ 2 := by
  have := dps_rep eq3 n
  have e : dp eq3 = 1 := rfl
  rw [e] at this
  simp only [manyF, dp]
  omega
theorem many_inw (n : Nat) : inwF (manyF n) true = .lst false (List.replicate n (inwF eq3 true)) := by
  show Fm.lst false (inwFs (List.replicate n eq3) true) = _
  rw [inwFs_map, List.map_replicate]
theorem eq3_inw_sz : sz (inwF eq3 true) = 3 := by decide +kernel
theorem eq3_inw_dp : dp (inwF eq3 true) = 2 := by decide +kernel
theorem eq3_inw_fit : okF (inwF eq3 true) = true := by decide +kernel
theorem many_inw_ok (n : Nat) : okF (inwF (manyF n) true) = true := by
  rw [many_inw]
  exact okFs_all.mpr fun g hg => by rw [List.eq_of_mem_replicate hg]; exact eq3_inw_fit
theorem many_inw_sz (n : Nat) : sz (inwF (manyF n) true) = 3 * n + 1 := by
  rw [many_inw]
  simp only [sz, szs_rep, eq3_inw_sz]
  omega
theorem many_inw_dp (n : Nat) : dp (inwF (manyF n) true) ≤ 3 := by
  rw [many_inw]
  have := dps_rep (inwF eq3 true) n
  rw [eq3_inw_dp] at this
  simp only [dp]
  omega
theorem many_wid (n : Nat) (h : n ≤ 700) : Wid (inwF (manyF n) true) := by
  refine ⟨by rw [many_inw_sz]; omega, fun x hx => ?_⟩
  rw [many_inw] at hx
  rcases mem_wk.mp hx with rfl | ⟨y, hy, hx⟩
  · show (en 0 _).length ≤ 2000
    rw [en_len, List.length_replicate]
    omega
  · have e := ins_lst hy
    have e := List.eq_of_mem_replicate e
    have h1 := wk_sub_sz _ _ _ _ hx
    have h2 := ins_len x.2.2
    rw [e, eq3_inw_sz] at h1
    omega
theorem many_due {n : Nat} (h : n ≤ 700) : dueI (inwF (manyF n) true) = if n < 667 then toldD (fmD (inwF (manyF n) true)) else errD "great" (.int 2000) := by
  unfold dueI
  rw [if_pos (okF_fit _ (many_inw_ok n))]
  have d := many_inw_dp n
  by_cases c : n < 667
  · rw [if_pos c, need_ok (many_inw_ok n) (by rw [many_inw_sz]; omega) (by omega)]
  · rw [if_neg c, need_many (many_inw_ok n) (by rw [many_inw_sz]; omega) (by omega)]
    rfl
end Ws
/-! ## Q03i3 -/
namespace Ws
open PySem PySem.Spec PyProof.Rows L2 RZ LamX Fo
local macro_rules | `(tactic| walk_at "nf") => `(tactic| dsimp only [tNext, tSeq, tDrop, tRet, tRetN, tIfS, tAsg, gName, gTup, gCons, gNil, tVar, tC, tOp, tUn, rI, rI0, rU, rEq, rNe, tTest, tChain, tAnd, tOr, tNot, tAndV, tOrV, tNotV, tIf, tCB, tCKw, tCons, tNil, tTup, tLst, tCa, tCallS, tB, rIxT, rIxL, rIxS, cxOf, Cx.nox, Cx.wish, Cx.blk, L2.start, tPar, tPar3, tNever, tYes, tBits, tRz, tBM, rAppend, tyV, tXf, suiteEnds, gSub, rSetL, tBreak, rMax, tDGet, sDPut, tSl, tNoPart, tPart, tDisp, tPairs, tDGet2, tDNewK, tAugS, ipI, rGetL, tDIn, tDNotIn, tBM0, rPop])
local macro_rules | `(tactic| walk_at "sx") => `(tactic| simp only [wipe, List.cons.injEq, and_assoc, exists_and_left, and_true, List.map_cons, List.map_nil, List.length_cons, List.length_nil, List.cons_append, List.nil_append, List.append_nil, Nat.reduceAdd, Nat.reduceSub, List.replicate, List.getElem?_cons_zero, List.getElem?_cons_succ, List.set_cons_zero, List.set_cons_succ, Option.some.injEq, V.int.injEq, V.bl.injEq, V.ref.injEq, V.str.injEq, exists_eq_left', exists_eq_left, true_and, Bool.true_eq_false, Bool.false_eq_true, if_true, if_false])

theorem nl_due (g : Fm) (h : lwF g = true) : noList (dueI g) = true := by
  unfold dueI
  split
  · split
    · show (noList (fmD g) && true) = true
      rw [noList_lw g h]
      rfl
    · rfl
    · rename_i p _
      show (noList (intsD p) && (true && true)) = true
      rw [noList_ints]
      rfl
  · rfl
section
variable {K : PySem.W.Frag} {S : List Addr} {T : List (Addr × Str)} {ta tb te ti : TE} {tas : TA} {σ : L2.St} {H : Hp} {ds : List PyData} {d : PyData} {BF TG : Addr} {u t1 : TS} {D : Ends} {Q : VK}
theorem sv_val {i : Nat} (l : Lsts S H) (t : Tabs T H) (hd : DE K S T te σ H d) (q : ∀ H' v, Ev T H H' → Dp K (hid S H') v d → u D (σ.set i (some v)) H') : tSeq (tAsg te (gName i)) u D σ H := hd H (Ev.refl H) l t _ fun H2 v e hv => q H2 v e hv
theorem sq_like {N M : Nat} (l : Lsts S H) (t : Tabs T H) (x : DE K S T ta σ H d) (y : DE K S T tb σ H d) (sm : Sm N M d) (hN : N ≤ 200000) (hD : M ≤ 60) (q : ∀ H', Ev T H H' → u D σ H') :
    tSeq (tIfS (tNot (tB (tCa (spLike K) E0 (tCons ta (tCons tb tNil))))) t1 tNext) u D σ H :=
  x H (Ev.refl _) l t _ fun H2 v e2 hv => y H2 e2 (e2.lsts l) (e2.2 t) _ fun H3 w e3 hw => ⟨v, w, d, N, M, rfl, (hv.ev e3).out, hw.out, sm, hN, hD, _, rfl, iteF (q H3 (e2.trans e3))⟩
theorem like_and {t2 : TE} {N M : Nat} (l : Lsts S H) (t : Tabs T H) (x : DE K S T ta σ H d) (y : DE K S T tb σ H d) (sm : Sm N M d) (hN : N ≤ 200000) (hD : M ≤ 60) (q : ∀ H', Ev T H H' → t2 σ H' Q) :
    tAndV (tCa (spLike K) E0 (tCons ta (tCons tb tNil))) t2 σ H Q :=
  x H (Ev.refl _) l t _ fun H2 v e2 hv => y H2 e2 (e2.lsts l) (e2.2 t) _ fun H3 w e3 hw => ⟨v, w, d, N, M, rfl, (hv.ev e3).out, hw.out, sm, hN, hD, _, rfl, iteT (q H3 (e2.trans e3))⟩
theorem like_ret {N M : Nat} (l : Lsts S H) (t : Tabs T H) (x : DE K S T ta σ H d) (y : DE K S T tb σ H d) (sm : Sm N M d) (hN : N ≤ 200000) (hD : M ≤ 60) (q : ∀ H', Ev T H H' → D.rt (.bl true) H') :
    tRet (tCa (spLike K) E0 (tCons ta (tCons tb tNil))) D σ H :=
  x H (Ev.refl _) l t _ fun H2 v e2 hv => y H2 e2 (e2.lsts l) (e2.2 t) _ fun H3 w e3 hw => ⟨v, w, d, N, M, rfl, (hv.ev e3).out, hw.out, sm, hN, hD, q H3 (e2.trans e3)⟩
/-- what a lambda tells through `_law_caught` -/
theorem DE.lam {t : XK → TE} (nl : noList d = true) (h : ∀ H1, Ev T H H1 → Lsts S H1 → ∀ Q : VK, (∀ H' v, Ev T H1 H' → Dp K H' v d → Q v H') → TTc BF TG (fun E H' Q' => t E σ H' Q') H1 Q) :
    DE K S T (tLam T (TTc BF TG) t) σ H d := fun H1 e l tt Q q =>
  ⟨tt, fun H2 e2 t2 => by
    have e12 : Ev T H1 H2 := ⟨e2, fun _ => t2⟩
    exact h H2 (e.trans e12) (e12.lsts l) Q fun H' v e3 hv => q H' v (e12.trans e3) (Dp.hid ((e12.trans e3).lsts l) d v nl hv)⟩
theorem DE.rep {n : Nat} (a : DE K S T ta σ H (.tuple [d])) (b : DE K S T ti σ H (.int (n : Int))) (hn : n ≤ 1000) : DE K S T (tOp (rRepZ K) ta ti) σ H (.tuple (List.replicate n d)) := fun H1 e l t Q q =>
  a H1 e l t _ fun H2 v e2 hv => b H2 (e.trans e2) (e2.lsts l) (e2.2 t) _ fun H3 w e3 hw => by
    obtain rfl := hw.int_inv
    obtain ⟨p, xs, rfl, hs, ha⟩ := (hv.ev e3).tup_inv
    have hx := ha.length
    refine ⟨p, n, xs, rfl, rfl, seqTE hid_out hs, hn, by simp at hx; omega, fun H4 p4 e4 h4 => q _ _ ((e2.trans e3).trans (Ev.of e4)) ?_⟩
    cases ha with
    | @cons x _ _ _ h1 h2 =>
      cases h2
      rw [show (List.replicate n [x]).flatten = List.replicate n x from by
        clear h4 hs hn hx hw b q
        induction n with
        | zero => rfl
        | succ n ih => rw [List.replicate_succ, List.flatten_cons, ih, List.replicate_succ]; rfl] at h4
      refine .tup (seqT_hid ((Ev.of (T := T) e4).lsts (e3.lsts (e2.lsts l))) h4) ?_
      have h5 : Dp K (hid S H4) x d := h1.ev (Ev.of (T := T) e4)
      clear h4 hn hw b q
      induction n with
      | zero => exact .nil
      | succ n ih => rw [List.replicate_succ, List.replicate_succ]; exact .cons h5 ih
end
abbrev s__law_many_parts : Stmt := top 57
abbrev nm__law_many_parts : List Str := ["state", "size", "due", "formula"]
abbrev pr__law_many_parts : List Str := ["state"]
theorem sc__law_many_parts : FnScope nm__law_many_parts pr__law_many_parts (defScope s__law_many_parts) := ⟨rfl, rfl, rfl, by decide +kernel, rfl, by decide +kernel, by decide +kernel⟩
section
variable {P : Program} {w : World} {K : PySem.W.Frag} {mg : Str → Option Value} {base : Heap} {SE BF TG : Addr} {c0 P0 : Addr} {TS : List (Addr × Str)}
def spMany (T : List (Addr × Str)) : Sp := fun vs H Q _ => ∃ (a l c : Addr) (n : Nat), vs = [.ref a] ∧ LSt H a l c n ∧ n ≤ 10000 ∧ Tabs T H ∧ ∀ H', Q (.bl true) H'
theorem ok_many (B : Bl mg) (T : ErS P w K mg base BF TG) (SX : Ex2 K mg SE BF TG) (DC : Dt K mg "_law_caught" s__law_caught pr__law_caught) (hTB : TabB base mg c0 P0) (hmT : (P0, ("_law_many_parts" : Str) ++ (".<locals>." : Str) ++ ("<lambda>" : Str)) ∈ TS) (hu : ∀ p ∈ TS, p.1 = P0 → p.2 = ("_law_many_parts" : Str) ++ (".<locals>." : Str) ++ ("<lambda>" : Str))
    (F1 : Df P w K mg base CX0 2 "_law_draw" pr__law_draw spDrawW) (F2 : Df P w K mg base CX0 24 "_law_inward" pr__law_inward (spInwL 22 K)) (F3 : Df P w K mg base (L2.CX P w) 28 "inward" pr_inward (spInw 20 K BF TG false)) (F4 : Df P w K mg base (L2.CX P w) 28 "negated" pr_negated (spInw 20 K BF TG true))
    (FL : DfG P w K mg base CX0 1 "_law_like" pr__law_like (spLike K)) (D : DtC K mg "_law_many_parts" s__law_many_parts pr__law_many_parts c0) :
    DfG P w K mg base CX0 31 "_law_many_parts" pr__law_many_parts (spMany TS) := by
  refine D.okG sc__law_many_parts (fun vs H Q E h => ?_) (fun f A outer s H vs Q E hG hr h => ?_)
  · obtain ⟨a, l, c, n, rfl, _⟩ := h
    rfl
  · obtain ⟨a, l, c, n, rfl, hs, hn, hT, k⟩ := h
    refine ⟨_, (pss_cons (ps_if (pt_cmpR op_gt (pe_f F1 (hr.mono (by decide)) pass0 (pa_cons (pv 0) (pa_cons pe_int pa_nil))) pe_int (nomark _)) (pss_one (ps_ret pe_bl)) pss_nil) (pss_cons (ps_set (i := 1) sc__law_many_parts.nd rfl (Or.inl rfl) (pe_op op_add pe_int (pe_f F1 (hr.mono (by decide)) pass0 (pa_cons (pv 0) (pa_cons pe_int pa_nil))))) (pss_cons (ps_set (i := 3) sc__law_many_parts.nd rfl (Or.inr rfl) (pe_tup (pa_cons pe_str (pa_cons (pe_op (show OpR _ _ (rRepZ K) from op_repZ) (pe_tup (pa_cons (pe_tup (pa_cons pe_str (pa_cons (pe_tup (pa_cons pe_int (pa_cons (pe_tup (pa_cons (pe_tup (pa_cons pe_int (pa_cons pe_int pa_nil))) pa_nil)) pa_nil))) pa_nil))) pa_nil)) (pv 1)) pa_nil)))) (pss_cons (ps_set (i := 2) sc__law_many_parts.nd rfl (Or.inl rfl) (pe_ifExp (pt_cmpR op_lt (pv 1) pe_int (nomark _)) (pe_tup (pa_cons pe_str (pa_cons (pe_f F2 (hr.mono (by decide)) pass0 (pa_cons (pv 3) (pa_cons pe_bl pa_nil))) pa_nil))) (pe_tup (pa_cons pe_str (pa_cons pe_int (pa_cons pe_bl pa_nil)))))) (pss_cons (ps_if (pt_not (pt_val (pe_fG FL hG (hr.mono (by decide)) pass0 (pa_cons (pe_caught (k := 28) (q := ("_law_many_parts" : Str) ++ (".<locals>." : Str)) (TB := TS) (c := c0) (P := P0) DC B T SX hTB (by rfl) (by rfl) hmT hu (hr.mono (by decide)) (show LamS (defScope s__law_many_parts) _ from lamS_by (by decide +kernel)) (fun A2 outer2 s2 H2 E2 f2 c2 hr2 => (pe_f (E := E2) F4 (hr2.mono (by decide)) (passes_call (takes_of rfl rfl rfl rfl) fun _ _ _ _ h => h) (pa_cons (pv 3) pa_nil)))) (pa_cons (pv 2) pa_nil))))) (pss_one (ps_ret pe_bl)) pss_nil) (pss_one (ps_ret (pe_fG FL hG (hr.mono (by decide)) pass0 (pa_cons (pe_caught (k := 28) (q := ("_law_many_parts" : Str) ++ (".<locals>." : Str)) (TB := TS) (c := c0) (P := P0) DC B T SX hTB (by rfl) (by rfl) hmT hu (hr.mono (by decide)) (show LamS (defScope s__law_many_parts) _ from lamS_by (by decide +kernel)) (fun A2 outer2 s2 H2 E2 f2 c2 hr2 => (pe_f (E := E2) F3 (hr2.mono (by decide)) (passes_call (takes_of rfl rfl rfl rfl) fun _ _ _ _ h => h) (pa_cons (pe_tup (pa_cons pe_str (pa_cons (pv 3) pa_nil))) pa_nil)))) (pa_cons (pv 2) pa_nil)))))))))), ?_⟩
    dsimp only [cxOf, Cx.nox, L2.start]
    refine sq_if0 ⟨_, rfl, a, l, c, n, 4, rfl, hs, by omega, by decide, by decide, fun H1 r e1 st1 r1 r2 => ⟨_, _, rfl, rfl, _, rfl, ?_⟩⟩
    by_cases c1 : 0 < r
    · rw [decide_eq_true c1]
      exact iteT (k _)
    · rw [decide_eq_false c1]
      have T1 := Tabs.sbt hT hs e1
      refine iteF (sq_go ⟨_, rfl, a, l, c, n + 1, 4, rfl, st1, by omega, by decide, by decide, fun H2 x e2 st2 x1 x2 => ⟨_, _, rfl, rfl, ?_⟩⟩)
      have T2 := Tabs.sbt T1 st1 e2
      obtain ⟨m, rfl⟩ : ∃ m : Nat, x = m := ⟨x.toNat, by omega⟩
      have hm : m < 4 := by omega
      have en : (665 : Int) + (m : Nat) = ((665 + m : Nat) : Int) := by omega
      dsimp only
      rw [en]
      generalize hN : 665 + m = N
      have hN2 : N ≤ 668 := by omega
      clear hN en x1 x2
      have ef : fmD (manyF N) = .tuple [.str "and", .tuple (List.replicate N (fmD eq3))] := by
        show PyData.tuple [.str (lw true), .tuple (fmDs (List.replicate N eq3))] = _
        rw [fmDs_map, List.map_replicate]
        rfl
      refine sv_val (K := K) (S := []) (T := TS) (d := fmD (manyF N)) lsts_nil T2 (DE.eq (DE.tup (DEs.cons DE.str (DEs.one (DE.rep (d := fmD eq3) (DE.tup (DEs.one (DE.tup (DEs.cons DE.str (DEs.one (DE.tup (DEs.cons DE.int (DEs.one (DE.tup (DEs.one (DE.tup (DEs.cons DE.int (DEs.one DE.int))))))))))))) (DE.var rfl (.int _)) (by omega))))) ef.symm) fun H3 u e3 hu => ?_
      rw [hid_nil] at hu
      have T3 := e3.2 T2
      have ng := inw_lw (manyF N) true (many_ok N)
      have sm : Sm 130000 10 (dueI (inwF (manyF N) true)) := by
        rw [many_due (by omega)]
        have dq := many_inw_dp N
        have zq := many_inw_sz N
        split
        · exact (Sm.two (sm_s (D := 9)) ((sm_fm _ ng).mono (Nat.le_refl _) (by omega))).mono (by omega) (by omega)
        · exact (Sm.three (sm_s (D := 9)) (sm_i (N := 8) (D := 9) (i := 2000) (by decide)) (Sm.bl' (N := 0))).mono (by omega) (by omega)
      -- what is due
      have due : DE K [] TS (tIf (tTest (tOp (rI0 fun i j => V.bl (decide (i < j))) (tVar 1) (tC (V.int 667)))) (tTup (tCons (tC (V.str "told")) (tCons (tCa (spInwL 22 K) E0 (tCons (tVar 3) (tCons (tC (V.bl true)) tNil))) tNil))) (tTup (tCons (tC (V.str "great")) (tCons (tC (V.int 2000)) (tCons (tC (V.bl true)) tNil)))))
          [some (.ref a), some (.int N), none, some u] H3 (dueI (inwF (manyF N) true)) := fun H4 e4 _ T4 Q4 q => ⟨_, rfl, _, _, rfl, rfl, _, rfl, by
        rw [many_due (by omega)] at q
        by_cases c : N < 667
        · rw [if_pos c] at q
          rw [decide_eq_true (by omega)]
          refine iteT ⟨u, rfl, u, manyF N, true, rfl, Dp.ext e4.1 _ _ hu, many_ok N, by have := many_dp N; omega, by have := many_sz N; omega, fun H5 x e5 hx => ⟨Nat.le_of_ble_eq_true rfl, fun t ht => q _ _ ((Ev.of e5).trans (Ev.new ht)) ?_⟩⟩
          rw [hid_nil]
          exact .tup (.of upd_same) (.cons (.str _) (.cons (hx.to (Same.new ht)) .nil))
        · rw [if_neg c] at q
          rw [decide_eq_false (by omega)]
          refine iteF ⟨Nat.le_of_ble_eq_true rfl, fun t ht => q _ _ (Ev.new ht) ?_⟩
          rw [hid_nil]
          exact .tup (.of upd_same) (.cons (.str _) (.cons (.int _) (.cons (.bl _) .nil)))⟩
      refine sv_val (K := K) (S := []) (T := TS) lsts_nil T3 due fun H4 dv e4 hdv => ?_
      have T4 := e4.2 T3
      have hu4 := Dp.ext e4.1 _ _ hu
      refine sq_like (K := K) (S := []) (T := TS) lsts_nil T4 (DE.lam (nl_due _ ng) fun H5 e5 _ Q5 q => ⟨u, rfl, lam_inw (Dp.ext e5.1 _ _ hu4) (many_ok N) (by rw [many_sz]; omega) (by have := many_dp N; omega) (fun _ => many_wid N (by omega)) fun H6 x e6 hx => q H6 x (Ev.of e6) hx⟩) (DE.var rfl hdv) (N := 130000) (M := 10) ?_ (by omega) (by omega) fun H5 e5 => ?_
      · exact sm
      refine like_ret (K := K) (S := []) (T := TS) lsts_nil (e5.2 T4) (DE.lam (nl_due _ ng) fun H6 e6 _ Q6 q => ⟨u, rfl, Nat.le_of_ble_eq_true rfl, fun t ht => lam_inw (f := .neg (manyF N)) (c := false) (.tup (.of upd_same) (.cons (.str _) (.cons ((Dp.ext (e5.1.trans e6.1) _ _ hu4).to (Same.new ht)) .nil))) (many_ok N) (by have := many_sz N; simp only [sz]; omega) (by have := many_dp N; simp only [dp]; omega) (fun _ => many_wid N (by omega)) fun H7 x e7 hx => q H7 x (Ev.of ((Same.new ht).trans e7)) hx⟩) (DE.var rfl (hdv.ev e5)) (N := 130000) (M := 10) ?_ (by omega) (by omega) fun H6 e6 => k _
      exact sm
end
end Ws
/-! ## Q03j -/
namespace Ws
open PySem PySem.Spec PyProof.Rows L2 RZ LamX Fo
local macro_rules | `(tactic| walk_at "nf") => `(tactic| dsimp only [tNext, tSeq, tDrop, tRet, tRetN, tIfS, tAsg, gName, gTup, gCons, gNil, tVar, tC, tOp, tUn, rI, rI0, rU, rEq, rNe, tTest, tChain, tAnd, tOr, tNot, tAndV, tOrV, tNotV, tIf, tCB, tCKw, tCons, tNil, tTup, tLst, tCa, tCallS, tB, rIxT, rIxL, rIxS, cxOf, Cx.nox, Cx.wish, Cx.blk, L2.start, tPar, tPar3, tNever, tYes, tBits, tRz, tBM, rAppend, tyV, tXf, suiteEnds, gSub, rSetL, tBreak, rMax, tDGet, sDPut, tSl, tNoPart, tPart, tDisp, tPairs, tDGet2, tDNewK, tAugS, ipI, rGetL, tDIn, tDNotIn, tBM0, rPop])
local macro_rules | `(tactic| walk_at "sx") => `(tactic| simp only [wipe, List.cons.injEq, and_assoc, exists_and_left, and_true, List.map_cons, List.map_nil, List.length_cons, List.length_nil, List.cons_append, List.nil_append, List.append_nil, Nat.reduceAdd, Nat.reduceSub, List.replicate, List.getElem?_cons_zero, List.getElem?_cons_succ, List.set_cons_zero, List.set_cons_succ, Option.some.injEq, V.int.injEq, V.bl.injEq, V.ref.injEq, V.str.injEq, exists_eq_left', exists_eq_left, true_and, Bool.true_eq_false, Bool.false_eq_true, if_true, if_false])

/-! ### the law -/
def spLaw (K : PySem.W.Frag) (T : List (Addr × Str)) : Sp := fun vs H Q _ => ∃ (p : Addr) (is : List Int), vs = [.ref p] ∧ SqL K H p (is.map V.int) ∧ is.length ≤ 1000 ∧ Tabs T H ∧ ∀ H', Q (.bl true) H'
abbrev s_law : Stmt := top 58
abbrev nm_law : List Str := ["script", "state", "due", "got", "path", "asked", "contrary_v", "formula", "value"]
abbrev pr_law : List Str := ["script"]
theorem sc_law : FnScope nm_law pr_law (defScope s_law) := ⟨rfl, rfl, rfl, by decide +kernel, rfl, by decide +kernel, by decide +kernel⟩
theorem fn_okG {P : Program} {w : World} {K : PySem.W.Frag} {mg : Str → Option Value} {base : Heap} {x : Str} {st : Stmt} {N ps : List Str} {c : Addr} {k : Nat} {sp : Sp} {f : Addr} {oc : Value} {od : Option Addr} {kV doc pm : Value} {an : Option Addr} {ct : Value} {osl : Array (Option Value)}
    (lk : K.lookup f = some ⟨oc, od, .func (PySem.W.fnOf x x (defArgs st) (defBody st) (defScope st) .none kV doc pm an (.ref c) ct), osl⟩) (hcd : PySem.W.codeIn K (.ref c) x = true) (S : FnScope N ps (defScope st)) (len : ∀ vs H Q E, sp vs H Q E → vs.length = ps.length)
    (hbody : ∀ (A : Around) (outer : List Env) (s : Shared) (H : Hp) (vs : List V) (Q : VK) (E : XK), A.guards = some [] → Room k (A.deeper (envOfC x (defScope st) s.heap.objs.size f (.ref c))) → sp vs H Q E →
      ∃ t, PSs (cxOf CX0 P w K mg base N x (defScope st) f (.ref c) A outer s H E).nox (defBody st) t ∧ t { nx := fun _ H' => Q .non H', rt := Q } (start N vs) H) : FnOkG P w K mg base CX0 (k + 1) f (PySem.W.fnOf x x (defArgs st) (defBody st) (defScope st) .none kV doc pm an (.ref c) ct) ps sp :=
  fn_ofG lk hcd S len fun A outer s H vs Q E hg hr hsp => by
    obtain ⟨t, h, q⟩ := hbody A outer s H vs Q E hg hr hsp
    exact ⟨t, h.nox, q⟩
theorem SmA.lst' {N D : Nat} {xs : List PyData} (h : SmA N D xs) : Sm N (D + 1) (.list xs) :=
  ⟨h.sh, h.lv, h.nd, h.bk, by show PyData.depthAll xs + 1 ≤ D + 1; have := h.dp; omega⟩
theorem ins_el {f : Fm} {y : List Int × Fm} (h : y ∈ ins f) : ∀ i ∈ y.1, 0 ≤ i ∧ i ≤ (sz f : Int) + 2 := fun i hi => by
  cases f with
  | neg f =>
    obtain rfl : y = ([1], f) := by simpa [ins] using h
    obtain rfl : i = 1 := by simpa using hi
    omega
  | bnd w n f =>
    obtain rfl : y = ([2], f) := by simpa [ins] using h
    obtain rfl : i = 2 := by simpa using hi
    omega
  | lst w fs =>
    obtain ⟨j, hj⟩ := List.mem_iff_getElem?.mp (show y ∈ en 0 fs from h)
    rw [en_get] at hj
    cases e1 : fs[j]? with
    | none => rw [e1] at hj; cases hj
    | some f1 =>
      rw [e1] at hj
      cases hj
      have h1 : j < fs.length := (List.getElem?_eq_some_iff.mp e1).1
      have h2 := szs_len fs
      simp only [sz]
      simp only [List.mem_cons, List.not_mem_nil, or_false] at hi
      rcases hi with rfl | rfl <;> omega
  | _ => cases h
theorem wk_el : ∀ (f : Fm) (p : List Int) (d : Nat), ∀ x ∈ wk p d f, ∀ i ∈ x.1, i ∈ p ∨ (0 ≤ i ∧ i ≤ (sz f : Int) + 2) :=
  ind fun f ih p d x hx i hi => by
    rcases mem_wk.mp hx with rfl | ⟨y, hy, hx⟩
    · exact .inl hi
    · have hs := wk_sub_sz f p d _ (mem_wk.mpr (.inr ⟨y, hy, mem_wk.mpr (.inl rfl)⟩))
      dsimp only at hs
      rcases ih y hy _ _ x hx i hi with h | h
      · rcases List.mem_append.mp h with h | h
        · exact .inl h
        · exact .inr (ins_el hy i h)
      · exact .inr ⟨h.1, by omega⟩
theorem sm_path {p : List Int} (h : ∀ i ∈ p, i.natAbs ≤ 10 ^ 10) (hl : p.length ≤ 50) : Sm 100 1 (intsD p) := by
  refine SmA.tup ((SmA.of_all (n := 1) (D := 0) fun x hx => ?_).mono (by rw [List.length_map]; omega))
  obtain ⟨i, hi, rfl⟩ := List.mem_map.mp hx
  exact (sm_i (h i hi))
theorem passN {P : Program} {w : World} {X : Cx} : Passes (L2.CX P w) X E0 := fun _ _ _ _ _ _ _ ⟨_, _, _, _, _, _, _, _, _, _, _, _, hE⟩ => hE.elim
theorem wid_of {f : Fm} (h : sz f ≤ 2000) : Wid f := ⟨by omega, fun x hx => by
  have h1 := wk_sub_sz f [] 1 x hx
  have h2 := ins_len x.2.2
  omega⟩
/-- what is due for a formula that was driven inward -/
theorem due_cases {f : Fm} {c : Bool} (o : okF f = true) (s : sz f ≤ 310) :
    (needE (inwF f c) = .ok ∧ okF (inwF f c) = true ∧ dp (inwF f c) ≤ 20 ∧ dueI (inwF f c) = toldD (fmD (inwF f c)) ∧ madeD (inwF f c) = toldD (fmD (inwF f c))) ∨ ∃ n : Int, n.natAbs ≤ 10 ^ 10 ∧ dueI (inwF f c) = errD "great" (.int n) ∧ madeD (inwF f c) = errD "great" (.int n) := by
  have hs := sz_inw f c
  unfold dueI madeD
  by_cases ft : fitF (inwF f c) = true
  · have o2 := okF_inw f c o ft
    rw [if_pos ft, if_pos ft]
    by_cases d : dp (inwF f c) < 21
    · rw [if_pos d, need_ok o2 (by omega) (by omega)]
      exact .inl ⟨rfl, o2, by omega, rfl, rfl⟩
    · rw [if_neg d, need_deep o2 (by omega) (by omega)]
      exact .inr ⟨20, by decide, rfl, rfl⟩
  · rw [if_neg ft, if_neg ft]
    exact .inr ⟨10 ^ 9, by decide, rfl, rfl⟩
theorem sm_due {f : Fm} {c : Bool} (o : okF f = true) (s : sz f ≤ 310) (d : dp f ≤ 20) : Sm 60000 50 (dueI (inwF f c)) := by
  have hs := sz_inw f c
  have hd := dp_inw f c
  rcases due_cases (c := c) o s with ⟨_, _, _, e, _⟩ | ⟨n, hn, e, _⟩
  · rw [e]
    exact (Sm.two (sm_s (D := 49)) ((sm_fm _ (inw_lw f c o)).mono (Nat.le_refl _) (by omega))).mono (by omega) (by omega)
  · rw [e]
    exact (Sm.three (sm_s (D := 9)) (sm_i (N := 8) (D := 9) hn) (Sm.bl' (N := 0))).mono (by omega) (by omega)
section
variable {K : PySem.W.Frag} {T : List (Addr × Str)} {tas : TA} {σ : L2.St} {H : Hp} {ds : List PyData}
theorem DE.repL {k : Int} (a : DEs K [] T tas σ H ds) (hl : ds.length ≤ 1000) (h1 : 0 ≤ k) (h2 : k ≤ 1000) : DE K [] T (tOp rRep (tLst tas) (tC (.int k))) σ H (.list (List.replicate k.toNat ds).flatten) := fun H1 e l t Q q =>
  a H1 e l t _ fun H2 vs e2 hs => by
    rw [hid_nil] at hs
    have hx := hs.length
    have hm : vs.length * k.toNat ≤ 1000 * 1000 := Nat.mul_le_mul (by omega) (by omega)
    refine ⟨by rw [sizeLine_eq]; omega, fun p hp => ⟨p, k, vs, rfl, rfl, upd_same, by omega, by omega, by rw [sizeLine_eq]; omega, fun r hr => q _ _ ((e2.trans (Ev.new hp)).trans (Ev.new hr)) ?_⟩⟩
    rw [hid_nil]
    refine .lst (.of upd_same) (rep_dp (DpAll.to ?_ (Same.new hr)) _)
    exact DpAll.to hs (Same.new hp)
end
section
variable {P : Program} {w : World} {K : PySem.W.Frag} {mg : Str → Option Value} {base : Heap} {SE BF TG : Addr} {c0 P0 : Addr} {TS : List (Addr × Str)}
theorem ok_law (B : Bl mg) (T : ErS P w K mg base BF TG) (SX : Ex2 K mg SE BF TG) (DC : Dt K mg "_law_caught" s__law_caught pr__law_caught) (hTB : TabB base mg c0 P0) (hmT : (P0, ("law" : Str) ++ (".<locals>." : Str) ++ ("<lambda>" : Str)) ∈ TS) (hu : ∀ p ∈ TS, p.1 = P0 → p.2 = ("law" : Str) ++ (".<locals>." : Str) ++ ("<lambda>" : Str))
    (F1 : Df P w K mg base CX0 1 "_law_begin" pr__law_begin (spBegin K)) (F2 : Df P w K mg base CX0 25 "_law_formula" pr__law_formula (spFormulaL K)) (F3 : Df P w K mg base CX0 24 "_law_inward" pr__law_inward (spInwL 22 K)) (F4 : Df P w K mg base CX0 25 "_law_made" pr__law_made (spMade K))
    (F5 : Df P w K mg base (L2.CX P w) 28 "inward" pr_inward (spInw 20 K BF TG false)) (F6 : Df P w K mg base (L2.CX P w) 28 "negated" pr_negated (spInw 20 K BF TG true)) (F7 : Df P w K mg base (L2.CX P w) 8 "is_inward" pr_is_inward (spIsInw K BF TG))
    (F8 : Df P w K mg base CX0 25 "_law_ahead" pr__law_ahead (spAheadL K)) (F9 : Df P w K mg base CX0 3 "_law_of" pr__law_of spOf) (F10 : Df P w K mg base CX0 24 "_law_parts" pr__law_parts (spParts 22 K)) (F11 : Df P w K mg base CX0 24 "_law_put_at" pr__law_put_at (spPutAt 22 K)) (F12 : DfG P w K mg base CX0 31 "_law_many_parts" pr__law_many_parts (spMany TS))
    (FL : DfG P w K mg base CX0 1 "_law_like" pr__law_like (spLike K))
    {f : Addr} {oc : Value} {od : Option Addr} {kV doc pm : Value} {an : Option Addr} {ct : Value} {osl : Array (Option Value)} (lk : K.lookup f = some ⟨oc, od, .func (PySem.W.fnOf "law" "law" (defArgs s_law) (defBody s_law) (defScope s_law) .none kV doc pm an (.ref c0) ct), osl⟩) (hcd : PySem.W.codeIn K (.ref c0) "law" = true) :
    FnOkG P w K mg base CX0 32 f (PySem.W.fnOf "law" "law" (defArgs s_law) (defBody s_law) (defScope s_law) .none kV doc pm an (.ref c0) ct) pr_law (spLaw K TS) := by
  refine fn_okG lk hcd sc_law (fun vs H Q E h => ?_) fun A outer s H vs Q E hG hr h => ?_
  · obtain ⟨p, is, rfl, _⟩ := h
    rfl
  · obtain ⟨p, is, rfl, hs, hl, hT, k⟩ := h
    refine ⟨_, (pss_cons (ps_set (i := 1) sc_law.nd rfl (Or.inl rfl) (pe_f F1 (hr.mono (by decide)) pass0 (pa_cons (pv 0) pa_nil))) (pss_cons (ps_set (i := 7) sc_law.nd rfl (Or.inr rfl) (pe_f F2 (hr.mono (by decide)) pass0 (pa_cons (pv 1) pa_nil))) (pss_cons (ps_for PassesOwn.never rfl (pi_tup (pe_tup (pa_cons pe_bl (pa_cons pe_bl pa_nil)))) (pg_name (i := 6) sc_law.nd rfl (Or.inr rfl)) (pss_cons (ps_set (i := 2) sc_law.nd rfl (Or.inl rfl) (pe_f F4 (hr.mono (by decide)) pass0 (pa_cons (pe_f F3 (hr.mono (by decide)) pass0 (pa_cons (pv 7) (pa_cons (pv 6) pa_nil))) pa_nil))) (pss_cons (ps_set (i := 3) sc_law.nd rfl (Or.inl rfl) (pe_caught (k := 28) (q := ("law" : Str) ++ (".<locals>." : Str)) (TB := TS) (c := c0) (P := P0) DC B T SX hTB (by rfl) (by rfl) hmT hu (hr.mono (by decide)) (show LamS (defScope s_law) _ from lamS_by (by decide +kernel)) (fun A2 outer2 s2 H2 E2 f2 c2 hr2 => (pe_ifExp (pt_val (pv 6)) (pe_f (E := E2) F6 (hr2.mono (by decide)) (passes_call (takes_of rfl rfl rfl rfl) fun _ _ _ _ h => h) (pa_cons (pv 7) pa_nil)) (pe_f (E := E2) F5 (hr2.mono (by decide)) (passes_call (takes_of rfl rfl rfl rfl) fun _ _ _ _ h => h) (pa_cons (pv 7) pa_nil)))))) (pss_cons (ps_if (pt_not (pt_val (pe_fG FL hG (hr.mono (by decide)) pass0 (pa_cons (pv 3) (pa_cons (pv 2) pa_nil))))) (pss_one (ps_ret pe_bl)) pss_nil) (pss_one (ps_if (PW.pt (pw_and (pt_cmpR op_eq (pe_ix ix_tup (pv 3) pe_int (fun _ _ => rfl)) pe_str (nomark _)) (pw_and1 (pt_not (pt_val (pe_fG FL hG (hr.mono (by decide)) pass0 (pa_cons (pe_lst (pa_cons (pe_f (E := E0) F7 (hr.mono (by decide)) passN (pa_cons (pe_ix ix_tup (pv 3) pe_int (fun _ _ => rfl)) pa_nil)) (pa_cons (pe_f (E := E0) F5 (hr.mono (by decide)) passN (pa_cons (pe_ix ix_tup (pv 3) pe_int (fun _ _ => rfl)) pa_nil)) pa_nil))) (pa_cons (pe_lst (pa_cons pe_bl (pa_cons (pe_ix ix_tup (pv 3) pe_int (fun _ _ => rfl)) pa_nil))) pa_nil)))))))) (pss_one (ps_ret pe_bl)) pss_nil)))))) (pss_cons (ps_if (pt_not (pt_val (pe_fG FL hG (hr.mono (by decide)) pass0 (pa_cons (pe_f (E := E0) F7 (hr.mono (by decide)) passN (pa_cons (pv 7) pa_nil)) (pa_cons (pe_f F8 (hr.mono (by decide)) pass0 (pa_cons (pv 7) pa_nil)) pa_nil))))) (pss_one (ps_ret pe_bl)) pss_nil) (pss_cons (ps_set (i := 4) sc_law.nd rfl (Or.inl rfl) (pe_ix ix_tup (pe_f F9 (hr.mono (by decide)) pass0 (pa_cons (pv 1) (pa_cons (pe_f F10 (hr.mono (by decide)) pass0 (pa_cons (pv 7) (pa_cons (pe_tup pa_nil) pa_nil))) pa_nil))) pe_int (fun _ _ => rfl))) (pss_cons (ps_set (i := 8) sc_law.nd rfl (Or.inr rfl) (pe_f F11 (hr.mono (by decide)) pass0 (pa_cons (pv 7) (pa_cons (pv 4) (pa_cons (pe_f F9 (hr.mono (by decide)) pass0 (pa_cons (pv 1) (pa_cons (pe_lst (pa_cons pe_non (pa_cons (pe_tup (pa_cons pe_str pa_nil)) (pa_cons (pe_tup (pa_cons pe_str (pa_cons (pe_lst pa_nil) pa_nil))) pa_nil)))) pa_nil))) pa_nil))))) (pss_cons (ps_set (i := 5) sc_law.nd rfl (Or.inl rfl) (pe_lst (pa_cons (pe_caught (k := 28) (q := ("law" : Str) ++ (".<locals>." : Str)) (TB := TS) (c := c0) (P := P0) DC B T SX hTB (by rfl) (by rfl) hmT hu (hr.mono (by decide)) (show LamS (defScope s_law) _ from lamS_by (by decide +kernel)) (fun A2 outer2 s2 H2 E2 f2 c2 hr2 => (pe_f (E := E2) F5 (hr2.mono (by decide)) (passes_call (takes_of rfl rfl rfl rfl) fun _ _ _ _ h => h) (pa_cons (pv 8) pa_nil)))) pa_nil))) (pss_cons (ps_expr (pe_bm PySem.F.plainAttrs_list PySem.F.slot_list_append PySem.F.type_list_append mt_append (pv 5) (pa_cons (pe_caught (k := 28) (q := ("law" : Str) ++ (".<locals>." : Str)) (TB := TS) (c := c0) (P := P0) DC B T SX hTB (by rfl) (by rfl) hmT hu (hr.mono (by decide)) (show LamS (defScope s_law) _ from lamS_by (by decide +kernel)) (fun A2 outer2 s2 H2 E2 f2 c2 hr2 => (pe_f (E := E2) F6 (hr2.mono (by decide)) (passes_call (takes_of rfl rfl rfl rfl) fun _ _ _ _ h => h) (pa_cons (pv 8) pa_nil)))) pa_nil))) (pss_cons (ps_expr (pe_bm PySem.F.plainAttrs_list PySem.F.slot_list_append PySem.F.type_list_append mt_append (pv 5) (pa_cons (pe_caught (k := 28) (q := ("law" : Str) ++ (".<locals>." : Str)) (TB := TS) (c := c0) (P := P0) DC B T SX hTB (by rfl) (by rfl) hmT hu (hr.mono (by decide)) (show LamS (defScope s_law) _ from lamS_by (by decide +kernel)) (fun A2 outer2 s2 H2 E2 f2 c2 hr2 => (pe_f (E := E2) F7 (hr2.mono (by decide)) (passes_call (takes_of rfl rfl rfl rfl) fun _ _ _ _ h => h) (pa_cons (pv 8) pa_nil)))) pa_nil))) (pss_one (ps_ret (pe_and (pe_fG FL hG (hr.mono (by decide)) pass0 (pa_cons (pv 5) (pa_cons (pe_op op_rep (pe_lst (pa_cons (pe_tup (pa_cons pe_str (pa_cons (pv 4) (pa_cons pe_bl pa_nil)))) pa_nil)) pe_int) pa_nil))) (pe_one (pe_fG F12 hG (hr.mono (by decide)) pass0 (pa_cons (pv 1) pa_nil))))))))))))))), ?_⟩
    dsimp only [cxOf, Cx.nox, L2.start]
    refine sq_go ⟨_, rfl, p, is, rfl, hs, hl, fun H1 a l c e1 t1 => ?_⟩
    have T1 := Tabs.same hT e1
    refine sq_go ⟨_, rfl, a, l, c, 0, rfl, t1, by omega, fun H2 u f e2 t2 of sf df hu => ?_⟩
    have T2 := Tabs.sbt T1 t1 e2
    have nlf := noList_fm f of
    have no : needE f = .ok := need_ok of (by omega) df
    have rf : ∀ {H : Hp} {E : XK}, Refs K BF TG f H E := fun {H E} => ⟨fun n e => (by rw [no] at e; cases e), fun n e => (by rw [no] at e; cases e)⟩
    refine sq_fr ⟨Nat.le_of_ble_eq_true rfl, fun tp htp => ⟨tp, rfl, ⟨_, .of upd_same⟩, for_it (walk_tup (xs := [.bl false, .bl true])) (fun i σ H' => ∃ (v2 v3 v6 : Option V), σ = [some (.ref p), some (.ref a), v2, v3, none, none, v6, some u, none] ∧ Ev TS (upd H2 tp (HO.tup [V.bl false, V.bl true])) H') ⟨none, none, none, rfl, Ev.refl _⟩ (fun i σ H' _ q => by obtain ⟨_, _, _, _, e⟩ := q; exact seqTE e.1 (.of upd_same)) (fun i x σ H3 H4 hi q y => ?_) (fun σ H3 q => ?_)⟩⟩
    · obtain ⟨v2, v3, v6, rfl, e3⟩ := q
      obtain ⟨rfl, hx⟩ := y
      obtain ⟨b, rfl⟩ : ∃ b : Bool, x = .bl b := by
        match i, hx with
        | 0, hx => exact ⟨false, (Option.some.inj hx).symm⟩
        | 1, hx => exact ⟨true, (Option.some.inj hx).symm⟩
        | i + 2, hx => simp at hx
      have e24 : Ev TS H2 H4 := (Ev.new htp).trans e3
      have T4 := e24.2 T2
      have hu4 := Dp.ext e24.1 _ _ hu
      have zi := sz_inw f b
      have di := dp_inw f b
      have li := inw_lw f b of
      have nld := nl_due _ li
      show tSeq _ _ _ _ _
      refine sq_go ⟨u, rfl, _, rfl, u, f, b, rfl, hu4, of, by omega, by omega, fun H5 g e5 hg => ⟨g, inwF f b, rfl, hg, li, by omega, by omega, fun H6 dv e6 hdv => ?_⟩⟩
      have e46 : Ev TS H4 H6 := Ev.of (e5.trans e6)
      have T6 := e46.2 T4
      have hu6 := Dp.ext e46.1 _ _ hu4
      have hdv6 : Dp K H6 dv (dueI (inwF f b)) := by
        rcases due_cases (c := b) of sf with ⟨_, _, _, q1, q2⟩ | ⟨_, _, q1, q2⟩
        · rw [q1, ← q2]; exact hdv
        · rw [q1, ← q2]; exact hdv
      refine sv_val (K := K) (S := []) (T := TS) (d := dueI (inwF f b)) lsts_nil T6 (DE.lam nld fun H7 e7 _ Q7 q => ?_) fun H7 gv e7 hgv => ?_
      · have hu7 := Dp.ext e7.1 _ _ hu6
        cases b with
        | true => exact ⟨_, rfl, _, rfl, iteT ⟨u, rfl, lam_inw hu7 of (by omega) df (fun _ => wid_of (by omega)) fun H8 x e8 hx => q H8 x (Ev.of e8) hx⟩⟩
        | false => exact ⟨_, rfl, _, rfl, iteF ⟨u, rfl, lam_inw hu7 of (by omega) df (fun _ => wid_of (by omega)) fun H8 x e8 hx => q H8 x (Ev.of e8) hx⟩⟩
      rw [hid_nil] at hgv
      have T7 := e7.2 T6
      have hdv7 := Dp.ext e7.1 _ _ hdv6
      refine sq_like (K := K) (S := []) (T := TS) lsts_nil T7 (DE.var rfl (by rw [hid_nil]; exact hgv)) (DE.var rfl (by rw [hid_nil]; exact hdv7)) (sm_due of sf df) (by omega) (by omega) fun H8 e8 => ?_
      have hgv8 := Dp.ext e8.1 _ _ hgv
      have e38 : Ev TS (upd H2 tp (HO.tup [V.bl false, V.bl true])) H8 := ((e3.trans e46).trans e7).trans e8
      rcases due_cases (c := b) of sf with ⟨ni, oi, dpi, q1, _⟩ | ⟨n, _, q1, _⟩
      · rw [q1] at hgv8
        obtain ⟨gp, xs, rfl, hq, ha⟩ := hgv8.tup_inv
        cases ha with
        | @cons x0 _ _ _ h0 ha =>
        cases ha with
        | @cons x1 _ _ _ h1 ha =>
        cases ha
        cases h0
        have rfi : ∀ {H : Hp} {E : XK}, Refs K BF TG (inwF f b) H E := fun {H E} => ⟨fun n e => (by rw [ni] at e; cases e), fun n e => (by rw [ni] at e; cases e)⟩
        have ft : fitF (inwF (inwF f b) false) = true := by rw [inw_inw]; exact okF_fit _ oi
        have smi : Sm 60000 50 (.list [.bool true, fmD (inwF f b)]) := by
          exact (SmA.lst' (SmA.cons' (Sm.bl' (N := 0) (D := 49)) (SmA.cons' (m := 0) ((sm_fm _ li).mono (Nat.le_refl _) (by omega)) SmA.nil' (Nat.le_refl _)) (Nat.le_refl _))).mono (by omega) (by omega)
        refine ⟨_, rfl, gp, _, 0, _, rfl, rfl, hq, rfl, rfl, _, rfl, iteT ⟨_, rfl, gp, _, 1, _, rfl, rfl, hq, rfl, _, inwF f b, rfl, h1, wid_of (by omega), rfi, fun _ => ⟨oi, by omega, fun H9 e9 => ⟨_, rfl, gp, _, 1, _, rfl, rfl, e9.seqT hq, rfl, _, inwF f b, rfl, h1.to e9, wid_of (by omega), rfi, fun _ => ⟨oi, dpi, fun z => (by rw [ft] at z; cases z), fun _ => ?_⟩⟩⟩⟩⟩
        rw [inw_inw]
        refine ⟨wid_of (by omega), rfi, fun _ HA y eA hy => ⟨Nat.le_of_ble_eq_true rfl, fun l1 hl1 => ⟨_, rfl, gp, _, 1, _, rfl, rfl, ((e9.trans eA).then_new hl1).seqT hq, rfl, Nat.le_of_ble_eq_true rfl, fun l2 hl2 => ⟨_, _, _, 60000, 50, rfl, ?_, ?_, smi, by omega, by omega, _, rfl, ?_⟩⟩⟩⟩
        · rw [ahead_inw] at hl2 ⊢
          exact .lst (.of (by rw [upd_ne (ne_of_none upd_same hl2)]; exact upd_same)) (.cons (.bl _) (.cons ((hy.to (Same.new hl1)).to (Same.new hl2)) .nil))
        · exact .lst (.of upd_same) (.cons (.bl _) (.cons (h1.to (((e9.trans eA).then_new hl1).then_new hl2)) .nil))
        · exact iteF ⟨_, _, _, rfl, e38.trans (Ev.of (((e9.trans eA).then_new hl1).then_new hl2))⟩
      · rw [q1] at hgv8
        obtain ⟨gp, xs, rfl, hq, ha⟩ := hgv8.tup_inv
        obtain ⟨x0, x1, x2, rfl, h0, h1, h2⟩ := ha.three
        cases h0
        exact ⟨_, rfl, gp, _, 0, _, rfl, rfl, hq, rfl, rfl, _, rfl, iteF ⟨_, _, _, rfl, e38⟩⟩
    · obtain ⟨v2, v3, v6, rfl, e3⟩ := q
      have e23 : Ev TS H2 H3 := (Ev.new htp).trans e3
      have T3 := e23.2 T2
      have hu3 := Dp.ext e23.1 _ _ hu
      have t3 := t2.ext e23.1
      have lf := ok_lw f of
      -- is_inward
      dsimp only
      refine sq_if0 ⟨u, rfl, u, f, rfl, hu3, wid_of (by omega), rf, fun _ => ⟨of, by omega, fun H4 e4 => ⟨u, rfl, u, f, rfl, hu3.to e4, lf, by omega, by omega, fun H5 e5 => ⟨_, _, .bool (aheadB f), 0, 0, rfl, .bl _, .bl _, Sm.bl', by omega, by omega, _, rfl, ?_⟩⟩⟩⟩
      have e35 := e4.trans e5
      refine iteF ?_
      have hu5 := hu3.to e35
      have t5 := t3.same e35
      have T5 := Tabs.same T3 e35
      -- a part
      refine sq_go ⟨_, rfl, u, rfl, Nat.le_of_ble_eq_true rfl, fun tt htt => ⟨u, .ref tt, f, [], rfl, hu5.to (Same.new htt), .tup (.of upd_same) .nil, lf, by omega, by omega, by simp; omega, fun H6 l1 zs e6 hl0 hl1 hz => ?_⟩⟩
      have e56 : Same H5 H6 := (Same.new htt).trans e6
      have lz := hz.length
      rw [List.length_map, wk_len] at lz
      have zp := sz_pos f
      have t6 := t5.same e56
      have T6 := Tabs.same T5 e56
      have o5 := (t5.new (o := HO.tup []) htt).off hl0
      refine ⟨a, l, c, l1, 0 + 1000, zs, rfl, t6, by omega, hl1, o5.1, o5.2.1, by omega, by omega, fun H7 x e7 t7 hx => ?_⟩
      obtain ⟨j, hj⟩ := List.mem_iff_getElem?.mp hx
      obtain ⟨d0, hd0, hdx⟩ := hz.getV hj
      rw [List.getElem?_map] at hd0
      obtain ⟨y0, hy0, rfl⟩ : ∃ y0, (wk [] 1 f)[j]? = some y0 ∧ pwD y0 = d0 := by
        cases e : (wk [] 1 f)[j]? with
        | none => rw [e] at hd0; cases hd0
        | some y0 => rw [e] at hd0; exact ⟨y0, rfl, by simpa using hd0⟩
      have hym := List.mem_of_getElem? hy0
      have nlp : noList (pwD y0) = true := by
        show (noList (intsD y0.1) && (noList (fmD y0.2.2) && true)) = true
        rw [noList_ints, noList_lw y0.2.2 (wk_lw f [] 1 lf y0 hym).1]
        rfl
      have hx7 := keepT e7 t6 _ _ nlp hdx
      have hu7 := keepT e7 t6 _ _ nlf (hu5.to e56)
      have T7 := Tabs.sbt T6 t6 e7
      obtain ⟨q7, pathv, partv, rfl, hq7, hpath, hpart⟩ := Dp.two (show Dp K H7 x (.tuple [intsD y0.1, fmD y0.2.2]) from hx7)
      refine ⟨q7, _, 0, _, rfl, rfl, hq7, rfl, ?_⟩
      obtain ⟨r0, er, hput⟩ := put_all f [] 1 y0 hym
      rw [List.nil_append] at er
      have hlen := wk_path f [] 1 y0 hym
      have hdep := wk_dp f [] 1 y0 hym
      have hp7 : Dp K H7 pathv (intsD y0.1) := hpath
      clear hq7 hx7 hpart
      refine sq_go ⟨u, rfl, pathv, rfl, _, rfl, Nat.le_of_ble_eq_true rfl, fun ta hta => ⟨Nat.zero_le _, fun lb hlb => ⟨Nat.le_of_ble_eq_true rfl, fun tb htb => ⟨Nat.le_of_ble_eq_true rfl, fun np hnp => ?_⟩⟩⟩⟩
      have ed : Same H7 (upd (upd (upd (upd H7 ta (HO.tup [V.str "not"])) lb (HO.lst [])) tb (HO.tup [V.str "or", V.ref lb])) np (HO.lst [V.non, V.ref ta, V.ref tb])) := (((Same.new hta).then_new hlb).then_new htb).then_new hnp
      have d1 : (upd (upd (upd (upd H7 ta (HO.tup [V.str "not"])) lb (HO.lst [])) tb (HO.tup [V.str "or", V.ref lb])) np (HO.lst [V.non, V.ref ta, V.ref tb])) ta = some (HO.tup [V.str "not"]) := (((Same.new hlb).then_new htb).then_new hnp) _ _ upd_same
      have d2 : (upd (upd (upd (upd H7 ta (HO.tup [V.str "not"])) lb (HO.lst [])) tb (HO.tup [V.str "or", V.ref lb])) np (HO.lst [V.non, V.ref ta, V.ref tb])) lb = some (HO.lst []) := ((Same.new htb).then_new hnp) _ _ upd_same
      have d3 : (upd (upd (upd (upd H7 ta (HO.tup [V.str "not"])) lb (HO.lst [])) tb (HO.tup [V.str "or", V.ref lb])) np (HO.lst [V.non, V.ref ta, V.ref tb])) tb = some (HO.tup [V.str "or", V.ref lb]) := (Same.new hnp) _ _ upd_same
      have d4 : (upd (upd (upd (upd H7 ta (HO.tup [V.str "not"])) lb (HO.lst [])) tb (HO.tup [V.str "or", V.ref lb])) np (HO.lst [V.non, V.ref ta, V.ref tb])) np = some (HO.lst [V.non, V.ref ta, V.ref tb]) := upd_same
      have tc := t7.same (((Same.new hta).then_new (o := HO.lst []) hlb).then_new (o := HO.tup [V.str "or", V.ref lb]) htb)
      have on := tc.off hnp
      have oa := t7.off hta
      have ob := (t7.same (Same.new hta)).off hlb
      have oc := (t7.same ((Same.new hta).then_new (o := HO.lst []) hlb)).off htb
      generalize upd (upd (upd (upd H7 ta (HO.tup [V.str "not"])) lb (HO.lst [])) tb (HO.tup [V.str "or", V.ref lb])) np (HO.lst [V.non, V.ref ta, V.ref tb]) = Hd at *
      have td := t7.same ed
      refine ⟨a, l, c, np, _, _, rfl, td, by omega, d4, on.1, on.2.1, Nat.le_of_ble_eq_true rfl, Nat.le_of_ble_eq_true rfl, fun H8 g e8 t8 hg => ?_⟩
      have a8 := e8 _ _ d1 oa.1 oa.2.1
      have b8 := e8 _ _ d2 ob.1 ob.2.1
      have c8 := e8 _ _ d3 oc.1 oc.2.1
      have T8 := Tabs.sbt (Tabs.same T7 ed) td e8
      have hu8 := keepT e8 td _ _ nlf (hu7.to ed)
      have hp8 := keepT e8 td _ _ (noList_ints _) (hp7.to ed)
      obtain ⟨k0, hg8⟩ : ∃ k0, Dp K H8 g (fmD (.bad k0)) := by
        simp only [List.mem_cons, List.not_mem_nil, or_false] at hg
        rcases hg with rfl | rfl | rfl
        · exact ⟨0, .non⟩
        · exact ⟨1, .tup (.of a8) (.cons (.str _) .nil)⟩
        · exact ⟨2, .tup (.of c8) (.cons (.str _) (.cons (.lst (.of b8) .nil) .nil))⟩
      obtain ⟨h, hp, hP⟩ := hput (.bad k0)
      have nb : needE h = .bad y0.1 := need_bad of df (by omega) hym hP
      have hsz := hP.sz_
      have wh : Wid h := wid_of (by simp only [sz] at hsz; omega)
      rw [← er] at hp
      refine ⟨[], u, pathv, g, f, .bad k0, h, y0.1, rfl, lsts_nil, hu8, hp8, by rw [hid_nil]; exact hg8, lf, by omega, by omega, by have := hlen.1; simp at this; omega, hp, fun H9 vv e9 hvv => ?_⟩
      rw [hid_nil] at hvv
      have t9 := t8.same e9
      have T9 := Tabs.same T8 e9
      have hp9 := hp8.to e9
      have nle : noList (errD "formula" (intsD y0.1)) = true := by
        show (noList (intsD y0.1) && (true && true)) = true
        rw [noList_ints]
        rfl
      clear hg8 hp8 hu8 T8 a8 b8 c8
      refine sq_go (DE.lam (K := K) (S := []) (T := TS) (t := fun E2 => tCa (spInw 20 K BF TG false) E2 (tCons (tVar 8) tNil)) nle (fun H10 e10 _ Q10 q => ⟨vv, rfl, lam_bad (Dp.ext e10.1 _ _ hvv) wh nb fun H11 x e11 hx => q H11 x (Ev.of e11) hx⟩) H9 (Ev.refl _) lsts_nil T9 _ fun H10 w1 e10 hw1 => ⟨Nat.le_of_ble_eq_true rfl, fun Dl hDl => ?_⟩)
      rw [hid_nil] at hw1
      have T10 := e10.2 T9
      have hvv10 := Dp.ext e10.1 _ _ hvv
      have hp10 := Dp.ext e10.1 _ _ hp9
      have t10 := t9.ext e10.1
      have o10 := t10.off hDl
      generalize hH : upd H10 Dl (HO.lst [w1]) = H11
      have e11 : Same H10 H11 := hH ▸ Same.new hDl
      have hD11 : H11 Dl = some (.lst [w1]) := hH ▸ upd_same
      have h11 : ExtN H10 (hid [Dl] H11) := by
        have := hid_more (S := []) (o := HO.lst [w1]) hDl
        rw [hid_nil, hH] at this
        exact this
      have lD : ∀ {H : Hp} {xs : List V}, H Dl = some (.lst xs) → Lsts [Dl] H := fun {H xs} h b m => by
        rw [List.mem_singleton.mp m]
        exact ⟨_, h, .inl ⟨_, rfl⟩⟩
      have T11 := Tabs.same T10 e11
      have v11 := Dp.ext h11 _ _ hvv10
      have w11 := Dp.ext h11 _ _ hw1
      have t11 := t10.same e11
      have p11 := Dp.ext h11 _ _ hp10
      refine sq_dr ⟨_, rfl, .inl ⟨rfl, _, .of hD11⟩, DE.lam (K := K) (S := [Dl]) (T := TS) (t := fun E2 => tCa (spInw 20 K BF TG true) E2 (tCons (tVar 8) tNil)) nle (fun H12 e12 _ Q12 q => ⟨vv, rfl, lam_bad (Dp.ext hid_out _ _ (v11.ev e12)) wh nb fun H13 x e13 hx => q H13 x (Ev.of e13) hx⟩) H11 (Ev.refl _) (lD hD11) T11 _ fun H12 w2 e12 hw2 => ?_⟩
      have hD12 := e12.1 _ _ hD11 (fun ps z => by cases z)
      refine ⟨Dl, _, _, rfl, rfl, hD12, Nat.lt_of_succ_le (Nat.le_of_ble_eq_true rfl), ?_⟩
      have T12 := Tabs.put (e12.2 T11) hD12 (o := .lst ([w1] ++ [w2]))
      have v12 := v11.ev e12
      have w12 := w11.ev e12
      have p12 := p11.ev e12
      have t12 := (t11.ext e12.1).put (o := .lst ([w1] ++ [w2])) o10.1 o10.2.1 o10.2.2
      rw [← hid_upd (S := [Dl]) (H := H12) (p := Dl) (o := .lst ([w1] ++ [w2])) (by simp)] at v12 w12 p12 hw2
      have hD13 : (upd H12 Dl (HO.lst ([w1] ++ [w2]))) Dl = some (HO.lst ([w1] ++ [w2])) := upd_same
      generalize upd H12 Dl (HO.lst ([w1] ++ [w2])) = H13 at *
      refine sq_dr ⟨_, rfl, .inl ⟨rfl, _, .of hD13⟩, DE.lam (K := K) (S := [Dl]) (T := TS) (t := fun E2 => tCa (spIsInw K BF TG) E2 (tCons (tVar 8) tNil)) nle (fun H14 e14 _ Q14 q => ⟨vv, rfl, lam_badI (Dp.ext hid_out _ _ (v12.ev e14)) wh nb fun H15 x e15 hx => q H15 x (Ev.of e15) hx⟩) H13 (Ev.refl _) (lD hD13) T12 _ fun H14 w3 e14 hw3 => ?_⟩
      have hD14 := e14.1 _ _ hD13 (fun ps z => by cases z)
      refine ⟨Dl, _, _, rfl, rfl, hD14, Nat.lt_of_succ_le (Nat.le_of_ble_eq_true rfl), ?_⟩
      have T14 := Tabs.put (e14.2 T12) hD14 (o := .lst ([w1] ++ [w2] ++ [w3]))
      have w14 := w12.ev e14
      have x14 := hw2.ev e14
      have p14 := p12.ev e14
      have t14 := (t12.ext e14.1).put (o := .lst ([w1] ++ [w2] ++ [w3])) o10.1 o10.2.1 o10.2.2
      rw [← hid_upd (S := [Dl]) (H := H14) (p := Dl) (o := .lst ([w1] ++ [w2] ++ [w3])) (by simp)] at w14 x14 p14 hw3
      have hD15 : (upd H14 Dl (HO.lst ([w1] ++ [w2] ++ [w3]))) Dl = some (HO.lst ([w1] ++ [w2] ++ [w3])) := upd_same
      generalize upd H14 Dl (HO.lst ([w1] ++ [w2] ++ [w3])) = H15 at *
      have hall : Dp K H15 (.ref Dl) (.list [errD "formula" (intsD y0.1), errD "formula" (intsD y0.1), errD "formula" (intsD y0.1)]) := .lst (.of hD15) (.cons w14.out (.cons x14.out (.cons hw3.out .nil)))
      have pl : y0.1.length ≤ 50 := by have := hlen.1; simp at this; omega
      refine like_and (K := K) (S := []) (T := TS) (N := 1000) (M := 10) lsts_nil T14 (DE.var rfl (by rw [hid_nil]; exact hall)) (DE.repL (ds := [errD "formula" (intsD y0.1)]) (k := 3) (DEs.one (DE.tup (DEs.cons DE.str (DEs.cons (DE.var rfl (by rw [hid_nil]; exact p14.out)) (DEs.one DE.bl))))) (Nat.le_of_ble_eq_true rfl) (by decide) (by decide)) ?_ (by omega) (by omega) fun H16 e16 => ⟨_, rfl, a, l, c, _, rfl, t14.ext e16.1, by omega, e16.2 T14, fun H17 => k _⟩
      have se : Sm 200 9 (errD "formula" (intsD y0.1)) := by
        refine (Sm.three (sm_s (D := 1)) (sm_path (p := y0.1) (fun i hi => ?_) pl) (Sm.bl' (N := 0))).mono (by omega) (by omega)
        rcases wk_el f [] 1 y0 hym i hi with h | h
        · cases h
        · omega
      exact (SmA.lst' (SmA.cons' se (SmA.cons' se (SmA.cons' (m := 0) se SmA.nil' (Nat.le_refl _)) (Nat.le_refl _)) (Nat.le_refl _))).mono (by omega) (by omega)
end
end Ws
/-! ## Q03z -/
namespace Ws
open PySem PySem.Spec PyProof.Rows L2 LamX
theorem hb_is_integer (kV doc pm : Value) (an : Option Addr) (cdv ct : Value) (us : List Value) (hl : us.length = pr_is_integer.length) : bindArgs (PySem.W.fnOf "is_integer" "is_integer" (defArgs s_is_integer) (defBody s_is_integer) (defScope s_is_integer) .none kV doc pm an cdv ct) ⟨us, []⟩ = pure (pr_is_integer.zip us) :=
  match us, hl with
  | [_], _ => rfl
theorem hb_is_between (kV doc pm : Value) (an : Option Addr) (cdv ct : Value) (us : List Value) (hl : us.length = pr_is_between.length) : bindArgs (PySem.W.fnOf "is_between" "is_between" (defArgs s_is_between) (defBody s_is_between) (defScope s_is_between) .none kV doc pm an cdv ct) ⟨us, []⟩ = pure (pr_is_between.zip us) :=
  match us, hl with
  | [_, _, _], _ => rfl
theorem hb_is_tuple_of (kV doc pm : Value) (an : Option Addr) (cdv ct : Value) (us : List Value) (hl : us.length = pr_is_tuple_of.length) : bindArgs (PySem.W.fnOf "is_tuple_of" "is_tuple_of" (defArgs s_is_tuple_of) (defBody s_is_tuple_of) (defScope s_is_tuple_of) .none kV doc pm an cdv ct) ⟨us, []⟩ = pure (pr_is_tuple_of.zip us) :=
  match us, hl with
  | [_, _], _ => rfl
theorem hb_is_name (kV doc pm : Value) (an : Option Addr) (cdv ct : Value) (us : List Value) (hl : us.length = pr_is_name.length) : bindArgs (PySem.W.fnOf "is_name" "is_name" (defArgs s_is_name) (defBody s_is_name) (defScope s_is_name) .none kV doc pm an cdv ct) ⟨us, []⟩ = pure (pr_is_name.zip us) :=
  match us, hl with
  | [_], _ => rfl
theorem hb_is_factor (kV doc pm : Value) (an : Option Addr) (cdv ct : Value) (us : List Value) (hl : us.length = pr_is_factor.length) : bindArgs (PySem.W.fnOf "is_factor" "is_factor" (defArgs s_is_factor) (defBody s_is_factor) (defScope s_is_factor) .none kV doc pm an cdv ct) ⟨us, []⟩ = pure (pr_is_factor.zip us) :=
  match us, hl with
  | [_], _ => rfl
theorem hb_is_pair_of_name (kV doc pm : Value) (an : Option Addr) (cdv ct : Value) (us : List Value) (hl : us.length = pr_is_pair_of_name.length) : bindArgs (PySem.W.fnOf "is_pair_of_name" "is_pair_of_name" (defArgs s_is_pair_of_name) (defBody s_is_pair_of_name) (defScope s_is_pair_of_name) .none kV doc pm an cdv ct) ⟨us, []⟩ = pure (pr_is_pair_of_name.zip us) :=
  match us, hl with
  | [_], _ => rfl
theorem hb_is_term (kV doc pm : Value) (an : Option Addr) (cdv ct : Value) (us : List Value) (hl : us.length = pr_is_term.length) : bindArgs (PySem.W.fnOf "is_term" "is_term" (defArgs s_is_term) (defBody s_is_term) (defScope s_is_term) .none kV doc pm an cdv ct) ⟨us, []⟩ = pure (pr_is_term.zip us) :=
  match us, hl with
  | [_], _ => rfl
theorem hb_has_form (kV doc pm : Value) (an : Option Addr) (cdv ct : Value) (us : List Value) (hl : us.length = pr_has_form.length) : bindArgs (PySem.W.fnOf "has_form" "has_form" (defArgs s_has_form) (defBody s_has_form) (defScope s_has_form) .none kV doc pm an cdv ct) ⟨us, []⟩ = pure (pr_has_form.zip us) :=
  match us, hl with
  | [_], _ => rfl
theorem hb_inner (kV doc pm : Value) (an : Option Addr) (cdv ct : Value) (us : List Value) (hl : us.length = pr_inner.length) : bindArgs (PySem.W.fnOf "inner" "inner" (defArgs s_inner) (defBody s_inner) (defScope s_inner) .none kV doc pm an cdv ct) ⟨us, []⟩ = pure (pr_inner.zip us) :=
  match us, hl with
  | [_], _ => rfl
theorem hb_walked (kV doc pm : Value) (an : Option Addr) (cdv ct : Value) (us : List Value) (hl : us.length = pr_walked.length) : bindArgs (PySem.W.fnOf "walked" "walked" (defArgs s_walked) (defBody s_walked) (defScope s_walked) .none kV doc pm an cdv ct) ⟨us, []⟩ = pure (pr_walked.zip us) :=
  match us, hl with
  | [_], _ => rfl
theorem hb_rebuilt (kV doc pm : Value) (an : Option Addr) (cdv ct : Value) (us : List Value) (hl : us.length = pr_rebuilt.length) : bindArgs (PySem.W.fnOf "rebuilt" "rebuilt" (defArgs s_rebuilt) (defBody s_rebuilt) (defScope s_rebuilt) .none kV doc pm an cdv ct) ⟨us, []⟩ = pure (pr_rebuilt.zip us) :=
  match us, hl with
  | [_, _], _ => rfl
theorem hb_gathered (kV doc pm : Value) (an : Option Addr) (cdv ct : Value) (us : List Value) (hl : us.length = pr_gathered.length) : bindArgs (PySem.W.fnOf "gathered" "gathered" (defArgs s_gathered) (defBody s_gathered) (defScope s_gathered) .none kV doc pm an cdv ct) ⟨us, []⟩ = pure (pr_gathered.zip us) :=
  match us, hl with
  | [_, _], _ => rfl
theorem hb_multiplied (kV doc pm : Value) (an : Option Addr) (cdv ct : Value) (us : List Value) (hl : us.length = pr_multiplied.length) : bindArgs (PySem.W.fnOf "multiplied" "multiplied" (defArgs s_multiplied) (defBody s_multiplied) (defScope s_multiplied) .none kV doc pm an cdv ct) ⟨us, []⟩ = pure (pr_multiplied.zip us) :=
  match us, hl with
  | [_, _], _ => rfl
theorem hb_need_formula (kV doc pm : Value) (an : Option Addr) (cdv ct : Value) (us : List Value) (hl : us.length = pr_need_formula.length) : bindArgs (PySem.W.fnOf "need_formula" "need_formula" (defArgs s_need_formula) (defBody s_need_formula) (defScope s_need_formula) .none kV doc pm an cdv ct) ⟨us, []⟩ = pure (pr_need_formula.zip us) :=
  match us, hl with
  | [_], _ => rfl
theorem hb_is_inward (kV doc pm : Value) (an : Option Addr) (cdv ct : Value) (us : List Value) (hl : us.length = pr_is_inward.length) : bindArgs (PySem.W.fnOf "is_inward" "is_inward" (defArgs s_is_inward) (defBody s_is_inward) (defScope s_is_inward) .none kV doc pm an cdv ct) ⟨us, []⟩ = pure (pr_is_inward.zip us) :=
  match us, hl with
  | [_], _ => rfl
theorem hb_inward (kV doc pm : Value) (an : Option Addr) (cdv ct : Value) (us : List Value) (hl : us.length = pr_inward.length) : bindArgs (PySem.W.fnOf "inward" "inward" (defArgs s_inward) (defBody s_inward) (defScope s_inward) .none kV doc pm an cdv ct) ⟨us, []⟩ = pure (pr_inward.zip us) :=
  match us, hl with
  | [_], _ => rfl
theorem hb_negated (kV doc pm : Value) (an : Option Addr) (cdv ct : Value) (us : List Value) (hl : us.length = pr_negated.length) : bindArgs (PySem.W.fnOf "negated" "negated" (defArgs s_negated) (defBody s_negated) (defScope s_negated) .none kV doc pm an cdv ct) ⟨us, []⟩ = pure (pr_negated.zip us) :=
  match us, hl with
  | [_], _ => rfl
theorem hb_led_inward (kV doc pm : Value) (an : Option Addr) (cdv ct : Value) (us : List Value) (hl : us.length = pr_led_inward.length) : bindArgs (PySem.W.fnOf "led_inward" "led_inward" (defArgs s_led_inward) (defBody s_led_inward) (defScope s_led_inward) .none kV doc pm an cdv ct) ⟨us, []⟩ = pure (pr_led_inward.zip us) :=
  match us, hl with
  | [_], _ => rfl
theorem hb_contrary (kV doc pm : Value) (an : Option Addr) (cdv ct : Value) (us : List Value) (hl : us.length = pr_contrary.length) : bindArgs (PySem.W.fnOf "contrary" "contrary" (defArgs s_contrary) (defBody s_contrary) (defScope s_contrary) .none kV doc pm an cdv ct) ⟨us, []⟩ = pure (pr_contrary.zip us) :=
  match us, hl with
  | [_], _ => rfl
theorem hb_moved (kV doc pm : Value) (an : Option Addr) (cdv ct : Value) (us : List Value) (hl : us.length = pr_moved.length) : bindArgs (PySem.W.fnOf "moved" "moved" (defArgs s_moved) (defBody s_moved) (defScope s_moved) .none kV doc pm an cdv ct) ⟨us, []⟩ = pure (pr_moved.zip us) :=
  match us, hl with
  | [_, _, _], _ => rfl
theorem hb__law_mixed (kV doc pm : Value) (an : Option Addr) (cdv ct : Value) (us : List Value) (hl : us.length = pr__law_mixed.length) : bindArgs (PySem.W.fnOf "_law_mixed" "_law_mixed" (defArgs s__law_mixed) (defBody s__law_mixed) (defScope s__law_mixed) .none kV doc pm an cdv ct) ⟨us, []⟩ = pure (pr__law_mixed.zip us) :=
  match us, hl with
  | [_, _], _ => rfl
theorem hb__law_begin (kV doc pm : Value) (an : Option Addr) (cdv ct : Value) (us : List Value) (hl : us.length = pr__law_begin.length) : bindArgs (PySem.W.fnOf "_law_begin" "_law_begin" (defArgs s__law_begin) (defBody s__law_begin) (defScope s__law_begin) .none kV doc pm an cdv ct) ⟨us, []⟩ = pure (pr__law_begin.zip us) :=
  match us, hl with
  | [_], _ => rfl
theorem hb__law_draw (kV doc pm : Value) (an : Option Addr) (cdv ct : Value) (us : List Value) (hl : us.length = pr__law_draw.length) : bindArgs (PySem.W.fnOf "_law_draw" "_law_draw" (defArgs s__law_draw) (defBody s__law_draw) (defScope s__law_draw) .none kV doc pm an cdv ct) ⟨us, []⟩ = pure (pr__law_draw.zip us) :=
  match us, hl with
  | [_, _], _ => rfl
theorem hb__law_of (kV doc pm : Value) (an : Option Addr) (cdv ct : Value) (us : List Value) (hl : us.length = pr__law_of.length) : bindArgs (PySem.W.fnOf "_law_of" "_law_of" (defArgs s__law_of) (defBody s__law_of) (defScope s__law_of) .none kV doc pm an cdv ct) ⟨us, []⟩ = pure (pr__law_of.zip us) :=
  match us, hl with
  | [_, _], _ => rfl
theorem hb__law_term (kV doc pm : Value) (an : Option Addr) (cdv ct : Value) (us : List Value) (hl : us.length = pr__law_term.length) : bindArgs (PySem.W.fnOf "_law_term" "_law_term" (defArgs s__law_term) (defBody s__law_term) (defScope s__law_term) .none kV doc pm an cdv ct) ⟨us, []⟩ = pure (pr__law_term.zip us) :=
  match us, hl with
  | [_, _, _, _], _ => rfl
theorem hb__law_atom (kV doc pm : Value) (an : Option Addr) (cdv ct : Value) (us : List Value) (hl : us.length = pr__law_atom.length) : bindArgs (PySem.W.fnOf "_law_atom" "_law_atom" (defArgs s__law_atom) (defBody s__law_atom) (defScope s__law_atom) .none kV doc pm an cdv ct) ⟨us, []⟩ = pure (pr__law_atom.zip us) :=
  match us, hl with
  | [_, _, _, _], _ => rfl
theorem hb__law_plain (kV doc pm : Value) (an : Option Addr) (cdv ct : Value) (us : List Value) (hl : us.length = pr__law_plain.length) : bindArgs (PySem.W.fnOf "_law_plain" "_law_plain" (defArgs s__law_plain) (defBody s__law_plain) (defScope s__law_plain) .none kV doc pm an cdv ct) ⟨us, []⟩ = pure (pr__law_plain.zip us) :=
  match us, hl with
  | [_, _, _, _, _], _ => rfl
theorem hb__law_like (kV doc pm : Value) (an : Option Addr) (cdv ct : Value) (us : List Value) (hl : us.length = pr__law_like.length) : bindArgs (PySem.W.fnOf "_law_like" "_law_like" (defArgs s__law_like) (defBody s__law_like) (defScope s__law_like) .none kV doc pm an cdv ct) ⟨us, []⟩ = pure (pr__law_like.zip us) :=
  match us, hl with
  | [_, _], _ => rfl
theorem hb__law_inside (kV doc pm : Value) (an : Option Addr) (cdv ct : Value) (us : List Value) (hl : us.length = pr__law_inside.length) : bindArgs (PySem.W.fnOf "_law_inside" "_law_inside" (defArgs s__law_inside) (defBody s__law_inside) (defScope s__law_inside) .none kV doc pm an cdv ct) ⟨us, []⟩ = pure (pr__law_inside.zip us) :=
  match us, hl with
  | [_], _ => rfl
theorem hb__law_parts (kV doc pm : Value) (an : Option Addr) (cdv ct : Value) (us : List Value) (hl : us.length = pr__law_parts.length) : bindArgs (PySem.W.fnOf "_law_parts" "_law_parts" (defArgs s__law_parts) (defBody s__law_parts) (defScope s__law_parts) .none kV doc pm an cdv ct) ⟨us, []⟩ = pure (pr__law_parts.zip us) :=
  match us, hl with
  | [_, _], _ => rfl
theorem hb__law_deep (kV doc pm : Value) (an : Option Addr) (cdv ct : Value) (us : List Value) (hl : us.length = pr__law_deep.length) : bindArgs (PySem.W.fnOf "_law_deep" "_law_deep" (defArgs s__law_deep) (defBody s__law_deep) (defScope s__law_deep) .none kV doc pm an cdv ct) ⟨us, []⟩ = pure (pr__law_deep.zip us) :=
  match us, hl with
  | [_], _ => rfl
theorem hb__law_put_at (kV doc pm : Value) (an : Option Addr) (cdv ct : Value) (us : List Value) (hl : us.length = pr__law_put_at.length) : bindArgs (PySem.W.fnOf "_law_put_at" "_law_put_at" (defArgs s__law_put_at) (defBody s__law_put_at) (defScope s__law_put_at) .none kV doc pm an cdv ct) ⟨us, []⟩ = pure (pr__law_put_at.zip us) :=
  match us, hl with
  | [_, _, _], _ => rfl
theorem hb__law_bound (kV doc pm : Value) (an : Option Addr) (cdv ct : Value) (us : List Value) (hl : us.length = pr__law_bound.length) : bindArgs (PySem.W.fnOf "_law_bound" "_law_bound" (defArgs s__law_bound) (defBody s__law_bound) (defScope s__law_bound) .none kV doc pm an cdv ct) ⟨us, []⟩ = pure (pr__law_bound.zip us) :=
  match us, hl with
  | [_, _, _, _], _ => rfl
theorem hb__law_minus (kV doc pm : Value) (an : Option Addr) (cdv ct : Value) (us : List Value) (hl : us.length = pr__law_minus.length) : bindArgs (PySem.W.fnOf "_law_minus" "_law_minus" (defArgs s__law_minus) (defBody s__law_minus) (defScope s__law_minus) .none kV doc pm an cdv ct) ⟨us, []⟩ = pure (pr__law_minus.zip us) :=
  match us, hl with
  | [_, _], _ => rfl
theorem hb__law_inward (kV doc pm : Value) (an : Option Addr) (cdv ct : Value) (us : List Value) (hl : us.length = pr__law_inward.length) : bindArgs (PySem.W.fnOf "_law_inward" "_law_inward" (defArgs s__law_inward) (defBody s__law_inward) (defScope s__law_inward) .none kV doc pm an cdv ct) ⟨us, []⟩ = pure (pr__law_inward.zip us) :=
  match us, hl with
  | [_, _], _ => rfl
theorem hb__law_caught (kV doc pm : Value) (an : Option Addr) (cdv ct : Value) (us : List Value) (hl : us.length = pr__law_caught.length) : bindArgs (PySem.W.fnOf "_law_caught" "_law_caught" (defArgs s__law_caught) (defBody s__law_caught) (defScope s__law_caught) .none kV doc pm an cdv ct) ⟨us, []⟩ = pure (pr__law_caught.zip us) :=
  match us, hl with
  | [_], _ => rfl
theorem hb__law_made (kV doc pm : Value) (an : Option Addr) (cdv ct : Value) (us : List Value) (hl : us.length = pr__law_made.length) : bindArgs (PySem.W.fnOf "_law_made" "_law_made" (defArgs s__law_made) (defBody s__law_made) (defScope s__law_made) .none kV doc pm an cdv ct) ⟨us, []⟩ = pure (pr__law_made.zip us) :=
  match us, hl with
  | [_], _ => rfl
theorem hb__law_ahead (kV doc pm : Value) (an : Option Addr) (cdv ct : Value) (us : List Value) (hl : us.length = pr__law_ahead.length) : bindArgs (PySem.W.fnOf "_law_ahead" "_law_ahead" (defArgs s__law_ahead) (defBody s__law_ahead) (defScope s__law_ahead) .none kV doc pm an cdv ct) ⟨us, []⟩ = pure (pr__law_ahead.zip us) :=
  match us, hl with
  | [_], _ => rfl
theorem hb__law_formula (kV doc pm : Value) (an : Option Addr) (cdv ct : Value) (us : List Value) (hl : us.length = pr__law_formula.length) : bindArgs (PySem.W.fnOf "_law_formula" "_law_formula" (defArgs s__law_formula) (defBody s__law_formula) (defScope s__law_formula) .none kV doc pm an cdv ct) ⟨us, []⟩ = pure (pr__law_formula.zip us) :=
  match us, hl with
  | [_], _ => rfl
theorem hb__law_many_parts (kV doc pm : Value) (an : Option Addr) (cdv ct : Value) (us : List Value) (hl : us.length = pr__law_many_parts.length) : bindArgs (PySem.W.fnOf "_law_many_parts" "_law_many_parts" (defArgs s__law_many_parts) (defBody s__law_many_parts) (defScope s__law_many_parts) .none kV doc pm an cdv ct) ⟨us, []⟩ = pure (pr__law_many_parts.zip us) :=
  match us, hl with
  | [_], _ => rfl
theorem hb_law (kV doc pm : Value) (an : Option Addr) (cdv ct : Value) (us : List Value) (hl : us.length = pr_law.length) : bindArgs (PySem.W.fnOf "law" "law" (defArgs s_law) (defBody s_law) (defScope s_law) .none kV doc pm an cdv ct) ⟨us, []⟩ = pure (pr_law.zip us) :=
  match us, hl with
  | [_], _ => rfl
abbrev s_BF : Stmt := inClass (top 2) 0
theorem sc_BF : FnScope ["self", "path"] ["self", "path"] (defScope s_BF) := ⟨rfl, rfl, rfl, by decide +kernel, rfl, by decide +kernel, by decide +kernel⟩
theorem hb_BF (kV doc pm : Value) (an : Option Addr) (cdv ct : Value) (us : List Value) (hl : us.length = (["self", "path"] : List Str).length) : bindArgs (PySem.W.fnOf "__init__" "BadFormula.__init__" (defArgs s_BF) (defBody s_BF) (defScope s_BF) .none kV doc pm an cdv ct) ⟨us, []⟩ = pure ((["self", "path"] : List Str).zip us) :=
  match us, hl with
  | [_, _], _ => rfl
abbrev s_TG : Stmt := inClass (top 3) 0
theorem sc_TG : FnScope ["self", "most"] ["self", "most"] (defScope s_TG) := ⟨rfl, rfl, rfl, by decide +kernel, rfl, by decide +kernel, by decide +kernel⟩
theorem hb_TG (kV doc pm : Value) (an : Option Addr) (cdv ct : Value) (us : List Value) (hl : us.length = (["self", "most"] : List Str).length) : bindArgs (PySem.W.fnOf "__init__" "TooGreat.__init__" (defArgs s_TG) (defBody s_TG) (defScope s_TG) .none kV doc pm an cdv ct) ⟨us, []⟩ = pure ((["self", "most"] : List Str).zip us) :=
  match us, hl with
  | [_, _], _ => rfl
section
variable {P : Program} {w : World} {K : PySem.W.Frag} {mg : Str → Option Value} {base : Heap} {SE BF TG : Addr}
theorem ok_BF {fI : Addr} {fd : FuncData} (T : ErT K mg "BadFormula" "path" "BadFormula.__init__" s_BF BF fI fd) : ErC P w K mg base "BadFormula" "path" BF := T.ok sc_BF fun cdv A outer s H E => pss_one (ps_ost (pv 0) (pv 1))
theorem ok_TG {fI : Addr} {fd : FuncData} (T : ErT K mg "TooGreat" "most" "TooGreat.__init__" s_TG TG fI fd) : ErC P w K mg base "TooGreat" "most" TG := T.ok sc_TG fun cdv A outer s H E => pss_one (ps_ost (pv 0) (pv 1))
structure DAll (K : PySem.W.Frag) (mg : Str → Option Value) : Prop where
  is_integer : Dt K mg "is_integer" s_is_integer pr_is_integer
  is_between : Dt K mg "is_between" s_is_between pr_is_between
  is_tuple_of : Dt K mg "is_tuple_of" s_is_tuple_of pr_is_tuple_of
  is_name : Dt K mg "is_name" s_is_name pr_is_name
  is_factor : Dt K mg "is_factor" s_is_factor pr_is_factor
  is_pair_of_name : Dt K mg "is_pair_of_name" s_is_pair_of_name pr_is_pair_of_name
  is_term : Dt K mg "is_term" s_is_term pr_is_term
  has_form : Dt K mg "has_form" s_has_form pr_has_form
  inner : Dt K mg "inner" s_inner pr_inner
  walked : Dt K mg "walked" s_walked pr_walked
  rebuilt : Dt K mg "rebuilt" s_rebuilt pr_rebuilt
  gathered : Dt K mg "gathered" s_gathered pr_gathered
  multiplied : Dt K mg "multiplied" s_multiplied pr_multiplied
  need_formula : Dt K mg "need_formula" s_need_formula pr_need_formula
  is_inward : Dt K mg "is_inward" s_is_inward pr_is_inward
  inward : Dt K mg "inward" s_inward pr_inward
  negated : Dt K mg "negated" s_negated pr_negated
  led_inward : Dt K mg "led_inward" s_led_inward pr_led_inward
  contrary : Dt K mg "contrary" s_contrary pr_contrary
  moved : Dt K mg "moved" s_moved pr_moved
  _law_mixed : Dt K mg "_law_mixed" s__law_mixed pr__law_mixed
  _law_begin : Dt K mg "_law_begin" s__law_begin pr__law_begin
  _law_draw : Dt K mg "_law_draw" s__law_draw pr__law_draw
  _law_of : Dt K mg "_law_of" s__law_of pr__law_of
  _law_term : Dt K mg "_law_term" s__law_term pr__law_term
  _law_atom : Dt K mg "_law_atom" s__law_atom pr__law_atom
  _law_plain : Dt K mg "_law_plain" s__law_plain pr__law_plain
  _law_like : Dt K mg "_law_like" s__law_like pr__law_like
  _law_inside : Dt K mg "_law_inside" s__law_inside pr__law_inside
  _law_parts : Dt K mg "_law_parts" s__law_parts pr__law_parts
  _law_deep : Dt K mg "_law_deep" s__law_deep pr__law_deep
  _law_put_at : Dt K mg "_law_put_at" s__law_put_at pr__law_put_at
  _law_bound : Dt K mg "_law_bound" s__law_bound pr__law_bound
  _law_minus : Dt K mg "_law_minus" s__law_minus pr__law_minus
  _law_inward : Dt K mg "_law_inward" s__law_inward pr__law_inward
  _law_caught : Dt K mg "_law_caught" s__law_caught pr__law_caught
  _law_made : Dt K mg "_law_made" s__law_made pr__law_made
  _law_ahead : Dt K mg "_law_ahead" s__law_ahead pr__law_ahead
  _law_formula : Dt K mg "_law_formula" s__law_formula pr__law_formula
def lamN (x : Str) : Str := x ++ (".<locals>." : Str) ++ ("<lambda>" : Str)
theorem all_ok (B : Bl mg) (C0 : Cs0 mg) (C3 : Cs3 K w mg) (T : ErS P w K mg base BF TG) (SX : Ex2 K mg SE BF TG) (D : DAll K mg) {cm cl tm tl : Addr} (h1 : tm ≠ tl)
    (TM : TabB base mg cm tm) (TL : TabB base mg cl tl) (DM : DtC K mg "_law_many_parts" s__law_many_parts pr__law_many_parts cm)
    {f : Addr} {oc : Value} {od : Option Addr} {kV doc pm : Value} {an : Option Addr} {ct : Value} {osl : Array (Option Value)} (lk : K.lookup f = some ⟨oc, od, .func (PySem.W.fnOf "law" "law" (defArgs s_law) (defBody s_law) (defScope s_law) .none kV doc pm an (.ref cl) ct), osl⟩) (hcd : PySem.W.codeIn K (.ref cl) "law" = true) :
    FnOkG P w K mg base CX0 32 f (PySem.W.fnOf "law" "law" (defArgs s_law) (defBody s_law) (defScope s_law) .none kV doc pm an (.ref cl) ct) pr_law (spLaw K [(tm, lamN "_law_many_parts"), (tl, lamN "law")]) := by
  have u1 : ∀ p ∈ [(tm, lamN "_law_many_parts"), (tl, lamN "law")], p.1 = tm → p.2 = lamN "_law_many_parts" := fun p hp e => by
    simp only [List.mem_cons, List.not_mem_nil, or_false] at hp
    rcases hp with rfl | rfl
    · rfl
    · exact absurd e.symm h1
  have u2 : ∀ p ∈ [(tm, lamN "_law_many_parts"), (tl, lamN "law")], p.1 = tl → p.2 = lamN "law" := fun p hp e => by
    simp only [List.mem_cons, List.not_mem_nil, or_false] at hp
    rcases hp with rfl | rfl
    · exact absurd e h1
    · rfl
  have m1 : (tm, lamN "_law_many_parts") ∈ [(tm, lamN "_law_many_parts"), (tl, lamN "law")] := List.mem_cons_self ..
  have m2 : (tl, lamN "law") ∈ [(tm, lamN "_law_many_parts"), (tl, lamN "law")] := List.mem_cons_of_mem _ (List.mem_cons_self ..)
  generalize [(tm, lamN "_law_many_parts"), (tl, lamN "law")] = TS at u1 u2 m1 m2 ⊢
  have is_integer : Df P w K mg base CX0 1 "is_integer" pr_is_integer (spIsInteger K) := ok_is_integer B D.is_integer
  have is_between : Df P w K mg base CX0 2 "is_between" pr_is_between (spIsBetween K) := ok_is_between B is_integer D.is_between
  have is_tuple_of : Df P w K mg base CX0 1 "is_tuple_of" pr_is_tuple_of (spIsTupleOf K) := ok_is_tuple_of B D.is_tuple_of
  have is_name : Df P w K mg base CX0 3 "is_name" pr_is_name (spIsName K) := ok_is_name is_between D.is_name
  have is_factor : Df P w K mg base CX0 3 "is_factor" pr_is_factor (spIsFactor K) := ok_is_factor C0 is_between D.is_factor
  have is_pair : Df P w K mg base CX0 4 "is_pair_of_name" pr_is_pair_of_name (spIsPair K) := ok_is_pair is_tuple_of is_name is_factor D.is_pair_of_name
  have is_term : Df P w K mg base CX0 5 "is_term" pr_is_term (spIsTerm K) := ok_is_term B is_tuple_of is_factor is_pair D.is_term
  have multiplied : Df P w K mg base CX0 1 "multiplied" pr_multiplied (spMultiplied K) := ok_multiplied B D.multiplied
  have gathered : Df P w K mg base (L2.CX P w) 3 "gathered" pr_gathered (spGathered K TG) := ok_gathered B C0 T D.gathered
  have has_form : Df P w K mg base CX0 6 "has_form" pr_has_form (spHasForm K) := ok_has_form B C3 is_term is_between is_name D.has_form
  have inner : Df P w K mg base CX0 1 "inner" pr_inner (spInner K) := ok_inner B C3 D.inner
  have need : Df P w K mg base (L2.CX P w) 7 "need_formula" pr_need_formula (spNeedF K BF TG) := ok_need_formula B C3 T has_form inner D.need_formula
  have moved : Df P w K mg base (L2.CX P w) 4 "moved" pr_moved (spMoved K TG) := ok_moved multiplied gathered D.moved
  have rebuilt : Df P w K mg base CX0 1 "rebuilt" pr_rebuilt (spRebuilt K) := ok_rebuilt B C3 D.rebuilt
  have both : ∀ n, Df P w K mg base (L2.CX P w) (5 + n) "led_inward" pr_led_inward (spLed n K TG false) ∧ Df P w K mg base (L2.CX P w) (5 + n) "contrary" pr_contrary (spLed n K TG true) := fun n => by
    induction n with
    | zero => exact ⟨led0 D.led_inward, con0 D.contrary⟩
    | succ n ih => exact ⟨ok_led C3 ih.1 ih.2 inner rebuilt D.led_inward, ok_con C3 ih.1 ih.2 inner rebuilt moved D.contrary⟩
  have walked : Df P w K mg base CX0 2 "walked" pr_walked (spWalked K) := ok_walked B inner D.walked
  have is_inward : Df P w K mg base (L2.CX P w) 8 "is_inward" pr_is_inward (spIsInw K BF TG) := ok_is_inward B need walked D.is_inward
  have inward : Df P w K mg base (L2.CX P w) 28 "inward" pr_inward (spInw 20 K BF TG false) := ok_inward need (both 20).1 D.inward
  have negated : Df P w K mg base (L2.CX P w) 28 "negated" pr_negated (spInw 20 K BF TG true) := ok_negated need (both 20).2 D.negated
  have mixed : Df P w K mg base CX0 1 "_law_mixed" pr__law_mixed spMixed := ok_mixed B D._law_mixed
  have draw : Df P w K mg base CX0 2 "_law_draw" pr__law_draw spDrawW := ok_draw B mixed D._law_draw
  have like : DfG P w K mg base CX0 1 "_law_like" pr__law_like (spLike K) := ok_like B D._law_like
  have begin_ : Df P w K mg base CX0 1 "_law_begin" pr__law_begin (spBegin K) := ok_begin B D._law_begin
  have of_ : Df P w K mg base CX0 3 "_law_of" pr__law_of spOf := ok_of B draw D._law_of
  have term : Df P w K mg base CX0 3 "_law_term" pr__law_term (spTermL K) := ok_termL B draw D._law_term
  have atom : Df P w K mg base CX0 4 "_law_atom" pr__law_atom (spAtomL K) := ok_atomL B draw term D._law_atom
  have plain : ∀ n, Df P w K mg base CX0 (4 + n) "_law_plain" pr__law_plain (spPlainL n K) := fun n => by
    induction n with
    | zero => exact plain0 D._law_plain
    | succ n ih => exact ok_plainL B draw atom ih D._law_plain
  have bound : ∀ n, Df P w K mg base CX0 (7 + n) "_law_bound" pr__law_bound (spBoundL n K) := fun n => by
    induction n with
    | zero => exact bound0 D._law_bound
    | succ n ih => exact ok_boundL B draw (plain 3) of_ ih D._law_bound
  have inside : Df P w K mg base CX0 1 "_law_inside" pr__law_inside (spInside K) := ok_inside B D._law_inside
  have parts : ∀ n, Df P w K mg base CX0 (2 + n) "_law_parts" pr__law_parts (spParts n K) := fun n => by
    induction n with
    | zero => exact parts0 D._law_parts
    | succ n ih => exact ok_parts B inside ih D._law_parts
  have deep : ∀ n, Df P w K mg base CX0 (2 + n) "_law_deep" pr__law_deep (spDeep n K) := fun n => by
    induction n with
    | zero => exact deep0 D._law_deep
    | succ n ih => exact ok_deep B inside ih D._law_deep
  have putat : ∀ n, Df P w K mg base CX0 (2 + n) "_law_put_at" pr__law_put_at (spPutAt n K) := fun n => by
    induction n with
    | zero => exact put0 D._law_put_at
    | succ n ih => exact ok_put_at B ih D._law_put_at
  have minus : Df P w K mg base CX0 1 "_law_minus" pr__law_minus (spMinusL K) := ok_minusL B D._law_minus
  have inw : ∀ n, Df P w K mg base CX0 (2 + n) "_law_inward" pr__law_inward (spInwL n K) := fun n => by
    induction n with
    | zero => exact inwL0 D._law_inward
    | succ n ih => exact ok_inwL B minus ih D._law_inward
  have made : Df P w K mg base CX0 25 "_law_made" pr__law_made (spMade K) := ok_made B (parts 22) (deep 22) D._law_made
  have ahead : Df P w K mg base CX0 25 "_law_ahead" pr__law_ahead (spAheadL K) := ok_aheadL B (parts 22) D._law_ahead
  have formula : Df P w K mg base CX0 25 "_law_formula" pr__law_formula (spFormulaL K) := ok_formulaL B draw (bound 4) (parts 22) of_ (putat 22) (deep 22) D._law_formula
  have many : DfG P w K mg base CX0 31 "_law_many_parts" pr__law_many_parts (spMany TS) := ok_many B T SX D._law_caught TM m1 u1 draw (inw 22) inward negated like DM
  exact ok_law B T SX D._law_caught TL m2 u2 begin_ formula (inw 22) made inward negated is_inward ahead of_ (parts 22) (putat 22) many like lk hcd
/-! ### what the top has written -/
variable {h : Heap}
theorem lit_int {x : Str} {i : Int} (y : ∃ v, mg x = some v ∧ PySem.W.ReadsLit h v (.int i) []) : ∃ t, mg x = some (.int i t) := by
  obtain ⟨v, e, r⟩ := y
  cases r
  exact ⟨_, e⟩
theorem Bl.mk' (X : K.In h) (G : h.Ns mainGlobals mg) (z1 : PySem.W.nsIn K mainGlobals "isinstance" = some none) (z2 : PySem.W.nsIn K mainGlobals "int" = some none) (z3 : PySem.W.nsIn K mainGlobals "bool" = some none) (z4 : PySem.W.nsIn K mainGlobals "tuple" = some none) (z5 : PySem.W.nsIn K mainGlobals "list" = some none) (z6 : PySem.W.nsIn K mainGlobals "str" = some none) (z7 : PySem.W.nsIn K mainGlobals "len" = some none) (z8 : PySem.W.nsIn K mainGlobals "all" = some none) (z9 : PySem.W.nsIn K mainGlobals "any" = some none) (z10 : PySem.W.nsIn K mainGlobals "sum" = some none) (z11 : PySem.W.nsIn K mainGlobals "max" = some none) (z12 : PySem.W.nsIn K mainGlobals "min" = some none) (z13 : PySem.W.nsIn K mainGlobals "range" = some none) (z14 : PySem.W.nsIn K mainGlobals "enumerate" = some none) (z15 : PySem.W.nsIn K mainGlobals "repr" = some none) (z16 : PySem.W.nsIn K mainGlobals "abs" = some none) (z17 : PySem.W.nsIn K mainGlobals "sorted" = some none) (z18 : PySem.W.nsIn K mainGlobals "zip" = some none) (z19 : PySem.W.nsIn K mainGlobals "reversed" = some none) : Bl mg :=
  have m := fun {x : Str} (z : PySem.W.nsIn K mainGlobals x = some none) => PySem.W.mg_none_of X G z
  ⟨m z1, m z2, m z3, m z4, m z5, m z6, m z7, m z8, m z9, m z10, m z11, m z12, m z13, m z14, m z15, m z16, m z17, m z18, m z19⟩
theorem Cs0.mk' (y1 : ∃ v, mg "MOST_FACTOR" = some v ∧ PySem.W.ReadsLit h v (.int (10 ^ 9)) []) : Cs0 mg := ⟨lit_int y1⟩
theorem sq_k {a : Addr} {its : Array Value} {n : Nat} {xs : List V} {od : Option Addr} {sl : Array (Option Value)} (l : K.lookup a = some ⟨.type "tuple", od, .seq its n, sl⟩) (h1 : its.size ≤ sizeLine) (h2 : Vals xs its.toList) : ∀ H, SqT K H a xs := fun H => .inr ⟨_, its, n, l, rfl, rfl, h1, h2⟩
theorem vals_strs {t : Tok} {x : Str} : RelV (.str x) (.str x t) := ⟨_, rfl⟩
theorem Cs3.mk' {a b c d : Addr} {od1 od2 od3 : Option Addr} {sl1 sl2 sl3 : Array (Option Value)} {n1 n2 n3 n : Nat} {es : Array DictEntry} {t1 t2 t3 t4 t5 t6 t7 t8 t9 u1 u2 u3 u4 : Tok} (X : K.In h) (G : h.Ns mainGlobals mg)
    (y0 : ∃ v, mg "MOST_MODULUS" = some v ∧ PySem.W.ReadsLit h v (.int (10 ^ 6)) [])
    (y1 : PySem.W.nsIn K mainGlobals "ATOMS" = some (some (.ref a))) (l1 : K.lookup a = some ⟨.type "tuple", od1, .seq #[.str "ge" t1, .str "eq" t2, .str "mod" t3] n1, sl1⟩)
    (y2 : PySem.W.nsIn K mainGlobals "LISTS" = some (some (.ref b))) (l2 : K.lookup b = some ⟨.type "tuple", od2, .seq #[.str "and" t4, .str "or" t5] n2, sl2⟩)
    (y3 : PySem.W.nsIn K mainGlobals "BINDERS" = some (some (.ref c))) (l3 : K.lookup c = some ⟨.type "tuple", od3, .seq #[.str "some" t6, .str "all" t7] n3, sl3⟩)
    (y4 : PySem.W.nsIn K mainGlobals "CONTRARY" = some (some (.ref d))) (l4 : K.lookup d = some ⟨.type "dict", none, .dict es n, #[]⟩) (kl : PySem.W.KeysLit w.params es.toList)
    (v1 : PySem.W.nsIn K d "and" = some (some (.str "or" u1))) (v2 : PySem.W.nsIn K d "or" = some (some (.str "and" u2))) (v3 : PySem.W.nsIn K d "some" = some (some (.str "all" u3))) (v4 : PySem.W.nsIn K d "all" = some (some (.str "some" u4)))
    (y5 : PySem.W.nsIn K mainGlobals "MOST_DEEP" = some (some (.int 20 t8))) (y6 : PySem.W.nsIn K mainGlobals "MOST_PARTS" = some (some (.int 2000 t9))) : Cs3 K w mg where
  ATOMS := ⟨a, PySem.W.mg_of X G y1, sq_k l1 (Nat.le_of_ble_eq_true rfl) (.cons vals_strs (.cons vals_strs (.cons vals_strs .nil)))⟩
  LISTS := ⟨b, PySem.W.mg_of X G y2, sq_k l2 (Nat.le_of_ble_eq_true rfl) (.cons vals_strs (.cons vals_strs .nil))⟩
  BINDERS := ⟨c, PySem.W.mg_of X G y3, sq_k l3 (Nat.le_of_ble_eq_true rfl) (.cons vals_strs (.cons vals_strs .nil))⟩
  CONTRARY := ⟨d, PySem.W.mg_of X G y4, ⟨es, n, _, l4, kl, v1, _, rfl⟩, ⟨es, n, _, l4, kl, v2, _, rfl⟩, ⟨es, n, _, l4, kl, v3, _, rfl⟩, ⟨es, n, _, l4, kl, v4, _, rfl⟩⟩
  MOST_MODULUS := lit_int y0
  MOST_DEEP := ⟨_, PySem.W.mg_of X G y5⟩
  MOST_PARTS := ⟨_, PySem.W.mg_of X G y6⟩
theorem kit_of {S c : Addr} (h2 : PySem.W.isClsIn K S = true) (h3 : PySem.W.typeIn K (.ref S) = some (.type "type")) (h4 : PySem.W.subIn K (.ref c) (.ref S) = some true) : PySem.W.kitOne K (.ref c) (.ref S) = some true := by
  have e2 : ((PySem.W.clsIn K S).isSome && PySem.W.typeIn K (.ref S) == some (.type "type")) = true := by
    have h2' : (PySem.W.clsIn K S).isSome = true := h2
    rw [h2', h3] <;> rfl
  unfold PySem.W.kitOne
  split
  · rfl
  · show (if ((PySem.W.clsIn K S).isSome && PySem.W.typeIn K (.ref S) == some (.type "type")) = true then PySem.W.subIn K (.ref c) (.ref S) else none) = some true
    rw [if_pos e2]
    exact h4
theorem Ex2.mk' (X : K.In h) (G : h.Ns mainGlobals mg) (_m1 : mg "BadFormula" = some (.ref BF)) (_m2 : mg "TooGreat" = some (.ref TG)) (s1 : PySem.W.nsIn K mainGlobals "SayError" = some (some (.ref SE))) (s3 : PySem.W.isClsIn K SE = true) (s4 : PySem.W.typeIn K (.ref SE) = some (.type "type"))
    (x0 : ExcC K BF) (x1 : ExcC K TG) (s5 : PySem.W.subIn K (.ref BF) (.ref SE) = some true) (s6 : PySem.W.subIn K (.ref TG) (.ref SE) = some true)
    (b2 : PySem.W.isClsIn K BF = true) (b3 : PySem.W.typeIn K (.ref BF) = some (.type "type")) (b4 : PySem.W.subIn K (.ref BF) (.ref BF) = some true) (b5 : PySem.W.subIn K (.ref TG) (.ref BF) = some false)
    (t2 : PySem.W.isClsIn K TG = true) (t3 : PySem.W.typeIn K (.ref TG) = some (.type "type")) (t4 : PySem.W.subIn K (.ref TG) (.ref TG) = some true) : Ex2 K mg SE BF TG := by
  refine ⟨PySem.W.mg_of X G s1, fun i hi => ?_, fun i hi => ?_, fun i j hij hi => ?_⟩
  · match i, hi with
    | 0, _ => exact x0
    | 1, _ => exact x1
  · match i, hi with
    | 0, _ => exact kit_of s3 s4 s5
    | 1, _ => exact kit_of s3 s4 s6
  · match i, j, hij, hi with
    | 0, 0, _, _ => exact exm_of x0.hs b2 b3 b4
    | 1, 0, _, _ => exact exm_of x0.hs b2 b3 b5
    | 1, 1, _, _ => exact exm_of x1.hs t2 t3 t4
/-- a def whose code object is at c, with the table at t -/
structure AtC (K : PySem.W.Frag) (mg : Str → Option Value) (x : Str) (st : Stmt) (f c t : Addr) : Prop where
  ex : ∃ (oc : Value) (od : Option Addr) (kV doc pm : Value) (an : Option Addr) (ct : Value) (osl : Array (Option Value)) (e : Value) (dd : Option Addr) (vs : Array Value) (sl : Array (Option Value)), K.lookup f = some ⟨oc, od, .func (PySem.W.fnOf x x (defArgs st) (defBody st) (defScope st) .none kV doc pm an (.ref c) ct), osl⟩ ∧ K.lookup c = some ⟨e, dd, .fields vs, sl⟩ ∧ vs[11]? = some (.ref t)
  code : PySem.W.codeIn K (.ref c) x = true
  keep : PySem.W.keepIn K (.ref f) = true
  at_ : mg x = some (.ref f)
  hd : PySem.W.codeHdIn K c t = true
  no : K.lookup t = none
theorem AtC.mk' {x : Str} {st : Stmt} {f c t : Addr} {oc : Value} {od : Option Addr} {kV doc pm : Value} {an : Option Addr} {ct : Value} {osl : Array (Option Value)} {e : Value} {dd : Option Addr} {vs : Array Value} {sl : Array (Option Value)} (X : K.In h) (G : h.Ns mainGlobals mg) (a : PySem.W.nsIn K mainGlobals x = some (some (.ref f)))
    (l : K.lookup f = some ⟨oc, od, .func (PySem.W.fnOf x x (defArgs st) (defBody st) (defScope st) .none kV doc pm an (.ref c) ct), osl⟩) (l2 : K.lookup c = some ⟨e, dd, .fields vs, sl⟩) (v : vs[11]? = some (.ref t)) (cd : PySem.W.codeIn K (.ref c) x = true) (kp : PySem.W.keepIn K (.ref f) = true) (hd : PySem.W.codeHdIn K c t = true) (no : K.lookup t = none) : AtC K mg x st f c t :=
  ⟨⟨oc, od, kV, doc, pm, an, ct, osl, e, dd, vs, sl, l, l2, v⟩, cd, kp, PySem.W.mg_of X G a, hd, no⟩
theorem AtC.dtC {x : Str} {st : Stmt} {ps : List Str} {f c t : Addr} (A : AtC K mg x st f c t)
    (hb : ∀ (kV doc pm : Value) (an : Option Addr) (cdv ct : Value) (us : List Value), us.length = ps.length → bindArgs (PySem.W.fnOf x x (defArgs st) (defBody st) (defScope st) .none kV doc pm an cdv ct) ⟨us, []⟩ = pure (ps.zip us)) : DtC K mg x st ps c := by
  obtain ⟨oc, od, kV, doc, pm, an, ct, osl, e, dd, vs, sl, l, l2, v⟩ := A.ex
  exact ⟨f, oc, od, kV, doc, pm, an, ct, osl, l, A.code, A.keep, A.at_, (fun_mk l A.code A.keep).binds hb⟩
theorem AtC.tab {x : Str} {st : Stmt} {f c t : Addr} (A : AtC K mg x st f c t) (own : OwnTab K f h) : h.get? t = some tab0 := by
  obtain ⟨oc, od, kV, doc, pm, an, ct, osl, e, dd, vs, sl, l, l2, v⟩ := A.ex
  exact own c t _ _ e dd vs sl l rfl rfl l2 v
theorem fin {l : PySem.W.OpenLaw} {q : Program} {fa f fm cm cl tm tl : Addr} {fB fT : Addr} {fdB fdT : FuncData} (X : K.In h) (G : h.Ns mainGlobals mg) (hmg : mg "law" = some (.ref fa))
    (own : ∀ (y : Str) (g : Addr), ((recsOf q).any fun e => e.name == y) = true → mg y = some (.ref g) → OwnTab K g h)
    (q1 : ((recsOf q).any fun e => e.name == "_law_many_parts") = true) (q3 : ((recsOf q).any fun e => e.name == "law") = true)
    (AM : AtC K mg "_law_many_parts" s__law_many_parts fm cm tm) (AL : AtC K mg "law" s_law f cl tl) (h1 : tm ≠ tl)
    (B : Bl mg) (C0 : Cs0 mg) (C3 : Cs3 K w mg) (EB : ErT K mg "BadFormula" "path" "BadFormula.__init__" s_BF BF fB fdB) (ET : ErT K mg "TooGreat" "most" "TooGreat.__init__" s_TG TG fT fdT) (SX : Ex2 K mg SE BF TG) (D : DAll K mg) :
    ∃ (fd : FuncData) (cs : List (Addr × Addr)) (sp : Sp), (∀ p ∈ cs, h.get? p.2 = some tab0) ∧ (∀ p ∈ cs, K.lookup p.2 = none) ∧ (∀ p ∈ cs, PySem.W.CodeHd h p.1 p.2) ∧ (∀ (s : Shared) (u : Value), BindsTo s fd ⟨[u], []⟩ [("script", u)]) ∧
        (∀ (H : Hp) (a : Addr) (ns : List Int), ns.length ≤ 63 → (∀ p ∈ cs, H p.2 = some (.tbl #[])) → SqL K H a (ns.map V.int) → sp [.ref a] H (fun v _ => v = .bl true) fun _ _ _ => False) ∧
        ∀ base : Heap, K.In base → base.Ns mainGlobals mg → (∀ p ∈ cs, TabB base mg p.1 p.2) → FnOkG l.prog w K mg base CX0 32 fa fd ["script"] sp := by
  obtain rfl : fa = f := Value.ref.inj (Option.some.inj (hmg.symm.trans AL.at_))
  have tm0 := AM.tab (own _ _ q1 AM.at_)
  have tl0 := AL.tab (own _ _ q3 AL.at_)
  obtain ⟨oc, od, kV, doc, pm, an, ct, osl, e, dd, vs, sl, l1, l2, v⟩ := AL.ex
  have all2 : ∀ {Pp : Addr × Addr → Prop}, Pp (cm, tm) → Pp (cl, tl) → ∀ p ∈ [(cm, tm), (cl, tl)], Pp p := fun a b p hp => by
    simp only [List.mem_cons, List.not_mem_nil, or_false] at hp
    rcases hp with rfl | rfl
    · exact a
    · exact b
  refine ⟨_, [(cm, tm), (cl, tl)], spLaw K [(tm, lamN "_law_many_parts"), (tl, lamN "law")], all2 tm0 tl0, all2 AM.no AL.no, all2 (PySem.W.codeHd_of_K X AM.hd) (PySem.W.codeHd_of_K X AL.hd),
    fun s u => .of_eq (hb_law kV doc pm an (.ref cl) ct [u] rfl), fun H a ns hl hH hS => ⟨a, ns, rfl, hS, by omega, ?_, fun _ => rfl⟩, fun base Kb Gb TB => ?_⟩
  · have t1 : H tm = some (.tbl #[]) := hH (cm, tm) (List.mem_cons_self ..)
    have t3 : H tl = some (.tbl #[]) := hH (cl, tl) (List.mem_cons_of_mem _ (List.mem_cons_self ..))
    intro p hp
    simp only [List.mem_cons, List.not_mem_nil, or_false] at hp
    rcases hp with rfl | rfl
    · exact TabS.nil t1
    · exact TabS.nil t3
  · exact all_ok B C0 C3 ⟨ok_BF EB, ok_TG ET⟩ SX D h1 (TB (cm, tm) (List.mem_cons_self ..)) (TB (cl, tl) (List.mem_cons_of_mem _ (List.mem_cons_self ..))) (AM.dtC hb__law_many_parts) l1 AL.code
end
end Ws
open PySem PySem.W PyProof.Rows
set_option maxRecDepth 100000 in
set_option maxHeartbeats 0 in
theorem PySem.Challenge.cw_wholesay_k03_nots_driven_inward_holds : PySem.Challenge.rw_wholesay_k03_nots_driven_inward.Holds := by
  w_on; o_law; k_head; (case hw => w_witness2)
  k_fill
  refine Ws.walkGT (l := PySem.Challenge.rw_wholesay_k03_nots_driven_inward) (n := 63) (k := 32) (x := "script") rfl (by decide) rfl ⟨rfl, by decide, by decide⟩ (fun w h Y => PySem.W.km_in_of Y) ?F
  case F =>
    intro w mg fa h KX G hX hmg own
    refine' (fun D_is_integer => ?rD0) (Ws.Dt.mk' (x := "is_integer") (st := Ws.s_is_integer) (ps := Ws.pr_is_integer) KX G ?a0 ?l0 ?c0 ?k0 Ws.hb_is_integer)
    case' a0 => k_is
    case' l0 => k_is
    case' c0 => k_is
    case' k0 => k_is
    refine' (fun D_is_between => ?rD1) (Ws.Dt.mk' (x := "is_between") (st := Ws.s_is_between) (ps := Ws.pr_is_between) KX G ?a1 ?l1 ?c1 ?k1 Ws.hb_is_between)
    case' a1 => k_is
    case' l1 => k_is
    case' c1 => k_is
    case' k1 => k_is
    refine' (fun D_is_tuple_of => ?rD2) (Ws.Dt.mk' (x := "is_tuple_of") (st := Ws.s_is_tuple_of) (ps := Ws.pr_is_tuple_of) KX G ?a2 ?l2 ?c2 ?k2 Ws.hb_is_tuple_of)
    case' a2 => k_is
    case' l2 => k_is
    case' c2 => k_is
    case' k2 => k_is
    refine' (fun D_is_name => ?rD3) (Ws.Dt.mk' (x := "is_name") (st := Ws.s_is_name) (ps := Ws.pr_is_name) KX G ?a3 ?l3 ?c3 ?k3 Ws.hb_is_name)
    case' a3 => k_is
    case' l3 => k_is
    case' c3 => k_is
    case' k3 => k_is
    refine' (fun D_is_factor => ?rD4) (Ws.Dt.mk' (x := "is_factor") (st := Ws.s_is_factor) (ps := Ws.pr_is_factor) KX G ?a4 ?l4 ?c4 ?k4 Ws.hb_is_factor)
    case' a4 => k_is
    case' l4 => k_is
    case' c4 => k_is
    case' k4 => k_is
    refine' (fun D_is_pair_of_name => ?rD5) (Ws.Dt.mk' (x := "is_pair_of_name") (st := Ws.s_is_pair_of_name) (ps := Ws.pr_is_pair_of_name) KX G ?a5 ?l5 ?c5 ?k5 Ws.hb_is_pair_of_name)
    case' a5 => k_is
    case' l5 => k_is
    case' c5 => k_is
    case' k5 => k_is
    refine' (fun D_is_term => ?rD6) (Ws.Dt.mk' (x := "is_term") (st := Ws.s_is_term) (ps := Ws.pr_is_term) KX G ?a6 ?l6 ?c6 ?k6 Ws.hb_is_term)
    case' a6 => k_is
    case' l6 => k_is
    case' c6 => k_is
    case' k6 => k_is
    refine' (fun D_has_form => ?rD7) (Ws.Dt.mk' (x := "has_form") (st := Ws.s_has_form) (ps := Ws.pr_has_form) KX G ?a7 ?l7 ?c7 ?k7 Ws.hb_has_form)
    case' a7 => k_is
    case' l7 => k_is
    case' c7 => k_is
    case' k7 => k_is
    refine' (fun D_inner => ?rD8) (Ws.Dt.mk' (x := "inner") (st := Ws.s_inner) (ps := Ws.pr_inner) KX G ?a8 ?l8 ?c8 ?k8 Ws.hb_inner)
    case' a8 => k_is
    case' l8 => k_is
    case' c8 => k_is
    case' k8 => k_is
    refine' (fun D_walked => ?rD9) (Ws.Dt.mk' (x := "walked") (st := Ws.s_walked) (ps := Ws.pr_walked) KX G ?a9 ?l9 ?c9 ?k9 Ws.hb_walked)
    case' a9 => k_is
    case' l9 => k_is
    case' c9 => k_is
    case' k9 => k_is
    refine' (fun D_rebuilt => ?rD10) (Ws.Dt.mk' (x := "rebuilt") (st := Ws.s_rebuilt) (ps := Ws.pr_rebuilt) KX G ?a10 ?l10 ?c10 ?k10 Ws.hb_rebuilt)
    case' a10 => k_is
    case' l10 => k_is
    case' c10 => k_is
    case' k10 => k_is
    refine' (fun D_gathered => ?rD11) (Ws.Dt.mk' (x := "gathered") (st := Ws.s_gathered) (ps := Ws.pr_gathered) KX G ?a11 ?l11 ?c11 ?k11 Ws.hb_gathered)
    case' a11 => k_is
    case' l11 => k_is
    case' c11 => k_is
    case' k11 => k_is
    refine' (fun D_multiplied => ?rD12) (Ws.Dt.mk' (x := "multiplied") (st := Ws.s_multiplied) (ps := Ws.pr_multiplied) KX G ?a12 ?l12 ?c12 ?k12 Ws.hb_multiplied)
    case' a12 => k_is
    case' l12 => k_is
    case' c12 => k_is
    case' k12 => k_is
    refine' (fun D_need_formula => ?rD13) (Ws.Dt.mk' (x := "need_formula") (st := Ws.s_need_formula) (ps := Ws.pr_need_formula) KX G ?a13 ?l13 ?c13 ?k13 Ws.hb_need_formula)
    case' a13 => k_is
    case' l13 => k_is
    case' c13 => k_is
    case' k13 => k_is
    refine' (fun D_is_inward => ?rD14) (Ws.Dt.mk' (x := "is_inward") (st := Ws.s_is_inward) (ps := Ws.pr_is_inward) KX G ?a14 ?l14 ?c14 ?k14 Ws.hb_is_inward)
    case' a14 => k_is
    case' l14 => k_is
    case' c14 => k_is
    case' k14 => k_is
    refine' (fun D_inward => ?rD15) (Ws.Dt.mk' (x := "inward") (st := Ws.s_inward) (ps := Ws.pr_inward) KX G ?a15 ?l15 ?c15 ?k15 Ws.hb_inward)
    case' a15 => k_is
    case' l15 => k_is
    case' c15 => k_is
    case' k15 => k_is
    refine' (fun D_negated => ?rD16) (Ws.Dt.mk' (x := "negated") (st := Ws.s_negated) (ps := Ws.pr_negated) KX G ?a16 ?l16 ?c16 ?k16 Ws.hb_negated)
    case' a16 => k_is
    case' l16 => k_is
    case' c16 => k_is
    case' k16 => k_is
    refine' (fun D_led_inward => ?rD17) (Ws.Dt.mk' (x := "led_inward") (st := Ws.s_led_inward) (ps := Ws.pr_led_inward) KX G ?a17 ?l17 ?c17 ?k17 Ws.hb_led_inward)
    case' a17 => k_is
    case' l17 => k_is
    case' c17 => k_is
    case' k17 => k_is
    refine' (fun D_contrary => ?rD18) (Ws.Dt.mk' (x := "contrary") (st := Ws.s_contrary) (ps := Ws.pr_contrary) KX G ?a18 ?l18 ?c18 ?k18 Ws.hb_contrary)
    case' a18 => k_is
    case' l18 => k_is
    case' c18 => k_is
    case' k18 => k_is
    refine' (fun D_moved => ?rD19) (Ws.Dt.mk' (x := "moved") (st := Ws.s_moved) (ps := Ws.pr_moved) KX G ?a19 ?l19 ?c19 ?k19 Ws.hb_moved)
    case' a19 => k_is
    case' l19 => k_is
    case' c19 => k_is
    case' k19 => k_is
    refine' (fun D__law_mixed => ?rD20) (Ws.Dt.mk' (x := "_law_mixed") (st := Ws.s__law_mixed) (ps := Ws.pr__law_mixed) KX G ?a20 ?l20 ?c20 ?k20 Ws.hb__law_mixed)
    case' a20 => k_is
    case' l20 => k_is
    case' c20 => k_is
    case' k20 => k_is
    refine' (fun D__law_begin => ?rD21) (Ws.Dt.mk' (x := "_law_begin") (st := Ws.s__law_begin) (ps := Ws.pr__law_begin) KX G ?a21 ?l21 ?c21 ?k21 Ws.hb__law_begin)
    case' a21 => k_is
    case' l21 => k_is
    case' c21 => k_is
    case' k21 => k_is
    refine' (fun D__law_draw => ?rD22) (Ws.Dt.mk' (x := "_law_draw") (st := Ws.s__law_draw) (ps := Ws.pr__law_draw) KX G ?a22 ?l22 ?c22 ?k22 Ws.hb__law_draw)
    case' a22 => k_is
    case' l22 => k_is
    case' c22 => k_is
    case' k22 => k_is
    refine' (fun D__law_of => ?rD23) (Ws.Dt.mk' (x := "_law_of") (st := Ws.s__law_of) (ps := Ws.pr__law_of) KX G ?a23 ?l23 ?c23 ?k23 Ws.hb__law_of)
    case' a23 => k_is
    case' l23 => k_is
    case' c23 => k_is
    case' k23 => k_is
    refine' (fun D__law_term => ?rD24) (Ws.Dt.mk' (x := "_law_term") (st := Ws.s__law_term) (ps := Ws.pr__law_term) KX G ?a24 ?l24 ?c24 ?k24 Ws.hb__law_term)
    case' a24 => k_is
    case' l24 => k_is
    case' c24 => k_is
    case' k24 => k_is
    refine' (fun D__law_atom => ?rD25) (Ws.Dt.mk' (x := "_law_atom") (st := Ws.s__law_atom) (ps := Ws.pr__law_atom) KX G ?a25 ?l25 ?c25 ?k25 Ws.hb__law_atom)
    case' a25 => k_is
    case' l25 => k_is
    case' c25 => k_is
    case' k25 => k_is
    refine' (fun D__law_plain => ?rD26) (Ws.Dt.mk' (x := "_law_plain") (st := Ws.s__law_plain) (ps := Ws.pr__law_plain) KX G ?a26 ?l26 ?c26 ?k26 Ws.hb__law_plain)
    case' a26 => k_is
    case' l26 => k_is
    case' c26 => k_is
    case' k26 => k_is
    refine' (fun D__law_like => ?rD27) (Ws.Dt.mk' (x := "_law_like") (st := Ws.s__law_like) (ps := Ws.pr__law_like) KX G ?a27 ?l27 ?c27 ?k27 Ws.hb__law_like)
    case' a27 => k_is
    case' l27 => k_is
    case' c27 => k_is
    case' k27 => k_is
    refine' (fun D__law_inside => ?rD28) (Ws.Dt.mk' (x := "_law_inside") (st := Ws.s__law_inside) (ps := Ws.pr__law_inside) KX G ?a28 ?l28 ?c28 ?k28 Ws.hb__law_inside)
    case' a28 => k_is
    case' l28 => k_is
    case' c28 => k_is
    case' k28 => k_is
    refine' (fun D__law_parts => ?rD29) (Ws.Dt.mk' (x := "_law_parts") (st := Ws.s__law_parts) (ps := Ws.pr__law_parts) KX G ?a29 ?l29 ?c29 ?k29 Ws.hb__law_parts)
    case' a29 => k_is
    case' l29 => k_is
    case' c29 => k_is
    case' k29 => k_is
    refine' (fun D__law_deep => ?rD30) (Ws.Dt.mk' (x := "_law_deep") (st := Ws.s__law_deep) (ps := Ws.pr__law_deep) KX G ?a30 ?l30 ?c30 ?k30 Ws.hb__law_deep)
    case' a30 => k_is
    case' l30 => k_is
    case' c30 => k_is
    case' k30 => k_is
    refine' (fun D__law_put_at => ?rD31) (Ws.Dt.mk' (x := "_law_put_at") (st := Ws.s__law_put_at) (ps := Ws.pr__law_put_at) KX G ?a31 ?l31 ?c31 ?k31 Ws.hb__law_put_at)
    case' a31 => k_is
    case' l31 => k_is
    case' c31 => k_is
    case' k31 => k_is
    refine' (fun D__law_bound => ?rD32) (Ws.Dt.mk' (x := "_law_bound") (st := Ws.s__law_bound) (ps := Ws.pr__law_bound) KX G ?a32 ?l32 ?c32 ?k32 Ws.hb__law_bound)
    case' a32 => k_is
    case' l32 => k_is
    case' c32 => k_is
    case' k32 => k_is
    refine' (fun D__law_minus => ?rD33) (Ws.Dt.mk' (x := "_law_minus") (st := Ws.s__law_minus) (ps := Ws.pr__law_minus) KX G ?a33 ?l33 ?c33 ?k33 Ws.hb__law_minus)
    case' a33 => k_is
    case' l33 => k_is
    case' c33 => k_is
    case' k33 => k_is
    refine' (fun D__law_inward => ?rD34) (Ws.Dt.mk' (x := "_law_inward") (st := Ws.s__law_inward) (ps := Ws.pr__law_inward) KX G ?a34 ?l34 ?c34 ?k34 Ws.hb__law_inward)
    case' a34 => k_is
    case' l34 => k_is
    case' c34 => k_is
    case' k34 => k_is
    refine' (fun D__law_caught => ?rD35) (Ws.Dt.mk' (x := "_law_caught") (st := Ws.s__law_caught) (ps := Ws.pr__law_caught) KX G ?a35 ?l35 ?c35 ?k35 Ws.hb__law_caught)
    case' a35 => k_is
    case' l35 => k_is
    case' c35 => k_is
    case' k35 => k_is
    refine' (fun D__law_made => ?rD36) (Ws.Dt.mk' (x := "_law_made") (st := Ws.s__law_made) (ps := Ws.pr__law_made) KX G ?a36 ?l36 ?c36 ?k36 Ws.hb__law_made)
    case' a36 => k_is
    case' l36 => k_is
    case' c36 => k_is
    case' k36 => k_is
    refine' (fun D__law_ahead => ?rD37) (Ws.Dt.mk' (x := "_law_ahead") (st := Ws.s__law_ahead) (ps := Ws.pr__law_ahead) KX G ?a37 ?l37 ?c37 ?k37 Ws.hb__law_ahead)
    case' a37 => k_is
    case' l37 => k_is
    case' c37 => k_is
    case' k37 => k_is
    refine' (fun D__law_formula => ?rD38) (Ws.Dt.mk' (x := "_law_formula") (st := Ws.s__law_formula) (ps := Ws.pr__law_formula) KX G ?a38 ?l38 ?c38 ?k38 Ws.hb__law_formula)
    case' a38 => k_is
    case' l38 => k_is
    case' c38 => k_is
    case' k38 => k_is
    refine' (fun A__law_many_parts => ?rA0) (Ws.AtC.mk' (x := "_law_many_parts") (st := Ws.s__law_many_parts) KX G ?Aa0 ?Al0 ?Am0 ?Av0 ?Ac0 ?Ak0 ?Ah0 ?An0)
    case' Aa0 => k_is
    case' Al0 => k_is
    case' Am0 => k_is
    case' Av0 => rfl
    case' Ac0 => k_is
    case' Ak0 => k_is
    case' Ah0 => kernel_rfl
    case' An0 => kernel_rfl
    refine' (fun A_law => ?rA1) (Ws.AtC.mk' (x := "law") (st := Ws.s_law) KX G ?Aa1 ?Al1 ?Am1 ?Av1 ?Ac1 ?Ak1 ?Ah1 ?An1)
    case' Aa1 => k_is
    case' Al1 => k_is
    case' Am1 => k_is
    case' Av1 => rfl
    case' Ac1 => k_is
    case' Ak1 => k_is
    case' Ah1 => kernel_rfl
    case' An1 => kernel_rfl
    refine' (fun E_BF => ?rEBF) (Ws.ErT.mk' (x := "BadFormula") (f := "path") (q := "BadFormula.__init__") (st := Ws.s_BF) KX G ?eaCBF ?exLBF ?ervBF ?esaBF ?egaBF ?eggBF ?enbBF ?ea1BF ?et1BF ?el1BF ?ec1BF ?ek1BF ?ekCBF ?eeCBF ?etCBF ?ehCBF Ws.hb_BF)
    case' eaCBF => k_is
    case' exLBF => k_is
    case' ervBF => decide +kernel
    case' esaBF => k_is
    case' egaBF => k_is
    case' eggBF => k_is
    case' enbBF => k_is
    case' ea1BF => k_is
    case' et1BF => k_is
    case' el1BF => k_is
    case' ec1BF => k_is
    case' ek1BF => k_is
    case' ekCBF => k_is
    case' eeCBF => k_is
    case' etCBF => k_is
    case' ehCBF => k_is
    refine' (fun E_TG => ?rETG) (Ws.ErT.mk' (x := "TooGreat") (f := "most") (q := "TooGreat.__init__") (st := Ws.s_TG) KX G ?eaCTG ?exLTG ?ervTG ?esaTG ?egaTG ?eggTG ?enbTG ?ea1TG ?et1TG ?el1TG ?ec1TG ?ek1TG ?ekCTG ?eeCTG ?etCTG ?ehCTG Ws.hb_TG)
    case' eaCTG => k_is
    case' exLTG => k_is
    case' ervTG => decide +kernel
    case' esaTG => k_is
    case' egaTG => k_is
    case' eggTG => k_is
    case' enbTG => k_is
    case' ea1TG => k_is
    case' et1TG => k_is
    case' el1TG => k_is
    case' ec1TG => k_is
    case' ek1TG => k_is
    case' ekCTG => k_is
    case' eeCTG => k_is
    case' etCTG => k_is
    case' ehCTG => k_is
    refine' (fun X_ => ?rX) (Ws.Ex2.mk' KX G E_BF.mgC E_TG.mgC ?xs1 ?xs3 ?xs4 ⟨?xq0, ?xq1, ?xq2, ?xq3, ?xq4, ?xq5, ?xq6, ?xq7⟩ ⟨?xr0, ?xr1, ?xr2, ?xr3, ?xr4, ?xr5, ?xr6, ?xr7⟩ ?xs5 ?xs6 ?xb2 ?xb3 ?xb4 ?xb5 ?xt2 ?xt3 ?xt4)
    case' xs1 => k_is
    case' xs3 => k_is
    case' xs4 => k_is
    case' xq0 => k_is
    case' xq1 => k_is
    case' xq2 => k_is
    case' xq3 => k_is
    case' xq4 => k_is
    case' xq5 => k_is
    case' xq6 => k_is
    case' xq7 => k_is
    case' xr0 => k_is
    case' xr1 => k_is
    case' xr2 => k_is
    case' xr3 => k_is
    case' xr4 => k_is
    case' xr5 => k_is
    case' xr6 => k_is
    case' xr7 => k_is
    case' xs5 => k_is
    case' xs6 => k_is
    case' xb2 => k_is
    case' xb3 => k_is
    case' xb4 => k_is
    case' xb5 => k_is
    case' xt2 => k_is
    case' xt3 => k_is
    case' xt4 => k_is
    refine' (fun B_ => ?rB) (Ws.Bl.mk' KX G ?z1 ?z2 ?z3 ?z4 ?z5 ?z6 ?z7 ?z8 ?z9 ?z10 ?z11 ?z12 ?z13 ?z14 ?z15 ?z16 ?z17 ?z18 ?z19)
    case' z1 => k_is
    case' z2 => k_is
    case' z3 => k_is
    case' z4 => k_is
    case' z5 => k_is
    case' z6 => k_is
    case' z7 => k_is
    case' z8 => k_is
    case' z9 => k_is
    case' z10 => k_is
    case' z11 => k_is
    case' z12 => k_is
    case' z13 => k_is
    case' z14 => k_is
    case' z15 => k_is
    case' z16 => k_is
    case' z17 => k_is
    case' z18 => k_is
    case' z19 => k_is
    refine' (fun C0_ => ?rC0) (Ws.Cs0.mk' (h := h) ?y0)
    case' y0 => exact hX.2.val _ (List.mem_cons_self ..)
    refine' (fun C3_ => ?rC3) (Ws.Cs3.mk' (w := w) KX G ?w0 ?w1 ?m1 ?w2 ?m2 ?w3 ?m3 ?w4 ?m4 ?kl ?v1 ?v2 ?v3 ?v4 ?w5 ?w6)
    case' w0 => exact hX.2.val _ (List.mem_cons_of_mem _ (List.mem_cons_self ..))
    case' w1 => k_is
    case' m1 => k_is
    case' w2 => k_is
    case' m2 => k_is
    case' w3 => k_is
    case' m3 => k_is
    case' w4 => k_is
    case' m4 => k_is
    case' kl => exact ⟨⟨_, _, rfl, rfl⟩, ⟨_, _, rfl, rfl⟩, ⟨_, _, rfl, rfl⟩, ⟨_, _, rfl, rfl⟩, trivial⟩
    case' v1 => k_is
    case' v2 => k_is
    case' v3 => k_is
    case' v4 => k_is
    case' w5 => k_is
    case' w6 => k_is
    exact Ws.fin KX G hmg own (by decide +kernel) (by decide +kernel) A__law_many_parts A_law (by decide) B_ C0_ C3_ E_BF E_TG X_ ⟨D_is_integer, D_is_between, D_is_tuple_of, D_is_name, D_is_factor, D_is_pair_of_name, D_is_term, D_has_form, D_inner, D_walked, D_rebuilt, D_gathered, D_multiplied, D_need_formula, D_is_inward, D_inward, D_negated, D_led_inward, D_contrary, D_moved, D__law_mixed, D__law_begin, D__law_draw, D__law_of, D__law_term, D__law_atom, D__law_plain, D__law_like, D__law_inside, D__law_parts, D__law_deep, D__law_put_at, D__law_bound, D__law_minus, D__law_inward, D__law_caught, D__law_made, D__law_ahead, D__law_formula⟩
