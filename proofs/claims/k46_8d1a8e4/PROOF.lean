import PyProof.Rows.All
import Wide.All
import OpenK.AllK
import Wide.FinOn
import KE.GoesMore
import HandS.ForExc
import HandS.ForMost
import HandS.IsInst
import HandS.Walk
import HandS.TupMul
import HandS.TupAny
import HandS.Style
import HandS.ExcInit
import HandS.ExcField
import HandS.TryMany
import HandS.Wide
import HandS.WideBits
import HandS.SortKw
import KE.DataMinMax
import HandS.ExcIs
import HandS.TryOnly
import HandS.WordsExc
import HandS.ExcOwn
import HandS.Ends
import HandS.Lambda
import HandS.Deep
import HandS.SetFor
import HandS.DictComp
import HandS.Conv
import KE.DataAny
import KE.DataFind
import KE.DataEq
import KE.KTupSum
import HandS.Zip
import HandS.More
import HandS.Defaults
import KE.GoesZip
import KE.DataCmp
import PySem.Challenge.RW_wholesay_k46_whole_least_ways
set_option Elab.async false
set_option linter.all false
set_option maxRecDepth 100000
set_option maxHeartbeats 2000000
/-! ## Wa -/
/-! enumerate over a tuple -/
namespace Ws
open PySem PySem.Spec PyProof.Rows L2
open AutoSeq1 (wpAny_loadPart')
theorem meets_enum_newT (l : Addr) (items : Array Value) (n : Nat) (dct : Option Addr) (sl : Array (Option Value)) :
    Meets (Builtin.«enumerate.__new__» ⟨[.type "enumerate", .ref l], []⟩) (fun _ R s => s.heap.get? l = some { cls := .type "tuple", dict := dct, data := .seq items n, slots := sl } ∧
      R (.ok (.ret (.ref (s.heap.push { cls := .type "tuple_iterator", data := .fields #[.ref l, .int 0 0] }).objs.size)))
        { s with heap := (s.heap.push { cls := .type "tuple_iterator", data := .fields #[.ref l, .int 0 0] }).push { cls := .type "enumerate", data := .fields #[.none, .bool false, .ref s.heap.objs.size, rawInt 0, .none, .none] } }) :=
  .of_wp fun prog w A R s h => by
    obtain ⟨hp, g, d, tk, os⟩ := s; obtain ⟨hl, h⟩ := h
    have hsub := sub_enumerate
    have hL : Heap.IsTuple (Shared.heap ⟨hp, g, d, tk, os⟩) l items := ⟨_, hl, rfl, n, rfl⟩
    wp_walk using wpAny_loadPart' hl
    refine wpAny_stack_any fun st => wpAny_pure ?_
    split
    · rename_i c _ _ _ _ _
      cases (c == Value.type "enumerate")
      · wp_walk using wpAny_loadPart' hl, wpAny_pyIter_tuple hL
        exact ⟨_, rfl, h⟩
      · wp_walk using wpAny_loadPart' hl, wpAny_pyIter_tuple hL
        exact ⟨_, rfl, h⟩
    · wp_walk using wpAny_loadPart' hl, wpAny_pyIter_tuple hL
      exact ⟨_, rfl, h⟩
section
variable {prog : Program} {w : World} {A : Around} {E : Value → Shared → Prop} {s : Shared}
theorem call_enum_tup {l : Addr} {items : Array Value} {Q : Value → Shared → Prop} (hL : s.heap.IsTuple l items)
    (h : ∀ h', IsEnum h' (s.heap.objs.size + 1) s.heap.objs.size 0 .none → h'.IsTupleIter s.heap.objs.size l 0 → h'.objs.size = s.heap.objs.size + 2 →
      (∀ b o, s.heap.get? b = some o → h'.get? b = some o) → Q (.ref (s.heap.objs.size + 1)) { s with heap := h' }) :
    wpAny (model prog w) A (call (.type "enumerate") [.ref l]) Q E s := by
  obtain ⟨⟨c, dct, dt, sl⟩, hl, hc, n, hd⟩ := hL
  replace hc : c = .type "tuple" := hc
  replace hd : dt = .seq items n := hd
  subst hc hd
  refine callType_new F.called_enumerate (by decide) (F.typeCall_enumerate_1 _) (F.newCall_enumerate_1 _) (fun obj => F.args_object_init_2 obj _) F.entry_enumerate_new
    (meets_enum_newT l items n dct sl) ⟨hl, ?_⟩
  have hz : (s.heap.push { cls := .type "tuple_iterator", data := .fields #[.ref l, .int 0 0] }).objs.size = s.heap.objs.size + 1 := Heap.size_push ..
  show _ ∧ _
  rw [hz]
  have he : IsEnum ((s.heap.push { cls := .type "tuple_iterator", data := .fields #[.ref l, .int 0 0] }).push
      { cls := .type "enumerate", data := .fields #[.none, .bool false, .ref s.heap.objs.size, rawInt 0, .none, .none] }) (s.heap.objs.size + 1) s.heap.objs.size 0 .none := by
    have := Heap.get?_push_size (s.heap.push { cls := .type "tuple_iterator", data := .fields #[.ref l, .int 0 0] })
      (o := { cls := .type "enumerate", data := .fields #[.none, .bool false, .ref s.heap.objs.size, rawInt 0, .none, .none] }) rfl
    rw [hz] at this; exact this
  refine ⟨⟨_, he, rfl⟩, h _ he ⟨_, Heap.get?_push_of_some _ (Heap.get?_push_size _ rfl), rfl, rfl⟩ (by rw [Heap.size_push, hz]) fun b o x => Heap.get?_push_of_some _ (Heap.get?_push_of_some _ x)⟩
end
/-- the tuple at a as it stands at each turn, each item in a new pair -/
def Iteu (K : PySem.W.Frag) (a : Addr) : It :=
  ⟨fun i H => ∃ (xs : List V) (x : V), SqT K H a xs ∧ xs[i]? = some x, fun i H v H' => ∃ T x, v = .ref T ∧ H T = none ∧ H' = upd H T (.tup [.int (i : Nat), x]) ∧ ∀ xs, SqT K H a xs → xs[i]? = some x, fun i H => ∃ xs : List V, SqT K H a xs ∧ xs.length ≤ i⟩
theorem turn_enumT {P : Program} {w : World} {K : PySem.W.Frag} {elts : List Expr} {kk : Nat} {tpos : Pos} (a e it : Addr) :
    Turn P w K (.Tuple elts kk tpos) (Iteu K a) [e, it] e (fun i h => (∃ old, IsEnum h e it ((i : Nat) : Int) old) ∧ h.IsTupleIter it a i ∧ e ≠ it) where
  mem := by simp
  obj := fun i h st b hb => by
    obtain ⟨⟨old, he⟩, ⟨o, ho, hc, hd⟩, _⟩ := st
    have e' : b = e ∨ b = it := by simpa using hb
    rcases e' with z | z
    · rw [z]; exact ⟨_, he, fun v q => nomatch q⟩
    · rw [z]; exact ⟨o, ho, fun v q => by rw [hd] at q; cases q⟩
  keep := fun i h h' st k => let ⟨⟨old, he⟩, hi, hne⟩ := st; ⟨⟨old, k e (by simp) _ he⟩, hi.at fun o q => k it (by simp) o q, hne⟩
  item := by
    intro X hP hw hK hc i pins s σ H E I hf st hg
    subst hP hw hK
    obtain ⟨⟨old, he⟩, hit, hne⟩ := st
    obtain ⟨xs, x, hq, hx⟩ := hg
    obtain ⟨its, rv, p, hz⟩ := I.tuple hq
    obtain ⟨u, hu, ru⟩ := rv.get hx
    have hel : e < s.heap.objs.size := Heap.lt_size he
    have hil : it < s.heap.objs.size := by obtain ⟨_, q, _⟩ := hit; exact Heap.lt_size q
    have hae : a ≠ e := fun z => by
      obtain ⟨o, q, _, n, d⟩ := p
      rw [z, he] at q; cases q; cases d
    have hai : a ≠ it := fun z => by
      obtain ⟨o, q, _, n, d⟩ := p
      obtain ⟨o2, q2, _, d2⟩ := hit
      rw [z, q2] at q; cases q; rw [d2] at d; cases d
    have hlen : i < its.toArray.size := by
      have := (List.getElem?_eq_some_iff.mp hu).1
      simpa using this
    refine wpAny_pyNext_enum_itemD (Draws.tuple (A := X.A.in1) (I.ok.hd hc) it a hai its.toArray) he ⟨hit, p⟩ hlen hne (by simp only [List.mem_cons, List.not_mem_nil, or_false, not_or]; exact ⟨hne, Ne.symm hae⟩) fun x' h' tk hP ho hit' hT hsz hk => ?_
    have ex : x' = u := by
      have q : its.toArray[i]? = some x' := hP
      have q2 : its.toArray[i]? = some u := by simpa using hu
      rw [q2] at q
      exact (Option.some.inj q).symm
    subst ex
    refine ⟨_, rfl, wpAny_letOwnedTupleGo_enum (s := { s with heap := h', toks := tk + 1 }) ho fun h'' he' sb => ?_⟩
    have hT2 : h''.get? s.heap.objs.size = some { cls := .type "tuple", data := .seq #[.int i tk, x'] } := (sb.2 _ (Nat.ne_of_gt hel)).trans hT
    have new : ObjOk X.prog X.w (upd H s.heap.objs.size (.tup [.int (i : Nat), x])) h'' s.heap.objs.size (.tup [.int (i : Nat), x]) :=
      ⟨by show 2 ≤ sizeLine; decide, [.int i tk, x'], .cons ⟨_, rfl⟩ (.cons ru .nil), ⟨_, hT2, rfl, _, rfl⟩⟩
    have I1 : Inv X pins σ (upd H s.heap.objs.size (.tup [.int (i : Nat), x])) { s with heap := h'', toks := tk + 1 } :=
      I.turnedNew (ch := [e, it]) (fun b ob hb q => (sb.2 b (fun z => hb (by simp [z]))).trans (hk b ob (fun z => hb (by simp [z])) (fun z => hb (by simp [z])) q)) hf (Nat.le_refl _) new
    refine ⟨.ref s.heap.objs.size, _, I1, rfl, ⟨_, x, rfl, I.hok.fresh (Nat.le_refl _), rfl, fun ys hy => by rw [I.tuple_inj hy hq]; exact hx⟩, ⟨⟨x', ?_⟩, hit'.1.at fun o q => (sb.2 it (Ne.symm hne)).trans q, hne⟩, fun b hb => ?_⟩
    · have e1 : ((i + 1 : Nat) : Int) = (i : Int) + 1 := by omega
      rw [e1]; exact he'
    · have hb' : b < s.heap.objs.size := by
        have e' : b = e ∨ b = it := by simpa using hb
        rcases e' with z | z
        · rw [z]; exact hel
        · rw [z]; exact hil
      rw [upd_ne (Nat.ne_of_lt hb')]
      exact (hf b hb).1
  done := by
    intro X hP hw hK hc i pins s σ H E I hf st hg
    subst hP hw hK
    obtain ⟨⟨old, he⟩, hit, hne⟩ := st
    obtain ⟨xs, hq, hx⟩ := hg
    obtain ⟨its, rv, p, hz⟩ := I.tuple hq
    obtain ⟨f0, f1, f2, f3, f4, f5⟩ := hf it (by simp)
    have hl := rv.length
    have hai : a ≠ it := fun z => by
      obtain ⟨o, q, _, n, d⟩ := p
      obtain ⟨o2, q2, _, d2⟩ := hit
      rw [z, q2] at q; cases q; rw [d2] at d; cases d
    have hT : s.TypeIs (.ref e) "enumerate" := ⟨_, he, rfl⟩
    unfold pyNext
    refine wpAny_bind (wpAny_attempt (wpAny_callSpecial?_slot (name := Str.ofString "__next__") hT F.slot_enumerate_next
      (wpAny_call_entry F.slot_enumerate_next hT F.entry_enumerate_next ?_ (F.args_enumerate_next_1 _))))
    show wpAny _ _ (field (.ref e) 2 >>= _) _ _ _
    refine wpAny_bind (wpAny_field he rfl (x := .ref it) rfl ?_)
    refine wpAny_bind (wpAny_nextOf_tuple_end (A := X.A.in1) (I.ok.hd hc) hit p (by simp; omega) fun h' x he' hx' => ?_)
    obtain ⟨o, ho, hc'⟩ := hx'
    refine wpAny_bind (wpAny_isInstance (T := "StopIteration") (b := true) ⟨o, ho, hc'⟩ isSubtype_stop ?_)
    exact wpAny_pure ⟨rfl, I.turned (t' := s.toks) (fun b o hb q => he' b o hb q) f0 f1 f3 f4 f5⟩
  self := fun A i s Q E st h => let ⟨⟨_, he⟩, _⟩ := st; wpAny_pyIter_enum he h
def iEnumT (K : PySem.W.Frag) (ta : TA) : TI := fun σ H R => ta σ H fun vs H1 => ∃ a xs, vs = [.ref a] ∧ SqT K H1 a xs ∧ R (Iteu K a) H1
theorem pi_enumT {X : Cx} {e : Expr} {ta : TA} {p pos tpos : Pos} {elts : List Expr} {kk : Nat} (hg : Gl X "enumerate") (hm : X.mg "enumerate" = none) (ha : PA X [e] ta) (hs : starEach [e] X.env = [(false, eval e X.env)] := by rfl) :
    PI X (.Tuple elts kk tpos) (.Call (.Name "enumerate" p) [e] [] pos) (iEnumT X.K ta) := by
  refine ⟨fun pins s σ H R I h => ?_⟩
  refine Call_ (ld_blt I hg hm boot_enumerate (PyProof.Rows.callWith_type1 (thn (ha.run pos pins s σ H _ I h) fun us s1 ⟨vs, H1, I1, r1, q1⟩ => ?_) hs rfl))
  obtain ⟨a, xs, ex, hq, q⟩ := q1
  subst ex
  cases r1 with
  | cons r rr =>
    cases rr
    cases r
    obtain ⟨its, rv, p', hz⟩ := I1.tuple hq
    refine call_enum_tup p' fun h' he hit hsz hk => wpAny_pyIter_enum he ?_
    have I2 : Inv X pins σ H1 { s1 with heap := h' } := I1.kept (t' := s1.toks) hk
    refine ⟨s1.heap.objs.size + 1, [s1.heap.objs.size + 1, s1.heap.objs.size], _, _, H1, rfl, I2, turn_enumT a (s1.heap.objs.size + 1) s1.heap.objs.size, ⟨⟨.none, he⟩, hit, Nat.succ_ne_self _⟩, fun b hb => ?_, q⟩
    have e' : b = s1.heap.objs.size + 1 ∨ b = s1.heap.objs.size := by simpa using hb
    have hle : s1.heap.objs.size ≤ b := by
      rcases e' with z | z
      · rw [z]; exact Nat.le_add_right _ _
      · rw [z]; exact Nat.le_refl _
    exact I1.fpOk hle (I1.hok.fresh hle)
theorem walk_enumT {K : PySem.W.Frag} {a : Addr} {xs : List V} : Walk (Iteu K a) xs.length (fun H => SqT K H a xs) (YPair (fun i => some (.int (i : Nat))) (fun i => xs[i]?)) := by
  refine ⟨fun i _ hi q => ⟨xs, xs[i], q, by simp [hi]⟩, fun _ q => ⟨xs, q, Nat.le_refl _⟩, fun i H v H' _ q y => ?_⟩
  obtain ⟨T, x, h1, h2, h3, h4⟩ := y
  exact ⟨T, .int (i : Nat), x, h1, h2, h3, rfl, h4 xs q⟩
end Ws
/-! ## Wb -/
namespace Ws
open PySem PySem.Spec PyProof.Rows L2
/-! ### defs that know that no guard runs around them (for repr) -/
structure FnOkG (P : Program) (w : World) (K : PySem.W.Frag) (mg : Str → Option Value) (base : Heap) (CX : CXT) (k : Nat) (f : Addr) (fd : FuncData) (ps : List Str) (sp : Sp) : Prop where
  len : ∀ vs H Q E, sp vs H Q E → vs.length = ps.length
  run : ∀ (A : Around) (outer : List Env) (s : Shared) (H : Hp) (args : Args) (us : List Value) (vs : List V) (Q : VK) (E : XK), A.guards = some [] → Room k A → Env0 P w K mg base A outer s H → BindsTo s fd args (ps.zip us) → Vals vs us → sp vs H Q E →
    codeAny (model P w) A (.call (.ref f) args) (CR CX outer P w H s Q E) s
theorem FnOkG.of {P : Program} {w : World} {K : PySem.W.Frag} {mg : Str → Option Value} {base : Heap} {CX : CXT} {k : Nat} {f : Addr} {fd : FuncData} {ps : List Str} {sp : Sp} (F : FnOk P w K mg base CX k f fd ps sp) : FnOkG P w K mg base CX k f fd ps sp :=
  ⟨F.len, fun A outer s H args us vs Q E _ hr he hb hv hs => F.run A outer s H args us vs Q E hr he hb hv hs⟩
theorem fn_ofG {CX : CXT} {P : Program} {w : World} {K : PySem.W.Frag} {mg : Str → Option Value} {base : Heap} {k : Nat} {f : Addr} {name qual : Str} {params : Arguments} {body : List Stmt} {scope : Scope} {dV kV doc pm cdv ct oc : Value} {an od : Option Addr}
    {osl : Array (Option Value)} {N ps : List Str} {sp : Sp} (lk : K.lookup f = some ⟨oc, od, .func (PySem.W.fnOf name qual params body scope dV kV doc pm an cdv ct), osl⟩) (hcd : PySem.W.codeIn K cdv qual = true) (S : FnScope N ps scope)
    (len : ∀ vs H Q E, sp vs H Q E → vs.length = ps.length)
    (hbody : ∀ (A : Around) (outer : List Env) (s : Shared) (H : Hp) (vs : List V) (Q : VK) (E : XK), A.guards = some [] → Room k (A.deeper (envOfC qual scope s.heap.objs.size f cdv)) → sp vs H Q E →
      ∃ t, PSs (cxOf CX P w K mg base N qual scope f cdv A outer s H E) body t ∧ t { nx := fun _ H' => Q .non H', rt := Q } (start N vs) H) :
    FnOkG P w K mg base CX (k + 1) f (PySem.W.fnOf name qual params body scope dV kV doc pm an cdv ct) ps sp := by
  refine ⟨len, fun A outer s H args us vs Q E hG hr e0 hb r hsp => ?_⟩
  have hl := len _ _ _ _ hsp
  have KX : K.In s.heap := e0.mod.kin.keeps fun b o e => (e0.bs b o e).1
  have lim : s.heap.NoLimit := e0.mod.nolimit.keeps fun b o e => (e0.bs b o e).1
  have hkind : ∀ y ∈ ps.zip us, scope.names.lookup y.1 = some .local ∨ (scope.names.lookup y.1 = some .cell ∧ ((cellsFrom (s.heap.objs.size + 1) scope.names []).lookup y.1).isSome = true) := fun ⟨n, v⟩ hy => by
    rcases S.par n (List.of_mem_zip hy).1 with q | q
    · exact .inl q
    · exact .inr ⟨q, PySem.W.cellsFrom_some _ _ _ (.inl q)⟩
  refine codeAny_call_function hr.depth (KX _ _ lk) rfl S.co S.gen rfl (PySem.W.codeRec_of KX hcd) (hb _ _ _ _ ?_)
  refine wpAny_newFunctionEnv_cells S.kind hkind fun env he s1 x => ?_
  subst he
  refine ⟨lim.keeps x.toInCall.keep, codeAny_func ?_⟩
  obtain ⟨t, ht, hq⟩ := hbody A outer s H vs Q E hG (hr.deeper _) hsp
  have I : Inv (cxOf CX P w K mg base N qual scope f cdv A outer s H E) [] (start N vs) H s1 := inv_start S hr.hd e0 hl r x
  refine wpAny_mono (ht.run [] s1 (start N vs) H _ I hq) (fun fl s' hs => ?_) fun e s' hs => hs
  have fin : ∀ {σ' : L2.St} {H' : Hp} {v : V} {u : Value}, Inv (cxOf CX P w K mg base N qual scope f cdv A outer s H E) [] σ' H' s' → RelV v u → Q v H' → CE outer P w H s Q u s' :=
    fun {σ' H' v u} J rv q => ⟨v, H', J.os, J.bare, J.base, J.hok, rv, q⟩
  cases fl with
  | ret u =>
    obtain ⟨v, σ', H', J, rv, q⟩ := hs
    exact fin J rv q
  | next =>
    obtain ⟨σ', H', J, q⟩ := hs
    exact fin (v := V.non) (u := Value.none) J rfl q
  | brk =>
    obtain ⟨_, _, _, q⟩ := hs
    exact False.elim q
  | cont =>
    obtain ⟨_, _, _, q⟩ := hs
    exact False.elim q
section
variable {X : Cx} {CX : CXT} {k : Nat} {f : Addr} {fd : FuncData} {ps : List Str} {sp : Sp} {E : XK} {x : Str} {p pos : Pos} {e : Expr} {es : List Expr} {t : TA}
theorem run_fnG {pins : List (Addr × Obj)} {σ : L2.St} {H : Hp} {s : Shared} {Q : VK} {us : List Value} {vs : List V} (F : FnOkG X.prog X.w X.K X.mg X.base CX k f fd ps sp) (hG : X.A.guards = some []) (hr : Room k X.A) (hb : Binds X.K fd ps []) (hx : Passes CX X E)
    (I : Inv X pins σ H s) (r : Vals vs us) (h : sp vs H Q E) : wpAny (model X.prog X.w) X.A (call (.ref f) us) (EP X pins σ Q) X.xe s := by
  have hl : (us ++ []).length = ps.length := by rw [List.append_nil, ← r.length]; exact F.len _ _ _ _ h
  refine wpAny_call (codeAny_mono (F.run X.A X.stack s H ⟨us, []⟩ us vs Q E hG hr I.env0 (by have := hb s us I.kIn hl; rw [List.append_nil] at this; exact this) r h) fun r s' hq => ?_)
  cases r with
  | error e => exact hx pins σ H s e s' I hq
  | ok fl =>
    cases fl with
    | ret u => exact I.after hq
    | next => exact False.elim hq
    | brk => exact False.elim hq
    | cont => exact False.elim hq
/-- f(..) without defaults -/
def tCa (sp : Sp) (E : XK) (t : TA) : TE := fun σ H Q => t σ H fun vs H1 => sp vs H1 Q E
theorem pe_callG (F : FnOkG X.prog X.w X.K X.mg X.base CX k f fd ps sp) (hG : X.A.guards = some []) (hr : Room k X.A) (hg : Gl X x) (hm : X.mg x = some (.ref f)) (hk : PySem.W.keepIn X.K (.ref f) = true) (hb : Binds X.K fd ps []) (hx : Passes CX X E)
    (ha : PA X (e :: es) t) (hdb : (x == ("__debug__" : Str)) = false := by decide) (he : starEach (e :: es) X.env = (false, eval e X.env) :: starEach es X.env := by rfl) (hpl : (backTo pos (starEach es X.env)).any (·.1) = false := by rfl) :
    PE X (.Call (.Name x p) (e :: es) [] pos) (tCa sp E t) := by
  refine ⟨fun pins s σ H Q I h => ?_⟩
  refine wpAny_Call_Name_kw (ld_glob I hg hm ?_ hdb)
  refine PySem.W.callWith_K (h₀ := X.base) I.ok.mod.kin hk (thn (ha.run pos pins s σ H _ I h) fun us s1 ⟨vs, H1, I1, r, q⟩ => ⟨I1.kIn, ?_⟩) he hpl
  exact run_fnG F hG hr hb hx I1 r q
end
/-! ### repr of data -/
theorem call_reprD {X : Cx} (hG : X.A.guards = some []) (hu : X.A.units + 64 < cLine) : CallR X (.builtin "repr") (fun xs H Q => ∃ v d, xs = [v] ∧ Dp X.K H v d ∧ d.showable = true ∧ d.hasDict = false ∧ d.depth ≤ 60 ∧ d.shown.length ≤ sizeLine ∧ Q (.str d.shown) H) := by
  intro pins s σ H xs us Q I r h
  obtain ⟨v, d, rfl, hd, h1, h2, h3, h4, q⟩ := h
  obtain ⟨u, rfl, ru⟩ := vals1 r
  cases hd with
  | non =>
    cases ru
    exact PySem.P.repr_of_none ⟨.str _, H, I.tok _, ⟨_, rfl⟩, q⟩
  | bl b =>
    cases ru
    exact PySem.P.repr_of_bool ⟨.str _, H, I.tok _, ⟨_, rfl⟩, q⟩
  | int i =>
    obtain ⟨t, rfl⟩ := ru
    exact PySem.P.repr_of_int (by simpa [PyData.showable] using h1) ⟨.str _, H, I.tok _, ⟨_, rfl⟩, q⟩
  | str x =>
    obtain ⟨t, rfl⟩ := ru
    exact PySem.P.repr_of_str ⟨.str _, H, I.tok _, ⟨_, rfl⟩, q⟩ h4
  | lst hs ha =>
    obtain ⟨as, rd⟩ := Dp.reads I _ _ u (.lst hs ha) ru
    cases ru
    exact repr_of_reads' rd h1 (PyData.noDict_hsm h2) hG (by omega) (fun _ _ e => e) (fun h' u tk hk => ⟨.str _, H, I.kept hk, ⟨_, rfl⟩, q⟩) h4
  | tup hs ha =>
    obtain ⟨as, rd⟩ := Dp.reads I _ _ u (.tup hs ha) ru
    cases ru
    exact repr_of_reads' rd h1 (PyData.noDict_hsm h2) hG (by omega) (fun _ _ e => e) (fun h' u tk hk => ⟨.str _, H, I.kept hk, ⟨_, rfl⟩, q⟩) h4
end Ws
/-! ## Wc -/
namespace Ws
open PySem PySem.Spec PyProof.Rows L2
/-! ### several except clauses that name their error, by one name in slot i -/
def suiteEnds (D : Ends) (i : Nat) : Ends := { nx := fun σ' H' => D.nx (σ'.set i none) H', rt := D.rt, bk := fun σ' H' => D.bk (σ'.set i none) H', ct := fun σ' H' => D.ct (σ'.set i none) H' }
def wManyA (K : PySem.W.Frag) (i : Nat) (Wout : WX) (D : Ends) : List (Value × (Addr → Value → Option Addr → TS)) → WX
  | [] => Wout
  | (c, ts) :: r => fun cls d σ H => ∃ b, PySem.W.exmOne K cls c = some b ∧ (b = true → ∀ a, H a = none → ts a cls d (suiteEnds D i) (σ.set i (some (.ref a))) H) ∧ (b = false → wManyA K i Wout D r cls d σ H)
inductive HdsA (X : Cx) (n : Str) : List ExceptHandler → List (Value × (Addr → Value → Option Addr → TS)) → Prop
  | nil : HdsA X n [] []
  | cons {x : Str} {c : Value} {ts : Addr → Value → Option Addr → TS} {b₀ : Stmt} {suite : List Stmt} {np pos' : Pos} {hds : List ExceptHandler} {l : List (Value × (Addr → Value → Option Addr → TS))} (hc : Names X x c)
      (hsu : ∀ (a : Addr) (oe : Obj) (cls : Value) (d : Option Addr) (pn : List (Addr × Obj)), Zc cls d oe → (∃ vs, oe.data = .fields vs) → PSs (X.suite a ((a, oe) :: pn)) (b₀ :: suite) (ts a cls d)) (r : HdsA X n hds l) :
      HdsA X n (.ExceptHandler (some (.Name x np)) (some n) (b₀ :: suite) pos' :: hds) ((c, ts) :: l)
section
variable {X : Cx} {n : Str} {i : Nat} {body : List Stmt} {h₀ : ExceptHandler} {hds : List ExceptHandler} {l : List (Value × (Addr → Value → Option Addr → TS))} {pos : Pos} {tb : WX → TS} {Wout : WX}
theorem ps_try_manyA (hs : X.stack = X.env :: X.outer) (hf : X.env.frame = some X.env.locals) (hN : X.N.Nodup) (hi : X.N[i]? = some n) (hln : X.env.kindOf n = some .local) (tk : Takes X Wout)
    (hb : ∀ (W : WX) (pn : List (Addr × Obj)) (xe : Value → Shared → Prop), Takes (X.tr pn xe) W → PassesOwn (model X.prog X.w) X.A X.env xe → PSs (X.tr pn xe) body (tb W))
    (hh : HdsA X n (h₀ :: hds) l) : PS X (.Try body (h₀ :: hds) [] [] pos) (fun D σ H => tb (wManyA X.K i Wout D l) D σ H) := by
  refine ⟨fun pins s σ H D I h => ?_⟩
  have ok := I.ok
  have hfr : X.A.frames = some (X.env :: X.outer) := by rw [ok.frames, hs]
  have hloc : Loc X.env.scope n := .inl hln
  refine wpAny_Try_except ?_
  refine wpAny_mono ((hb (wManyA X.K i Wout D l) (X.pn ++ pins) (fun e s₁ => wpAny (model X.prog X.w) X.A (noteFrame e X.env) (fun _ s₂ => wpAny (model X.prog X.w) X.A (setFlight e none) (fun _ s₃ =>
    wpAny (model X.prog X.w) X.A (handleBy e X.env (h₀ :: hds)) (SP X pins D) X.xe s₃) X.xe s₂) X.xe s₁) (fun u s' xx => ?_) PassesOwn.looking).run [] s σ H D (I.toTry _) h) (fun f s1 hsp => ?_) (fun e s1 he => he)
  · -- the catch
    obtain ⟨a, B, sI, pins', σ', H', cls, d, rfl, J', nb, up, sky, na, os, ag, w⟩ := xx
    have J : Inv X pins σ' H' sI := J'.ofTry ok
    have sky' : Sky B (X.env :: X.outer) a (Zc cls d) X.env.locals s'.heap := by rw [← hs]; exact sky
    show wpAny (model X.prog X.w) X.A (noteFrame (.ref a) X.env) _ _ _
    refine Sky.land Zc.steady hfr hf sky' fun h3 fl3 up3 => ?_
    have J3 : Inv X pins σ' H' { s' with heap := h3 } := J.landed nb fl3.1 (up.trans up3) os ag
    obtain ⟨oe3, vs3, he3, hz3, hd3⟩ := fl3.there
    have notFr : ∀ {h : Heap} {o : Obj} {vs : Array Value}, h.FunFrames B (X.env :: X.outer) → h.get? a = some o → o.data = .fields vs → a ∉ frs (X.env :: X.outer) := fun {h o vs} ff e dd hm => by
      obtain ⟨_, o', e', hnf⟩ := ff.mem hm
      rw [e] at e'; cases e'
      exact hnf _ dd
    have nfr := notFr fl3.2.2.1 he3 hd3
    have nL : a ≠ X.env.locals := fun z => nfr (List.mem_filterMap.mpr ⟨X.env, List.mem_cons_self, by rw [hf, z]⟩)
    have nF : a ∉ X.fs := fun hm => by
      obtain ⟨e, he, q⟩ := List.mem_filterMap.mp hm
      exact nfr (List.mem_filterMap.mpr ⟨e, List.mem_cons_of_mem _ he, q⟩)
    have S3 := J3.suite he3 hd3 na nL nF
    have go : ∀ {hds' : List ExceptHandler} {l' : List (Value × (Addr → Value → Option Addr → TS))}, HdsA X n hds' l' → wManyA X.K i Wout D l' cls d σ' H' →
        wpAny (model X.prog X.w) X.A (handleBy (.ref a) X.env hds') (SP X pins D) X.xe { s' with heap := h3 } := by
      intro hds' l' hk
      induction hk with
      | nil =>
        intro w
        refine wpAny_handleBy_nil ?_
        obtain ⟨k1, k2, k3, oe, vs, T, oT, ts', he, hz, hd, h1, hr⟩ := id fl3
        unfold PySem.passOn
        refine wpAny_bind (wpAny_field he hd h1 ?_)
        rw [if_neg (show ¬ ((Value.ref T == Value.none) = true) from by simp)]
        have fin : wpAny (model X.prog X.w) X.A (setFlight (.ref a) X.env.frame) (fun _ s4 => wpAny (model X.prog X.w) X.A (throw (.ref a) : Sem Flow) (SP X pins D) X.xe s4) X.xe { s' with heap := h3 } := by
          rw [hf]
          refine HandSPX.setFlight_upZ fl3 fun h4 hh4 up4 => wpAny_throw (tk _ _ ?_)
          exact ⟨a, B, sI, pins, σ', H', cls, d, rfl, J, nb, (up.trans up3).trans up4, .inr (.inr (by rw [hs]; exact hh4)), na, os, ag, w⟩
        first
          | exact wpAny_bind (wpAny_pure (wpAny_bind fin))
          | exact wpAny_bind fin
      | @cons x c ts b₀ suite np pos' hds2 l2 hc hsu r ih =>
        intro w
        obtain ⟨b, hb1, hyes, hno⟩ := w
        refine wpAny_handleBy_cons (codeAny_handlers_test ?_) (by intro q; cases q)
        have LT : PySem.W.Looks (model X.prog X.w) h3 (typeOf (.ref a)) cls := fun A Q E s k q => wpAny_typeOf_ref (k _ _ he3) (by rw [hz3.1]; exact q)
        have LM := PySem.W.exm_one (M := model X.prog X.w) (J3.kIn) LT hb1
        have test : ∀ {Q : Value → Shared → Prop} {E : Value → Shared → Prop}, Q c { s' with heap := h3 } → wpAny (model X.prog X.w) (X.A.mark (some (.ref a))) (eval (.Name x np) X.env) Q E { s' with heap := h3 } := fun {Q E} q => by
          obtain ⟨hg, hdbg, hm | ⟨hm, hv, hnn⟩⟩ := hc
          · exact ld_glob (X := X.suite a ((a, oe3) :: (X.pn ++ pins))) S3 hg hm q hdbg
          · exact ld_blt (X := X.suite a ((a, oe3) :: (X.pn ++ pins))) S3 hg hm hv q hnn hdbg
        refine test (LM.here ?_)
        cases b with
        | true =>
          refine codeAny_handlers_suite_as ?_
          refine HandSPX.lands_againZ fl3 fun h4 fl4 up4 => ?_
          have J4 : Inv X pins σ' H' { s' with heap := h4 } := J.landed nb fl4.1 ((up.trans up3).trans up4) os ag
          obtain ⟨oe4, vs4, he4, hz4, hd4⟩ := fl4.there
          have S4 := J4.suite he4 hd4 na nL nF
          refine store_ok (X := X.suite a ((a, oe4) :: (X.pn ++ pins))) (v := .ref a) S4 hN hi hloc rfl (fun s5 S5 => ?_) (.inr hln)
          refine wpAny_mono ((hsu a oe4 cls d (X.pn ++ pins) hz4 ⟨_, hd4⟩).run [] s5 _ H' _ S5 (hyes rfl a na)) (fun f s6 hsp => ?_) (fun _ _ z => False.elim z)
          have end_ : ∀ {σ6 : L2.St} {H6 : Hp} {Q : Shared → Prop}, Inv (X.suite a ((a, oe4) :: (X.pn ++ pins))) [] σ6 H6 s6 → (∀ s7, Inv X pins (σ6.set i none) H6 s7 → Q s7) →
              wpAny (model X.prog X.w) X.A (do bindName X.env n .none; unbindBehindTheSuite X.env n pos') (fun _ s7 => Q s7) X.xe s6 := fun {σ6 H6 Q} S6 hq => gone_ok (S6.unsuite ok) hN hi hln hq
          cases f with
          | next =>
            obtain ⟨σ6, H6, S6, q6⟩ := hsp
            exact end_ S6 fun s7 J7 => ⟨_, _, J7, q6⟩
          | brk =>
            obtain ⟨σ6, H6, S6, q6⟩ := hsp
            exact end_ S6 fun s7 J7 => ⟨_, _, J7, q6⟩
          | cont =>
            obtain ⟨σ6, H6, S6, q6⟩ := hsp
            exact end_ S6 fun s7 J7 => ⟨_, _, J7, q6⟩
          | ret u =>
            obtain ⟨v6, σ6, H6, S6, r6, q6⟩ := hsp
            exact end_ S6 fun s7 J7 => ⟨_, _, _, J7, r6, q6⟩
        | false =>
          show wpAny _ X.A (handleBy (.ref a) X.env hds2) _ _ _
          exact ih (hno rfl)
    exact go hh w
  · cases f with
    | next =>
      obtain ⟨σ', H', J', q⟩ := hsp
      exact wpAny_execs_nil ⟨σ', H', J'.ofTry ok, q⟩
    | brk =>
      obtain ⟨σ', H', J', q⟩ := hsp
      exact ⟨σ', H', J'.ofTry ok, q⟩
    | cont =>
      obtain ⟨σ', H', J', q⟩ := hsp
      exact ⟨σ', H', J'.ofTry ok, q⟩
    | ret u =>
      obtain ⟨v, σ', H', J', r, q⟩ := hsp
      exact ⟨v, σ', H', J'.ofTry ok, r, q⟩
end
end Ws
/-! ## Wd -/
namespace L2
open PySem PySem.Spec PyProof.Rows
/-! ### data and heaps -/
theorem Same.seqT {K : PySem.W.Frag} {H H' : Hp} {a : Addr} {xs : List V} (e : Same H H') (h : SqT K H a xs) : SqT K H' a xs := by
  rcases h with (h | ⟨o, h⟩) | h
  · exact .inl (.inl (e _ _ h))
  · exact .inl (.inr ⟨o, e _ _ h⟩)
  · exact .inr h
theorem Same.new {H : Hp} {p : Addr} {o : HO} (h : H p = none) : Same H (upd H p o) := fun b u e => by
  rw [upd_ne (ne_of_none e h)]
  exact e
/-- what H does not know may change -/
theorem Same.mut {H H' : Hp} {p : Addr} {o : HO} (e : Same H H') (h : H p = none) : Same H (upd H' p o) := fun b u hb => by
  rw [upd_ne (ne_of_none hb h)]
  exact e b u hb
theorem Same.then_new {H H' : Hp} {p : Addr} {o : HO} (e : Same H H') (h : H' p = none) : Same H (upd H' p o) := Same.trans e (Same.new h)
section
variable {K : PySem.W.Frag} {H H' : Hp}
mutual
theorem Dp.same (e : Same H H') : ∀ (d : PyData) (v : V), Dp K H v d → Dp K H' v d
  | .none, _, h => by cases h; exact .non
  | .bool b, _, h => by cases h; exact .bl b
  | .int i, _, h => by cases h; exact .int i
  | .str x, _, h => by cases h; exact .str x
  | .list ds, _, h => by
    cases h with
    | lst hs ha => exact .lst (e.seq hs) (Dp.sameAll e ds _ ha)
  | .tuple ds, _, h => by
    cases h with
    | tup hs ha => exact .tup (Same.seqT e hs) (Dp.sameAll e ds _ ha)
  | .dict _, _, h => by cases h
theorem Dp.sameAll (e : Same H H') : ∀ (ds : List PyData) (vs : List V), DpAll K H vs ds → DpAll K H' vs ds
  | [], _, h => by cases h; exact .nil
  | d :: ds, _, h => by
    cases h with
    | cons h1 h2 => exact .cons (Dp.same e d _ h1) (Dp.sameAll e ds _ h2)
end
theorem Dp.to {v : V} {d : PyData} (h : Dp K H v d) (e : Same H H') : Dp K H' v d := Dp.same e d v h
theorem DpAll.to {vs : List V} {ds : List PyData} (h : DpAll K H vs ds) (e : Same H H') : DpAll K H' vs ds := Dp.sameAll e ds vs h
theorem DpAll.length : ∀ {ds : List PyData} {vs : List V}, DpAll K H vs ds → vs.length = ds.length
  | [], _, h => by cases h; rfl
  | d :: ds, _, h => by
    cases h with
    | cons h1 h2 => simp [DpAll.length h2]
theorem DpAll.get : ∀ {ds : List PyData} {vs : List V} {i : Nat} {d : PyData}, DpAll K H vs ds → ds[i]? = some d → ∃ v, vs[i]? = some v ∧ Dp K H v d
  | [], _, i, d, h, e => by simp at e
  | d' :: ds, _, 0, d, h, e => by
    cases h with
    | cons h1 h2 =>
      have e' : d' = d := by simpa using e
      subst e'
      exact ⟨_, rfl, h1⟩
  | d' :: ds, _, i + 1, d, h, e => by
    cases h with
    | cons h1 h2 =>
      obtain ⟨v, a, b⟩ := DpAll.get h2 (by simpa using e)
      exact ⟨v, by simpa using a, b⟩
theorem DpAll.getV : ∀ {ds : List PyData} {vs : List V} {i : Nat} {v : V}, DpAll K H vs ds → vs[i]? = some v → ∃ d, ds[i]? = some d ∧ Dp K H v d
  | [], _, i, d, h, e => by cases h; simp at e
  | d' :: ds, _, 0, d, h, e => by
    cases h with
    | cons h1 h2 =>
      simp at e
      subst e
      exact ⟨_, rfl, h1⟩
  | d' :: ds, _, i + 1, d, h, e => by
    cases h with
    | cons h1 h2 =>
      obtain ⟨v, a, b⟩ := DpAll.getV h2 (by simpa using e)
      exact ⟨v, by simpa using a, b⟩
theorem DpAll.append : ∀ {ds es : List PyData} {vs ws : List V}, DpAll K H vs ds → DpAll K H ws es → DpAll K H (vs ++ ws) (ds ++ es)
  | [], _, _, _, h, h' => by cases h; exact h'
  | d :: ds, _, _, _, h, h' => by
    cases h with
    | cons h1 h2 => exact .cons h1 (DpAll.append h2 h')
theorem DpAll.snoc {ds : List PyData} {vs : List V} {v : V} {d : PyData} (h : DpAll K H vs ds) (h1 : Dp K H v d) : DpAll K H (vs ++ [v]) (ds ++ [d]) := h.append (.cons h1 .nil)
theorem DpAll.take : ∀ {ds : List PyData} {vs : List V} (n : Nat), DpAll K H vs ds → DpAll K H (vs.take n) (ds.take n)
  | [], _, n, h => by cases h; simp; exact .nil
  | d :: ds, _, 0, h => .nil
  | d :: ds, _, n + 1, h => by
    cases h with
    | cons h1 h2 => exact .cons h1 (DpAll.take n h2)
theorem DpAll.drop : ∀ {ds : List PyData} {vs : List V} (n : Nat), DpAll K H vs ds → DpAll K H (vs.drop n) (ds.drop n)
  | [], _, n, h => by cases h; simp; exact .nil
  | d :: ds, _, 0, h => h
  | d :: ds, _, n + 1, h => by
    cases h with
    | cons h1 h2 => exact DpAll.drop n h2
theorem DpAll.set {v : V} {d : PyData} (h1 : Dp K H v d) : ∀ {ds : List PyData} {vs : List V} (n : Nat), DpAll K H vs ds → DpAll K H (vs.set n v) (ds.set n d)
  | [], _, n, h => by cases h; exact .nil
  | _ :: ds, _, 0, h => by
    cases h with
    | cons h0 h2 => exact .cons h1 h2
  | _ :: ds, _, n + 1, h => by
    cases h with
    | cons h0 h2 => exact .cons h0 (DpAll.set h1 n h2)
theorem DpAll.ints : ∀ (ns : List Int), DpAll K H (ns.map V.int) (ns.map PyData.int)
  | [] => .nil
  | n :: ns => .cons (.int n) (DpAll.ints ns)
theorem DpAll.ints_inv : ∀ {ns : List Int} {vs : List V}, DpAll K H vs (ns.map PyData.int) → vs = ns.map V.int
  | [], _, h => by cases h; rfl
  | n :: ns, _, h => by
    cases h with
    | cons h1 h2 =>
      cases h1
      rw [DpAll.ints_inv h2]
      rfl
theorem Dp.int_inv {v : V} {i : Int} (h : Dp K H v (.int i)) : v = .int i := by cases h; rfl
theorem Dp.bl_inv {v : V} {b : Bool} (h : Dp K H v (.bool b)) : v = .bl b := by cases h; rfl
theorem Dp.tup_inv {v : V} {ds : List PyData} (h : Dp K H v (.tuple ds)) : ∃ a xs, v = .ref a ∧ SqT K H a xs ∧ DpAll K H xs ds := by
  cases h with
  | tup hs ha => exact ⟨_, _, rfl, hs, ha⟩
theorem Dp.lst_inv {v : V} {ds : List PyData} (h : Dp K H v (.list ds)) : ∃ a xs, v = .ref a ∧ SqL K H a xs ∧ DpAll K H xs ds := by
  cases h with
  | lst hs ha => exact ⟨_, _, rfl, hs, ha⟩
theorem Dp.ints_tup {v : V} {ns : List Int} (h : Dp K H v (.tuple (ns.map PyData.int))) : ∃ a, v = .ref a ∧ SqT K H a (ns.map V.int) := by
  obtain ⟨a, xs, rfl, hs, ha⟩ := h.tup_inv
  rw [ha.ints_inv] at hs
  exact ⟨a, rfl, hs⟩
theorem Dp.tup_ints {a : Addr} {ns : List Int} (h : SqT K H a (ns.map V.int)) : Dp K H (.ref a) (.tuple (ns.map PyData.int)) := .tup h (DpAll.ints ns)
end
end L2
namespace Ws
open PySem PySem.Spec PyProof.Rows L2
/-! ### max(ints, default=d) -/
theorem fold_max (n : Int) : ∀ ns : List Int, (ns.foldl max n = n ∨ ns.foldl max n ∈ ns) ∧ n ≤ ns.foldl max n ∧ ∀ y ∈ ns, y ≤ ns.foldl max n := by
  intro ns
  induction ns generalizing n with
  | nil => exact ⟨.inl rfl, Int.le_refl _, fun y hy => absurd hy (by simp)⟩
  | cons a r ih =>
    obtain ⟨h1, h2, h3⟩ := ih (max n a)
    simp only [List.foldl_cons]
    refine ⟨?_, by omega, fun y hy => ?_⟩
    · rcases h1 with h1 | h1
      · rw [h1]
        rcases Int.le_total n a with z | z
        · right; rw [Int.max_eq_right z]; exact List.mem_cons_self ..
        · left; exact Int.max_eq_left z
      · right; exact List.mem_cons_of_mem _ h1
    · rcases List.mem_cons.mp hy with e | hy
      · rw [e]; omega
      · exact h3 y hy
theorem alike_ints (ns : List Int) : PySem.W.AlikeAll (ns.map PyData.int) := by
  refine ⟨fun x hx y hy => ?_, fun x hx => ?_⟩
  · obtain ⟨a, _, rfl⟩ := List.mem_map.mp hx
    obtain ⟨b, _, rfl⟩ := List.mem_map.mp hy
    simp [PySem.W.alike]
  · obtain ⟨a, _, rfl⟩ := List.mem_map.mp hx
    intro z
    cases z
theorem depth_ints : ∀ ns : List Int, PyData.depthAll (ns.map PyData.int) = 0
  | [] => rfl
  | n :: ns => by
    show max 0 (PyData.depthAll (ns.map PyData.int)) = 0
    rw [depth_ints ns]
    rfl
def rMaxD (K : PySem.W.Frag) : List V → List V → Hp → VK → Prop := fun xs zs H Q => ∃ (a : Addr) (ns : List Int) (d : V), xs = [.ref a] ∧ zs = [d] ∧ SqL K H a (ns.map V.int) ∧ (ns = [] → Q d H) ∧ ∀ m, m ∈ ns → (∀ y ∈ ns, y ≤ m) → Q (.int m) H
theorem call_maxD {X : Cx} (hc : X.calm = true) (hu : X.A.units + 64 < cLine) : CallRK X (.builtin "max") ["default"] (rMaxD X.K) := by
  intro pins s σ H xs zs us ws Q I r1 r2 h
  obtain ⟨a, ns, d, rfl, rfl, hs, h0, h1⟩ := h
  obtain ⟨u, rfl, ru⟩ := vals1 r1
  obtain ⟨u', rfl, ru'⟩ := vals1 r2
  cases ru
  obtain ⟨its, rv, p, hz⟩ := I.list hs
  obtain ⟨as, hr⟩ := Dp.readsAll I (ns.map PyData.int) (ns.map V.int) its (DpAll.ints ns) rv
  show wpAny _ _ (call (.builtin "max") [.ref a] [(Str.ofString "default", u')]) _ _ _
  refine PySem.W.max_list_default (xs := ns.map PyData.int) (I.ok.hd hc) p.isList (by simpa using hr) (alike_ints ns) (by rw [depth_ints]; omega) (fun e h' tk hk => ?_) (fun y ys i v h' tk bs e hv hR hk => ?_)
  · exact ⟨d, H, I.kept hk, ru', h0 (by simpa using e)⟩
  · cases ns with
    | nil => cases e
    | cons n r =>
      have e1 : PyData.int n = y := by
        simp only [List.map_cons, List.cons.injEq] at e
        exact e.1
      have e2 : r.map PyData.int = ys := by
        simp only [List.map_cons, List.cons.injEq] at e
        exact e.2
      subst e1 e2
      rw [PySem.W.maxD_ints] at hR
      cases hR with
      | int i t =>
        obtain ⟨g1, g2, g3⟩ := fold_max n r
        refine ⟨.int (r.foldl max n), H, I.kept hk, ⟨_, rfl⟩, h1 _ ?_ fun y hy => ?_⟩
        · rcases g1 with g1 | g1
          · rw [g1]; exact List.mem_cons_self ..
          · exact List.mem_cons_of_mem _ g1
        · rcases List.mem_cons.mp hy with e | hy
          · rw [e]; exact g2
          · exact g3 y hy
/-! ### a def as a fact of the module -/
structure Dt (K : PySem.W.Frag) (mg : Str → Option Value) (x : Str) (st : Stmt) (ps : List Str) : Prop where
  ex : ∃ (f : Addr) (fd : FuncData), Fun K x x st f fd ∧ mg x = some (.ref f) ∧ Binds K fd ps []
structure Df (P : Program) (w : World) (K : PySem.W.Frag) (mg : Str → Option Value) (base : Heap) (CX : CXT) (k : Nat) (x : Str) (ps : List Str) (sp : Sp) : Prop where
  ex : ∃ (f : Addr) (fd : FuncData), FnOk P w K mg base CX k f fd ps sp ∧ mg x = some (.ref f) ∧ PySem.W.keepIn K (.ref f) = true ∧ Binds K fd ps []
structure DfG (P : Program) (w : World) (K : PySem.W.Frag) (mg : Str → Option Value) (base : Heap) (CX : CXT) (k : Nat) (x : Str) (ps : List Str) (sp : Sp) : Prop where
  ex : ∃ (f : Addr) (fd : FuncData), FnOkG P w K mg base CX k f fd ps sp ∧ mg x = some (.ref f) ∧ PySem.W.keepIn K (.ref f) = true ∧ Binds K fd ps []
section
variable {P : Program} {w : World} {K : PySem.W.Frag} {mg : Str → Option Value} {base : Heap} {x : Str} {st : Stmt} {N ps : List Str} {k : Nat} {sp : Sp}
theorem Dt.mk' {h : Heap} {f : Addr} {oc : Value} {od an : Option Addr} {osl : Array (Option Value)} {kV doc pm cdv ct : Value} (X : K.In h) (G : h.Ns mainGlobals mg) (a : PySem.W.nsIn K mainGlobals x = some (some (.ref f)))
    (l : K.lookup f = some ⟨oc, od, .func (PySem.W.fnOf x x (defArgs st) (defBody st) (defScope st) .none kV doc pm an cdv ct), osl⟩) (c : PySem.W.codeIn K cdv x = true) (kp : PySem.W.keepIn K (.ref f) = true)
    (hb : ∀ (kV doc pm : Value) (an : Option Addr) (cdv ct : Value) (us : List Value), us.length = ps.length → bindArgs (PySem.W.fnOf x x (defArgs st) (defBody st) (defScope st) .none kV doc pm an cdv ct) ⟨us, []⟩ = pure (ps.zip us)) : Dt K mg x st ps :=
  ⟨f, _, fun_mk l c kp, PySem.W.mg_of X G a, (fun_mk l c kp).binds hb⟩
theorem Dt.ok (D : Dt K mg x st ps) (S : FnScope N ps (defScope st)) (len : ∀ vs H Q E, sp vs H Q E → vs.length = ps.length)
    (hbody : ∀ (f : Addr) (cdv : Value) (A : Around) (outer : List Env) (s : Shared) (H : Hp) (vs : List V) (Q : VK) (E : XK), Room k (A.deeper (envOfC x (defScope st) s.heap.objs.size f cdv)) → sp vs H Q E →
      ∃ t, PSs (cxOf CX0 P w K mg base N x (defScope st) f cdv A outer s H E).nox (defBody st) t ∧ t { nx := fun _ H' => Q .non H', rt := Q } (start N vs) H) : Df P w K mg base CX0 (k + 1) x ps sp := by
  obtain ⟨f, fd, F, m, b⟩ := D.ex
  exact ⟨f, fd, F.ok S len (hbody f), m, F.kp, b⟩
theorem Dt.okX (D : Dt K mg x st ps) (S : FnScope N ps (defScope st)) (len : ∀ vs H Q E, sp vs H Q E → vs.length = ps.length)
    (hbody : ∀ (f : Addr) (cdv : Value) (A : Around) (outer : List Env) (s : Shared) (H : Hp) (vs : List V) (Q : VK) (E : XK), Room k (A.deeper (envOfC x (defScope st) s.heap.objs.size f cdv)) → sp vs H Q E →
      ∃ t, PSs (cxOf (L2.CX P w) P w K mg base N x (defScope st) f cdv A outer s H E) (defBody st) t ∧ t { nx := fun _ H' => Q .non H', rt := Q } (start N vs) H) : Df P w K mg base (L2.CX P w) (k + 1) x ps sp := by
  obtain ⟨f, fd, F, m, b⟩ := D.ex
  exact ⟨f, fd, F.okX S len (hbody f), m, F.kp, b⟩
theorem Dt.okG (D : Dt K mg x st ps) (S : FnScope N ps (defScope st)) (len : ∀ vs H Q E, sp vs H Q E → vs.length = ps.length)
    (hbody : ∀ (f : Addr) (cdv : Value) (A : Around) (outer : List Env) (s : Shared) (H : Hp) (vs : List V) (Q : VK) (E : XK), A.guards = some [] → Room k (A.deeper (envOfC x (defScope st) s.heap.objs.size f cdv)) → sp vs H Q E →
      ∃ t, PSs (cxOf CX0 P w K mg base N x (defScope st) f cdv A outer s H E).nox (defBody st) t ∧ t { nx := fun _ H' => Q .non H', rt := Q } (start N vs) H) : DfG P w K mg base CX0 (k + 1) x ps sp := by
  obtain ⟨f, fd, F, m, b⟩ := D.ex
  obtain ⟨oc, od, kV, doc, pm, an, cdv, ct, osl, rfl, lk, hcd⟩ := F.ex
  refine ⟨f, _, fn_ofG lk hcd S len fun A outer s H vs Q E hg hr hsp => ?_, m, F.kp, b⟩
  obtain ⟨t, h, q⟩ := hbody f cdv A outer s H vs Q E hg hr hsp
  exact ⟨t, h.nox, q⟩
theorem Df.g {CX : CXT} (D : Df P w K mg base CX k x ps sp) : DfG P w K mg base CX k x ps sp := let ⟨f, fd, a, b, c, d⟩ := D.ex; ⟨f, fd, .of a, b, c, d⟩
end
section
variable {X : Cx} {CX : CXT} {k : Nat} {ps : List Str} {sp : Sp} {E : XK} {x : Str} {p pos : Pos} {e : Expr} {es : List Expr} {t : TA}
theorem pe_f (D : Df X.prog X.w X.K X.mg X.base CX k x ps sp) (hr : Room k X.A) (hx : Passes CX X E)
    (ha : PA X (e :: es) t) (hg : Gl X x := by rfl) (hdb : (x == ("__debug__" : Str)) = false := by decide) (he : starEach (e :: es) X.env = (false, eval e X.env) :: starEach es X.env := by rfl) (hpl : (backTo pos (starEach es X.env)).any (·.1) = false := by rfl) :
    PE X (.Call (.Name x p) (e :: es) [] pos) (tCa sp E t) := by
  obtain ⟨f, fd, F, m, kp, b⟩ := D.ex
  refine ⟨fun pins s σ H Q I h => ?_⟩
  refine (pe_call (dvs := []) F hr hg m kp b .nil hx ha hdb he hpl).run pins s σ H Q I ?_
  have e1 : tCall sp [] E t = tCa sp E t := by
    unfold tCall tCa
    simp only [List.append_nil]
  rw [e1]
  exact h
theorem pe_fG (D : DfG X.prog X.w X.K X.mg X.base CX k x ps sp) (hG : X.A.guards = some []) (hr : Room k X.A) (hx : Passes CX X E)
    (ha : PA X (e :: es) t) (hg : Gl X x := by rfl) (hdb : (x == ("__debug__" : Str)) = false := by decide) (he : starEach (e :: es) X.env = (false, eval e X.env) :: starEach es X.env := by rfl) (hpl : (backTo pos (starEach es X.env)).any (·.1) = false := by rfl) :
    PE X (.Call (.Name x p) (e :: es) [] pos) (tCa sp E t) := by
  obtain ⟨f, fd, F, m, kp, b⟩ := D.ex
  exact pe_callG F hG hr hg m kp b hx ha hdb he hpl
theorem pe_fS {E : L2.St → XK} (D : Df X.prog X.w X.K X.mg X.base CX k x ps sp) (hr : Room k X.A) (hx : ∀ σ, PassesAt CX X σ (E σ))
    (ha : PA X (e :: es) t) (hg : Gl X x := by rfl) (hdb : (x == ("__debug__" : Str)) = false := by decide) (he : starEach (e :: es) X.env = (false, eval e X.env) :: starEach es X.env := by rfl) (hpl : (backTo pos (starEach es X.env)).any (·.1) = false := by rfl) :
    PE X (.Call (.Name x p) (e :: es) [] pos) (tCallS sp E t) := by
  obtain ⟨f, fd, F, m, kp, b⟩ := D.ex
  exact pe_callS F hr hg m kp b hx ha hdb he hpl
end
end Ws
/-! ## We -/
/-! isinstance of a caught error that has fields -/
namespace Ws
open PySem PySem.Spec PySem.Calls PySem.W PyProof.Rows L2
section
variable {prog : Program} {w : World} {A : Around} {E : Value → Shared → Prop} {s : Shared} {K : Frag} {x D : Addr} {ox : Obj} {od : Option Obj}
theorem find_class {g a : Value} {name : Str} (C : ExcC K D) (ha : findIn K (.ref D) name = some (some a)) (hg : specialIn K a "__get__" = some (some g)) (ht : takesIn K a = some true) : findObj K D od name = some (.bind g a) := by
  obtain ⟨cd, hc, _⟩ := any_some C.hd
  have hc : clsIn K D = some cd := hc
  unfold findObj
  rw [hc, Option.bind_some, ha, Option.bind_some]
  simp [hg, ht]
theorem asked_class {Q : Option Value → Shared → Prop} (C : ExcC K D) (X : K.In s.heap) (I : InstAt s.heap x ox D od) (h : Q (some (.ref D)) { s with toks := s.toks + 1 }) : wpAny (model prog w) A (getAttr? (.ref x) "__class__") Q E s := by
  have hf : findObj K D od "__class__" = some (.bind (.builtin "getset_descriptor.__get__") (.builtin "object.__class__")) := find_class C C.ha C.hn C.ht
  obtain ⟨hp, g, d, t, os⟩ := s
  have l0 := I.type (M := model prog w)
  have l1 := looks_findIn (M := model prog w) X C.hg
  have l2 := looks_findIn (M := model prog w) X C.hk
  have l3 := looks_find (M := model prog w) X I hf
  have sub : Looks (model prog w) hp (isInstance (.ref x) (.type "BaseException")) true := l0.andThen (looks_subIn X C.hs)
  have n2 : (Value.builtin "BaseException.__getattribute__" == Value.builtin "object.__getattribute__") = false := by decide +kernel
  have n1 : (onTheHeap (Value.ref D) && Value.builtin "BaseException.__getattribute__" == Value.builtin "object.__getattribute__") = false := by rw [n2]; rfl
  have n0 : (false && onTheHeap (Value.builtin "BaseException.__getattribute__")) = false := rfl
  unfold getAttr? getAttrBy? getAttrBy
  refine wpAny_bind (wpAny_mkText (wpAny_bind (wpAny_attempt (wpAny_holding (wpAny_bind (l0.at (wpAny_bind (l1.at ?_))))))))
  show wpAny _ _ (if (onTheHeap (Value.ref D) && Value.builtin "BaseException.__getattribute__" == Value.builtin "object.__getattribute__") = true then _ else _) _ _ _
  rw [n1, if_neg Bool.false_ne_true]
  unfold getAttrByItsOwn hookBefore
  refine wpAny_bind ?_
  rw [if_pos (show onTheHeap (Value.ref D) = true from rfl)]
  refine l2.at (wpAny_bind (wpAny_attempt (wpAny_holding ?_)))
  unfold callGetattribute
  rw [n0, if_neg Bool.false_ne_true]
  unfold boundAndCalled
  rw [PySem.F.excAttr_ValueError.ga.bind (.ref x)]
  refine wpAny_bind (wpAny_pure ?_)
  show wpAny _ _ (call (.builtin "BaseException.__getattribute__") [.ref x, .str "__class__" t]) _ _ _
  refine wpAny_call (codeAny_call_builtin PySem.F.excAttr_ValueError.ga.plain PySem.F.entry_bexc_ga ?_)
  refine @check_slot (model prog w) _ _ ⟨hp, g, d, t + 1, os⟩ "BaseException.__getattribute__" "BaseException" "__getattribute__" (.ref x) [.str "__class__" t] [] _ (by decide +kernel) (by decide +kernel) sub (PySem.F.args_bexc_ga (.ref x) (.str "__class__" t)) ?_
  unfold Builtin.«object.__getattribute__»
  refine wpAny_bind (wpAny_of_eq (a := ((Value.ref x : Value), [Value.str "__class__" t])) (by first | rfl | (simp only [slotArgs]; rfl)) ?_)
  refine wpAny_bind (wpAny_pure (wpAny_bind (l0.at (wpAny_bind (l3.at ?_)))))
  show wpAny _ _ (holding [Value.builtin "object.__class__"] (call (.builtin "getset_descriptor.__get__") [.builtin "object.__class__", .ref x, .ref D]) >>= ret) _ _ _
  refine wpAny_bind (wpAny_holding (wpAny_call (class_get (s := ⟨hp, g, d, t + 1, os⟩) (ox := ox) (od := od) X I C.hm ?_)))
  refine wpAny_pure ?_
  show wpAny _ _ (handedOut (.ref D)) _ _ _
  rw [handedOut_of (v := .ref D) rfl]
  first
    | exact wpAny_pure (wpAny_pure h)
    | exact wpAny_pure h
    | exact wpAny_pure (wpAny_bind (wpAny_pure (wpAny_pure h)))
theorem kitx_err (C : ExcC K D) : KitX K (.ref x) (.ref D) (fun h => InstAt h x ox D od) where
  ty := fun _ _ _ I => I.type
  it := fun _ _ X _ => by
    obtain ⟨cd, hc, _⟩ := any_some C.hd
    unfold clsIn at hc
    split at hc
    · rename_i ho
      intro A' Q' E' s' k q
      unfold isType loadHead
      exact wpAny_bind (wpAny_loadPart (k _ _ (X _ _ ho)) (wpAny_pure q))
    · cases hc
  ne := fun h tp dd its n sl X htp => by
    obtain ⟨cd, hc, _⟩ := any_some C.hd
    refine Bool.eq_false_iff.mpr fun q => ?_
    have e : D = tp := Value.ref.inj (beq_iff_eq.mp q)
    subst e
    unfold clsIn at hc
    split at hc
    · rename_i ho
      have z := (X _ _ ho).symm.trans htp
      cases z
    · cases hc
  ca := fun X I k => asked_class C X I k
end
/-- isinstance(e, c), e the error of the suite, of the class cls, its fields in the dict d -/
def rIsX (K : Frag) (a : Addr) (cls : Value) (d : Option Addr) : List V → Hp → VK → Prop := fun xs H Q => ∃ (c : V) (cv : Value) (b : Bool) (D dd : Addr) (fs : List (Str × V)), xs = [.ref a, c] ∧ cls = .ref D ∧ ExcC K D ∧ d = some dd ∧ H dd = some (.xd fs) ∧ (∀ u, RelV c u → u = cv) ∧ kitOne K (.ref D) cv = some b ∧ Q (.bl b) H
theorem call_isX {X : Cx} {a : Addr} {cls : Value} {d : Option Addr} {oe : Obj} {pn : List (Addr × Obj)} (hz : Zc cls d oe) (hf : ∃ vs, oe.data = .fields vs) : CallR (X.suite a ((a, oe) :: pn)) (.builtin "isinstance") (rIsX X.K a cls d) := by
  intro pins s σ H xs us Q I r h
  obtain ⟨c, cv, b, D, dd, fs, rfl, rfl, C, rfl, hd, hcv, e, q⟩ := h
  cases r with
  | cons rx rr =>
    cases rr with
    | cons rt rr =>
      cases rr
      cases rx
      have ec := hcv _ rt
      subst ec
      obtain ⟨hget, _⟩ := I.pin (a, oe) (List.mem_append.mpr (.inl List.mem_cons_self))
      obtain ⟨vs, hv⟩ := hf
      have hx : ObjOk X.prog X.w H s.heap dd (.xd fs) := I.hok dd _ hd
      obtain ⟨mA, hns, hr⟩ := hx
      obtain ⟨od, ho, hl⟩ := lookIn_ns hns
      have J : PySem.W.InstAt s.heap a oe D (some od) := ⟨hget, hz.1, by unfold PySem.W.notCls; rw [hv] <;> rfl, by rw [hz.2]; exact ho⟩
      exact PySem.W.kia_one (kitx_err C) I.kIn J e (fun z => nomatch z) fun tk => ⟨.bl b, H, I.kept (t' := tk) fun _ _ z => z, rfl, q⟩
end Ws
/-! ## Wf -/
/-! tuple * int, the empty tuple too -/
namespace Ws
open PySem PySem.Spec PyProof.Rows L2
theorem tuple_mul0 (l : Addr) (n : Nat) (dd : Option Addr) (sl : Array (Option Value)) (x : Int) (u : Tok) (c0 : (decide (x < -(2 ^ 63)) || decide (x ≥ 2 ^ 63)) = false) (c1 : ((#[] : Array Value).isEmpty || x == 1) = true) :
    Meets (Builtin.«tuple.__mul__» ⟨[.ref l, .int x u], []⟩) (fun _ R s => s.heap.get? l = some { cls := .type "tuple", dict := dd, data := .seq #[] n, slots := sl } ∧
      R (.ok (.ret (Value.ref l))) s) :=
  .of_wp fun prog w A R s h => by
    obtain ⟨hp, g, d, tk, os⟩ := s
    obtain ⟨hl, h⟩ := h
    have f1 := AutoSeq1.idx_int
    wp_walk using wpAny_loadPart' hl
    repeat (first
      | (refine wpAny_ite_false (decide_eq_false (by rw [c0]; exact Bool.false_ne_true)) ?_; wp_walk using wpAny_loadPart' hl)
      | (refine wpAny_ite_true (decide_eq_true c1) ?_; wp_walk using wpAny_loadPart' hl))
    exact ⟨_, rfl, h⟩
/-- t * k, k written: the empty tuple is handed back, of another one a new one is made -/
def rRepA (K : PySem.W.Frag) : R2 := fun x y H Q => ∃ l k xs, x = .ref l ∧ y = .int k ∧ SqT K H l xs ∧ 2 ≤ k ∧ k ≤ 1000 ∧ xs.length ≤ 1000 ∧ (xs = [] → Q (.ref l) H) ∧ (xs ≠ [] → ∀ p, H p = none → Q (.ref p) (upd H p (.tup (List.replicate k.toNat xs).flatten)))
theorem op_repA {X : Cx} : OpR X (binaryOp .Mult) (rRepA X.K) := by
  intro pins s σ H x y v u Q I rx ry h
  obtain ⟨l, k, xs, rfl, rfl, hT, h1, h2, hz, q0, q⟩ := h
  by_cases hx : xs = []
  · subst hx
    have rx2 := rx
    cases rx
    obtain ⟨t, rfl⟩ := ry
    obtain ⟨its, r, ⟨⟨cls, dd, data, sl⟩, ho, hc, n, hd⟩, hs⟩ := I.tuple hT
    simp only at hc hd
    subst hc hd
    cases r
    have c0 : (decide (k < -(2 ^ 63)) || decide (k ≥ 2 ^ 63)) = false := by
      rw [decide_eq_false (by omega), decide_eq_false (by omega)] <;> rfl
    refine wpAny_binaryOp_repeat_ref (T := "tuple") (U := "int") (by decide) ⟨_, ho, rfl⟩ (fun s' => typeIs_int s' k t) noFill_tuple_mul F.fills_int_mul F.slot_int_rmul repeat_tuple F.slot_int_index.lookup
      (call_meets F.slot_int_rmul (typeIs_int s k t) F.entry_int_rmul (F.args_int_rmul_2 _ _) (int_rmul_tuple k t l (#[] : Array Value) n dd sl)
        ⟨ho, rfl, ⟨_, ho, rfl⟩, call_meets F.slot_tuple_mul ⟨_, ho, rfl⟩ F.entry_tuple_mul (F.args_tuple_mul_2 _ _) (tuple_mul0 l n dd sl k t c0 rfl) ⟨ho, ?_⟩⟩)
    exact ⟨.ref l, H, I, rx2, q0 rfl⟩
  · exact op_repT pins s σ H _ _ v u Q I rx ry ⟨l, k, xs, rfl, rfl, hT, hx, h1, h2, hz, q hx⟩
theorem tuple_mul1 (l : Addr) (items : Array Value) (n : Nat) (dd : Option Addr) (sl : Array (Option Value)) (x : Int) (u : Tok) (c0 : (decide (x < -(2 ^ 63)) || decide (x ≥ 2 ^ 63)) = false) (c1 : (items.isEmpty || x == 1) = true) :
    Meets (Builtin.«tuple.__mul__» ⟨[.ref l, .int x u], []⟩) (fun _ R s => s.heap.get? l = some { cls := .type "tuple", dict := dd, data := .seq items n, slots := sl } ∧
      R (.ok (.ret (Value.ref l))) s) :=
  .of_wp fun prog w A R s h => by
    obtain ⟨hp, g, d, tk, os⟩ := s
    obtain ⟨hl, h⟩ := h
    have f1 := AutoSeq1.idx_int
    wp_walk using wpAny_loadPart' hl
    repeat (first
      | (refine wpAny_ite_false (decide_eq_false (by rw [c0]; exact Bool.false_ne_true)) ?_; wp_walk using wpAny_loadPart' hl)
      | (refine wpAny_ite_true (decide_eq_true c1) ?_; wp_walk using wpAny_loadPart' hl))
    exact ⟨_, rfl, h⟩
/-- t * k, k from 1 on -/
def rRepB (K : PySem.W.Frag) : R2 := fun x y H Q => ∃ l k xs, x = .ref l ∧ y = .int k ∧ SqT K H l xs ∧ 1 ≤ k ∧ k ≤ 1000 ∧ xs.length ≤ 1000 ∧ (xs = [] ∨ k = 1 → Q (.ref l) H) ∧ (xs ≠ [] → k ≠ 1 → ∀ p, H p = none → Q (.ref p) (upd H p (.tup (List.replicate k.toNat xs).flatten)))
theorem op_repB {X : Cx} : OpR X (binaryOp .Mult) (rRepB X.K) := by
  intro pins s σ H x y v u Q I rx ry h
  obtain ⟨l, k, xs, rfl, rfl, hT, h1, h2, hz, q0, q⟩ := h
  by_cases hx : k = 1
  · subst hx
    have rx2 := rx
    cases rx
    obtain ⟨t, rfl⟩ := ry
    obtain ⟨its, r, ⟨⟨cls, dd, data, sl⟩, ho, hc, n, hd⟩, hs⟩ := I.tuple hT
    simp only at hc hd
    subst hc hd
    have c0 : (decide ((1 : Int) < -(2 ^ 63)) || decide ((1 : Int) ≥ 2 ^ 63)) = false := by decide
    refine wpAny_binaryOp_repeat_ref (T := "tuple") (U := "int") (by decide) ⟨_, ho, rfl⟩ (fun s' => typeIs_int s' 1 t) noFill_tuple_mul F.fills_int_mul F.slot_int_rmul repeat_tuple F.slot_int_index.lookup
      (call_meets F.slot_int_rmul (typeIs_int s 1 t) F.entry_int_rmul (F.args_int_rmul_2 _ _) (int_rmul_tuple 1 t l its.toArray n dd sl)
        ⟨ho, rfl, ⟨_, ho, rfl⟩, call_meets F.slot_tuple_mul ⟨_, ho, rfl⟩ F.entry_tuple_mul (F.args_tuple_mul_2 _ _) (tuple_mul1 l its.toArray n dd sl 1 t c0 (by simp)) ⟨ho, ?_⟩⟩)
    exact ⟨.ref l, H, I, rx2, q0 (.inr rfl)⟩
  · exact op_repA pins s σ H _ _ v u Q I rx ry ⟨l, k, xs, rfl, rfl, hT, by omega, h2, hz, fun e => q0 (.inl e), fun e => q e hx⟩
end Ws
/-! ## G0 -/
/-! what serves every law: data, errors, the law's state, small data, the end -/
namespace Ws
open PySem PySem.Spec PyProof.Rows L2

/-! ### what kind of data -/
def tyName : PyData → String
  | .none => "NoneType"
  | .bool _ => "bool"
  | .int _ => "int"
  | .str _ => "str"
  | .list _ => "list"
  | .tuple _ => "tuple"
  | .dict _ => "dict"
def isI : PyData → Bool
  | .int _ => true
  | _ => false
def isBo : PyData → Bool
  | .bool _ => true
  | _ => false
def isIB (d : PyData) : Bool := isI d || isBo d
def isT : PyData → Bool
  | .tuple _ => true
  | _ => false
def isBt (d : PyData) (lo hi : Int) : Bool := match d with
  | .int i => decide (lo ≤ i) && decide (i ≤ hi)
  | _ => false
def isTn (d : PyData) (n : Int) : Bool := match d with
  | .tuple xs => decide ((xs.length : Int) = n)
  | _ => false
def areB (d : PyData) (lo hi : Int) : Bool := match d with
  | .tuple xs => xs.all fun x => isBt x lo hi
  | _ => false
section
variable {K : PySem.W.Frag} {H : Hp} {v : V} {d : PyData}
theorem dp_ty (h : Dp K H v d) : TyX K H v (.type (tyName d)) := by
  cases h with
  | non => exact .base .non
  | bl b => exact .base (.bl b)
  | int i => exact .base (.int i)
  | str x => exact .base (.str x)
  | lst hs ha =>
    rcases hs with (hs | ⟨o, hs⟩) | ⟨o, its, n, hk, hc, _⟩
    · exact .base (.lst hs)
    · exact .base (.frz hs)
    · exact .kList hk hc
  | tup hs ha =>
    rcases hs with (hs | ⟨o, hs⟩) | ⟨o, its, n, hk, hc, _⟩
    · exact .base (.tup hs)
    · exact .fTuple hs
    · exact .kTuple hk hc
theorem kit_int : ∀ d : PyData, PySem.W.kitOne K (.type (tyName d)) (.type "int") = some (isIB d)
  | .none => kit_ty (by decide +kernel)
  | .bool _ => kit_ty (by show kitB "bool" "int" = some true; decide +kernel)
  | .int _ => kit_ty (by show kitB "int" "int" = some true; decide +kernel)
  | .str _ => kit_ty (by show kitB "str" "int" = some false; decide +kernel)
  | .list _ => kit_ty (by show kitB "list" "int" = some false; decide +kernel)
  | .tuple _ => kit_ty (by show kitB "tuple" "int" = some false; decide +kernel)
  | .dict _ => kit_ty (by show kitB "dict" "int" = some false; decide +kernel)
theorem kit_bool : ∀ d : PyData, PySem.W.kitOne K (.type (tyName d)) (.type "bool") = some (isBo d)
  | .none => kit_ty (by decide +kernel)
  | .bool _ => kit_ty (by show kitB "bool" "bool" = some true; decide +kernel)
  | .int _ => kit_ty (by show kitB "int" "bool" = some false; decide +kernel)
  | .str _ => kit_ty (by show kitB "str" "bool" = some false; decide +kernel)
  | .list _ => kit_ty (by show kitB "list" "bool" = some false; decide +kernel)
  | .tuple _ => kit_ty (by show kitB "tuple" "bool" = some false; decide +kernel)
  | .dict _ => kit_ty (by show kitB "dict" "bool" = some false; decide +kernel)
theorem kit_tuple : ∀ d : PyData, PySem.W.kitOne K (.type (tyName d)) (.type "tuple") = some (isT d)
  | .none => kit_ty (by decide +kernel)
  | .bool _ => kit_ty (by show kitB "bool" "tuple" = some false; decide +kernel)
  | .int _ => kit_ty (by show kitB "int" "tuple" = some false; decide +kernel)
  | .str _ => kit_ty (by show kitB "str" "tuple" = some false; decide +kernel)
  | .list _ => kit_ty (by show kitB "list" "tuple" = some false; decide +kernel)
  | .tuple _ => kit_ty (by show kitB "tuple" "tuple" = some true; decide +kernel)
  | .dict _ => kit_ty (by show kitB "dict" "tuple" = some false; decide +kernel)
/-- what isinstance(x, int) asks and gives | .. bool | .. tuple -/
theorem isi_int {Q : VK} (h : Dp K H v d) (q : Q (.bl (isIB d)) H) : rIsi K [v, .ty "int"] H Q := ⟨v, _, _, _, _, rfl, .ty _, dp_ty h, kit_int d, q⟩
theorem isi_bool {Q : VK} (h : Dp K H v d) (q : Q (.bl (isBo d)) H) : rIsi K [v, .ty "bool"] H Q := ⟨v, _, _, _, _, rfl, .ty _, dp_ty h, kit_bool d, q⟩
theorem isi_tuple {Q : VK} (h : Dp K H v d) (q : Q (.bl (isT d)) H) : rIsi K [v, .ty "tuple"] H Q := ⟨v, _, _, _, _, rfl, .ty _, dp_ty h, kit_tuple d, q⟩
end

theorem slt {n : Nat} (h : n < 100000) : n < sizeLine := Nat.lt_of_lt_of_le h (by decide)
/-- a comprehension of scalars that changes nothing but its own list -/
theorem lcS {J : It} {n : Nat} {G : Hp → Prop} {Y : Nat → Hp → V → Hp → Prop} (w : Walk J n G Y) {g : TG} {te : TE} {vs : List Nat} {σ : L2.St} {H1 : Hp} {D : Addr} {Qd : Hp → Prop} (hD : H1 D = none) (hn : n < sizeLine) (R : Nat → V → Prop)
    (hG : ∀ H, Same H1 H → G H)
    (hs : ∀ i x H H' (Q : VK), i < n → Same H1 H → Y i H x H' → (∀ y H4, R i y → Same H H4 → Q y H4) → g x (wipe σ vs) H' fun σ2 H2 => wipe σ2 vs = wipe σ vs ∧ te σ2 H2 Q)
    (hd : ∀ H ys, Same H1 H → H D = some (.lst ys) → ys.length = n → (∀ i y, ys[i]? = some y → R i y) → Qd H) :
    ∃ W : Nat → Nat → Hp → Prop, (∃ m, W 0 m (upd H1 D (.lst []))) ∧ ∀ i m H, W i m H →
      (J.stop i H ∧ Qd H) ∨ (J.go i H ∧ ∃ Nx : Hp → Prop, (∀ H', Nx H' → ∃ m', m' < m ∧ W (i + 1) m' H') ∧ ∀ x H', J.yld i H x H' → g x (wipe σ vs) H' fun σ2 H2 => wipe σ2 vs = wipe σ vs ∧ tYes σ2 H2 fun b H3 =>
        if b = true then te σ2 H3 fun y H4 => ∃ acc, H4 D = some (.lst acc) ∧ acc.length < sizeLine ∧ Nx (upd H4 D (.lst (acc ++ [y]))) else Nx H3) := by
  refine lc_it w (fun i H => Same H1 H ∧ ∃ ys, H D = some (.lst ys) ∧ ys.length = i ∧ ∀ j y, ys[j]? = some y → R j y) ⟨Same.new hD, [], upd_same, rfl, fun j y h => by simp at h⟩ (fun i H _ p => hG H p.1) (fun i x H H' hi p y => ?_) (fun H p => ?_)
  · obtain ⟨s, ys, hy, hl, hr⟩ := p
    have q := hs i x H H' (fun y H4 => ∃ acc, H4 D = some (.lst acc) ∧ acc.length < sizeLine ∧ Same H1 (upd H4 D (.lst (acc ++ [y]))) ∧ ∃ ys, (upd H4 D (.lst (acc ++ [y]))) D = some (.lst ys) ∧ ys.length = i + 1 ∧ ∀ j y, ys[j]? = some y → R j y) hi s y (fun v H4 r s4 => ?_)
    · have e : (fun σ2 H2 => wipe σ2 vs = wipe σ vs ∧ tYes σ2 H2 fun b H3 =>
        if b = true then te σ2 H3 fun y H4 => ∃ acc, H4 D = some (.lst acc) ∧ acc.length < sizeLine ∧ Same H1 (upd H4 D (.lst (acc ++ [y]))) ∧ ∃ ys, (upd H4 D (.lst (acc ++ [y]))) D = some (.lst ys) ∧ ys.length = i + 1 ∧ ∀ j y, ys[j]? = some y → R j y
        else Same H1 H3 ∧ ∃ ys, H3 D = some (.lst ys) ∧ ys.length = i + 1 ∧ ∀ j y, ys[j]? = some y → R j y) =
        (fun σ2 H2 => wipe σ2 vs = wipe σ vs ∧ te σ2 H2 fun y H4 => ∃ acc, H4 D = some (.lst acc) ∧ acc.length < sizeLine ∧ Same H1 (upd H4 D (.lst (acc ++ [y]))) ∧ ∃ ys, (upd H4 D (.lst (acc ++ [y]))) D = some (.lst ys) ∧ ys.length = i + 1 ∧ ∀ j y, ys[j]? = some y → R j y) := by
        funext σ2 H2
        simp only [tYes, if_true]
      rw [e]
      exact q
    · refine ⟨ys, s4 _ _ hy, by omega, (Same.trans s s4).mut hD, _, upd_same, by simp [hl], fun j z hz => ?_⟩
      by_cases hj : j < ys.length
      · rw [List.getElem?_append_left hj] at hz
        exact hr j z hz
      · rw [List.getElem?_append_right (by omega)] at hz
        have e : j = i := by
          have := (List.getElem?_eq_some_iff.mp hz).1
          simp at this
          omega
        subst e
        rw [hl, Nat.sub_self] at hz
        simp at hz
        rw [← hz]
        exact r
  · obtain ⟨s, ys, hy, hl, hr⟩ := p
    exact hd H ys s hy hl hr
theorem vals_bl {n : Nat} {ys : List V} {f : Nat → Bool} (hl : ys.length = n) (h : ∀ i y, ys[i]? = some y → y = V.bl (f i)) : ys = ((List.range n).map f).map V.bl := by
  refine List.ext_getElem? fun i => ?_
  by_cases hi : i < n
  · have hi' : i < ys.length := by omega
    have e := h i ys[i] (by simp [hi'])
    simp [hi, hi', e]
  · rw [List.getElem?_eq_none (by omega), List.getElem?_eq_none (by simp; omega)]
theorem vals_int {n : Nat} {ys : List V} {f : Nat → Int} (hl : ys.length = n) (h : ∀ i y, ys[i]? = some y → y = V.int (f i)) : ys = ((List.range n).map f).map V.int := by
  refine List.ext_getElem? fun i => ?_
  by_cases hi : i < n
  · have hi' : i < ys.length := by omega
    have e := h i ys[i] (by simp [hi'])
    simp [hi, hi', e]
  · rw [List.getElem?_eq_none (by omega), List.getElem?_eq_none (by simp; omega)]

def nI (ns : List Nat) : List Int := ns.map fun (n : Nat) => (n : Int)
theorem nI_length (ns : List Nat) : (nI ns).length = ns.length := by simp [nI]
/-- a row as data -/
def rowD (ns : List Nat) : PyData := .tuple ((nI ns).map PyData.int)

/-! ### errors with one field -/
def spErr (C : Addr) (f : Str) : Sp := fun vs H Q _ => ∃ (a : Addr) (y : V), vs = [.ref a, y] ∧ H a = some (exo a C none) ∧ ∀ dx, H dx = none → dx ≠ a → Q .non (upd (upd H dx (exd dx [(f, y)])) a (exo a C (some dx)))
structure ErT (K : PySem.W.Frag) (mg : Str → Option Value) (x f q : Str) (st : Stmt) (C fI : Addr) (fd : FuncData) : Prop where
  oex : OexC K C
  xf : XfC K C
  no : PySem.W.findIn K (.ref C) f = some none
  mgC : mg x = some (.ref C)
  iC : PySem.W.findIn K (.ref C) "__init__" = some (some (.ref fI))
  tI : PySem.W.typeIn K (.ref fI) = some (.type "function")
  fn : Fun K "__init__" q st fI fd
  b : Binds K fd ["self", f] []
structure ErC (P : Program) (w : World) (K : PySem.W.Frag) (mg : Str → Option Value) (base : Heap) (x f : Str) (C : Addr) : Prop where
  ex : ∃ (fI : Addr) (fd : FuncData), PySem.W.findIn K (.ref C) "__init__" = some (some (.ref fI)) ∧ PySem.W.typeIn K (.ref fI) = some (.type "function") ∧ Binds K fd ["self", f] [] ∧ FnOk P w K mg base CX0 1 fI fd ["self", f] (spErr C f)
  oex : OexC K C
  xf : XfC K C
  no : PySem.W.findIn K (.ref C) f = some none
  mgC : mg x = some (.ref C)
/-- raise X(e): what the making of the error asks of its argument's value -/
def rzQ (C : Addr) (f : Str) (W : WX) (σ : L2.St) (y : V) (H1 : Hp) : Prop := ([y] : List V).length ≤ 1000 ∧ ∀ a, H1 a = none → spErr C f (.ref a :: ([y] ++ [])) (upd H1 a (exo a C none))
  (fun v H2 => v = .non ∧ ∃ (d : Addr) (fs : List (Str × V)), H2 a = some (exo a C (some d)) ∧ H2 d = some (exd d fs) ∧ H1 d = none ∧ W (.ref C) (some d) σ (upd (del H2 a) d (.xd fs))) (fun _ _ _ => False)
def tRz (C : Addr) (f : Str) (W : WX) (te : TE) : TS := fun _ σ H => te σ H fun y H1 => rzQ C f W σ y H1
theorem rz_ok {C : Addr} {f : Str} {W : WX} {σ : L2.St} {y : V} {H1 : Hp} (h : ∀ d, H1 d = none → W (.ref C) (some d) σ (upd H1 d (.xd [(f, y)]))) : rzQ C f W σ y H1 := by
  refine ⟨(by show 1 ≤ 1000; omega), fun a ha => ⟨a, y, rfl, upd_same, fun dx hd hne => ⟨rfl, dx, [(f, y)], upd_same, ?_, ?_, ?_⟩⟩⟩
  · rw [upd_ne hne, upd_same]
  · rwa [upd_ne hne] at hd
  · have hd1 : H1 dx = none := by rwa [upd_ne hne] at hd
    have e : upd (del (upd (upd (upd H1 a (exo a C none)) dx (exd dx [(f, y)])) a (exo a C (some dx))) a) dx (.xd [(f, y)]) = upd H1 dx (.xd [(f, y)]) := by
      funext b
      by_cases h1 : b = dx
      · rw [h1, upd_same, upd_same]
      · rw [upd_ne h1, upd_ne h1]
        by_cases h2 : b = a
        · rw [h2, del_same, ha]
        · rw [del_ne h2, upd_ne h2, upd_ne h1, upd_ne h2]
    rw [e]
    exact h dx hd1
theorem ps_rz {X : Cx} {x f : Str} {C : Addr} {W : WX} {e : Expr} {te : TE} {p pos pos' : Pos} (hc : X.calm = true) (T : ErC X.prog X.w X.K X.mg X.base x f C) (hr : Room 2 X.A) (tk : Takes X W) (hg : Gl X x) (he : PE X e te)
    (hdb : (x == ("__debug__" : Str)) = false := by decide) (hse : starEach [e] X.env = (false, eval e X.env) :: starEach [] X.env := by rfl) :
    PS X (.Raise (some (.Call (.Name x p) [e] [] pos)) none pos') (tRz C f W te) := by
  obtain ⟨fI, fd, iC, tI, bI, F⟩ := T.ex
  refine ⟨fun pins s σ H D I h => ?_⟩
  exact (ps_raise hc tk (pmk_oex T.oex iC tI F hr bI .nil pass0 hg T.mgC (pa_cons (hs := hse) he pa_nil) hdb hse (by rfl))).run pins s σ H D I h
section
variable {P : Program} {w : World} {K : PySem.W.Frag} {mg : Str → Option Value} {base : Heap} {C fI : Addr} {fd : FuncData}
theorem ErT.ok {x f q : Str} {st : Stmt} (T : ErT K mg x f q st C fI fd) (S : FnScope ["self", f] ["self", f] (defScope st))
    (hb : ∀ (cdv : Value) (A : Around) (outer : List Env) (s : Shared) (H : Hp) (E : XK), PSs (cxOf CX0 P w K mg base ["self", f] q (defScope st) fI cdv A outer s H E).nox (defBody st) (tOst K f (tVar 0) (tVar 1))) :
    ErC P w K mg base x f C := by
  refine ⟨⟨fI, fd, T.iC, T.tI, T.b, ?_⟩, T.oex, T.xf, T.no, T.mgC⟩
  refine T.fn.ok S (fun vs H Q E h => ?_) (fun cdv A outer s H vs Q E hr h => ?_)
  · obtain ⟨a, y, rfl, _⟩ := h
    rfl
  · obtain ⟨a, y, rfl, ha, k⟩ := h
    exact ⟨_, hb cdv A outer s H E, _, rfl, _, rfl, a, C, rfl, T.oex, T.no, .inl ⟨ha, k⟩⟩
theorem ErT.mk' {h : Heap} {x f q : Str} {st : Stmt} {nm qc : Str} {N : Addr} {bs bm : List Value} {sn : List Str} {sub : List Value} {ab : Bool} {col : Option Bool} {dd : Option Addr} {k0 k1 k2 k3 k5 : Option Value} {oc : Value} {od an : Option Addr} {osl : Array (Option Value)} {kV doc pm cdv ct : Value}
    (X : K.In h) (G : h.Ns mainGlobals mg) (aC : PySem.W.nsIn K mainGlobals x = some (some (.ref C))) (xL : K.lookup C = some (excClassObj nm qc C N bs bm true sn sub ab col dd k0 k1 k2 k3 k5 "ValueError.__new__")) (rv : PySem.HandSPX.refsVE bm = true)
    (sa : PySem.W.findIn K (.ref C) "__setattr__" = some (some (.builtin "object.__setattr__"))) (ga : PySem.W.findIn K (.ref C) "__getattribute__" = some (some (.builtin "BaseException.__getattribute__"))) (gg : PySem.W.findIn K (.ref C) "__getattr__" = some none) (nb : PySem.W.findIn K (.ref C) f = some none)
    (a1 : PySem.W.findIn K (.ref C) "__init__" = some (some (.ref fI))) (t1 : PySem.W.typeIn K (.ref fI) = some (.type "function")) (l1 : K.lookup fI = some ⟨oc, od, .func (PySem.W.fnOf "__init__" q (defArgs st) (defBody st) (defScope st) .none kV doc pm an cdv ct), osl⟩) (c1 : PySem.W.codeIn K cdv q = true) (k1' : PySem.W.keepIn K (.ref fI) = true)
    (kC : PySem.W.keepIn K (.ref C) = true) (eC : PySem.W.subIn K (.ref C) (.type "BaseException") = some true) (tC : PySem.W.typeIn K (.ref C) = some (.type "type")) (hC : PySem.W.hasDictIn K C = true)
    (hb : ∀ (kV doc pm : Value) (an : Option Addr) (cdv ct : Value) (us : List Value), us.length = (["self", f] : List Str).length → bindArgs (PySem.W.fnOf "__init__" q (defArgs st) (defBody st) (defScope st) .none kV doc pm an cdv ct) ⟨us, []⟩ = pure ((["self", f] : List Str).zip us)) :
    ErT K mg x f q st C fI (PySem.W.fnOf "__init__" q (defArgs st) (defBody st) (defScope st) .none kV doc pm an cdv ct) :=
  ⟨⟨⟨nm, qc, N, bs, bm, sn, sub, ab, col, dd, k0, k1, k2, k3, k5, xL, rv⟩, sa, eC, tC, kC⟩, ⟨ga, gg, eC, hC⟩, nb, PySem.W.mg_of X G aC, a1, t1, fun_mk l1 c1 k1', (fun_mk l1 c1 k1').binds hb⟩

end

def itm : PyData → List PyData
  | .tuple xs => xs
  | _ => []
def boOf : PyData → Bool
  | .bool b => b
  | _ => false
def iOf : PyData → Int
  | .int i => i
  | _ => 0

section
variable {K : PySem.W.Frag} {H : Hp}
theorem _root_.L2.DpAll.at_ {xs : List V} {ds : List PyData} (h : DpAll K H xs ds) {i : Nat} (hi : i < ds.length) : ∃ x, xs[i]? = some x ∧ atI xs (i : Int) = some x ∧ Dp K H x (ds.getD i .none) := by
  obtain ⟨x, h1, h2⟩ := DpAll.get h (i := i) (d := ds.getD i .none) (by simp [hi])
  exact ⟨x, h1, atI_nat h1, h2⟩
theorem isTn_tup {d : PyData} {n : Int} (h : isTn d n = true) : ∃ ds, d = .tuple ds ∧ (ds.length : Int) = n := by
  cases d with
  | tuple ds => exact ⟨ds, rfl, by simpa [isTn] using h⟩
  | _ => cases h
end

/-- x is not b -/
def rNotBA : R2 := fun x y H Q => ∃ b : Bool, y = .bl b ∧ Q (.bl (!decide (x = .bl b))) H
theorem op_notBA {X : Cx} : OpR X (compareOp .IsNot) rNotBA := by
  intro pins s σ H x y v u Q I rx ry h
  obtain ⟨b, rfl, q⟩ := h
  cases (show u = Value.bool b from ry)
  have fin : ∀ c, (x = .bl b) = (c = true) → decide (x = .bl b) = c → EP X pins σ Q (.bool (!c)) s := fun c _ e => ⟨.bl (!c), H, I, rfl, by rw [← e]; exact q⟩
  by_cases e : x = .bl b
  · subst e
    cases (show v = Value.bool b from rx)
    exact wpAny_isNot_self rfl ⟨.bl false, H, I, rfl, by simpa using q⟩
  · have e2 : (!decide (x = .bl b)) = true := by simpa using e
    rw [e2] at q
    have go : plainIs v (.bool b) = true ∧ v ≠ .bool b := by
      cases x with
      | non => cases (show v = Value.none from rx); exact ⟨rfl, fun z => by cases z⟩
      | bl c => cases (show v = Value.bool c from rx); exact ⟨rfl, fun z => by cases z; exact e rfl⟩
      | int i => obtain ⟨t, rfl⟩ := rx; exact ⟨rfl, fun z => by cases z⟩
      | str i => obtain ⟨t, rfl⟩ := rx; exact ⟨rfl, fun z => by cases z⟩
      | byt i => obtain ⟨t, rfl⟩ := rx; exact ⟨rfl, fun z => by cases z⟩
      | flt i => obtain ⟨t, rfl⟩ := rx; exact ⟨rfl, fun z => by cases z⟩
      | ref i => cases (show v = Value.ref i from rx); exact ⟨rfl, fun z => by cases z⟩
      | ty i => cases (show v = Value.type i from rx); exact ⟨rfl, fun z => by cases z⟩
    exact wpAny_isNot_other go.1 go.2 ⟨.bl true, H, I, rfl, q⟩

theorem exm_of {K : PySem.W.Frag} {S c : Addr} {b : Bool} (h1 : PySem.W.subIn K (.ref S) (.type "BaseException") = some true) (h2 : PySem.W.isClsIn K S = true) (h3 : PySem.W.typeIn K (.ref S) = some (.type "type")) (h4 : PySem.W.subIn K (.ref c) (.ref S) = some b) :
    PySem.W.exmOne K (.ref c) (.ref S) = some b := by
  have e1 : (PySem.W.subIn K (.ref S) (.type "BaseException") == some true) = true := by rw [h1] <;> rfl
  have e2 : ((PySem.W.clsIn K S).isSome && PySem.W.typeIn K (.ref S) == some (.type "type")) = true := by
    have h2' : (PySem.W.clsIn K S).isSome = true := h2
    rw [h2', h3] <;> rfl
  show (if (PySem.W.subIn K (.ref S) (.type "BaseException") == some true) = true then (if ((PySem.W.clsIn K S).isSome && PySem.W.typeIn K (.ref S) == some (.type "type")) = true then PySem.W.subIn K (.ref c) (.ref S) else none) else none) = some b
  rw [if_pos e1, if_pos e2]
  exact h4

theorem getD_map {α β : Type} (f : α → β) (l : List α) (i : Nat) (d : α) (e : β) (h : i < l.length) : (l.map f).getD i e = f (l.getD i d) := by simp [h]

/-! ### repr of small data -/
structure Sm (N D : Nat) (d : PyData) : Prop where
  sh : d.showable = true
  lv : d.leavesShort 61 = true
  nd : d.hasDict = false
  bk : d.bulk ≤ N
  dp : d.depth ≤ D
structure SmA (N D : Nat) (xs : List PyData) : Prop where
  sh : PyData.showableAll xs = true
  lv : PyData.leavesShortAll 61 xs = true
  nd : PyData.hasDictAll xs = false
  bk : PyData.bulkAll xs ≤ N
  dp : PyData.depthAll xs ≤ D
theorem Sm.none' {N D : Nat} : Sm N D .none := ⟨rfl, rfl, rfl, Nat.zero_le _, Nat.zero_le _⟩
theorem Sm.bl' {N D : Nat} {b : Bool} : Sm N D (.bool b) := ⟨rfl, rfl, rfl, Nat.zero_le _, Nat.zero_le _⟩
theorem log_60 {n : Nat} (h : n < 10 ^ 60) : n.log2 < 1920 := by
  by_cases e : n = 0
  · subst e; decide
  · have : n.log2 < 200 := by
      rw [Nat.log2_lt e]
      exact Nat.lt_of_lt_of_le h (by decide)
    omega
theorem Sm.int' {N D : Nat} {i : Int} (h : i.natAbs < 10 ^ 60) : Sm N D (.int i) := by
  refine ⟨by simp only [PyData.showable, decide_eq_true_eq]; exact log_60 h, ?_, rfl, Nat.zero_le _, Nat.zero_le _⟩
  have e := int_text_length_le10 (k := 60) (by decide) h
  simp only [PyData.leavesShort, decide_eq_true_eq]
  show (Str.ofString (toString i)).length ≤ 61
  rw [PySem.ofString_length]; exact e
theorem SmA.nil' {N D : Nat} : SmA N D [] := ⟨rfl, rfl, rfl, Nat.zero_le _, Nat.zero_le _⟩
theorem SmA.cons' {N n m D : Nat} {x : PyData} {xs : List PyData} (h : Sm n D x) (r : SmA m D xs) (e : n + 1 + m ≤ N) : SmA N D (x :: xs) := by
  refine ⟨by simp only [PyData.showableAll, h.sh, r.sh, Bool.and_self], by simp only [PyData.leavesShortAll, h.lv, r.lv, Bool.and_self], by simp only [PyData.hasDictAll, h.nd, r.nd, Bool.or_self], ?_, ?_⟩
  · have := h.bk
    have := r.bk
    simp only [PyData.bulkAll]
    omega
  · have := h.dp
    have := r.dp
    simp only [PyData.depthAll]
    omega
theorem SmA.of_all {n D : Nat} : ∀ {xs : List PyData}, (∀ x ∈ xs, Sm n D x) → SmA ((n + 1) * xs.length) D xs
  | [], _ => SmA.nil'
  | x :: xs, h => SmA.cons' (h x (List.mem_cons_self ..)) (SmA.of_all fun y hy => h y (List.mem_cons_of_mem _ hy)) (by rw [List.length_cons, Nat.mul_succ]; omega)
theorem SmA.mono {N M D : Nat} {xs : List PyData} (h : SmA N D xs) (e : N ≤ M) : SmA M D xs := ⟨h.sh, h.lv, h.nd, Nat.le_trans h.bk e, h.dp⟩
theorem SmA.tup {N D : Nat} {xs : List PyData} (h : SmA N D xs) : Sm N (D + 1) (.tuple xs) :=
  ⟨by simpa only [PyData.showable] using h.sh, by simpa only [PyData.leavesShort] using h.lv, by simpa only [PyData.hasDict] using h.nd, by simpa only [PyData.bulk] using h.bk, by simp only [PyData.depth]; have := h.dp; omega⟩
theorem Sm.mono {N M D C : Nat} {d : PyData} (h : Sm N D d) (e : N ≤ M) (f : D ≤ C) : Sm M C d := ⟨h.sh, h.lv, h.nd, Nat.le_trans h.bk e, Nat.le_trans h.dp f⟩
theorem Sm.fits {N D : Nat} {d : PyData} (h : Sm N D d) (e : N ≤ 200000) : d.shown.length ≤ sizeLine := by
  have h1 := PyData.shown_le_bulk 61 (by decide) d h.lv
  have h2 := h.bk
  rw [sizeLine_eq]
  omega
theorem Sm.ints {N : Nat} {ns : List Nat} (h : ∀ n ∈ ns, n < 10 ^ 60) (e : ns.length ≤ N) : Sm N 1 (rowD ns) := by
  refine SmA.tup (SmA.mono (SmA.of_all (n := 0) fun x hx => ?_) (by rw [List.length_map, nI_length]; omega))
  obtain ⟨i, hi, rfl⟩ := List.mem_map.mp hx
  obtain ⟨n, hn, rfl⟩ := List.mem_map.mp hi
  exact Sm.int' (by have := h n hn; simpa using this)
def spLike (K : PySem.W.Frag) : Sp := fun vs H Q _ => ∃ (v u : V) (d : PyData) (N D : Nat), vs = [v, u] ∧ Dp K H v d ∧ Dp K H u d ∧ Sm N D d ∧ N ≤ 200000 ∧ D ≤ 60 ∧ Q (.bl true) H

/-! ### the law's state -/
/-- all but the dict at a and the list at l stands as before -/
def Sbt (a l : Addr) (H H' : Hp) : Prop := ∀ b o, H b = some o → b ≠ a → b ≠ l → H' b = some o
theorem Sbt.refl {a l : Addr} (H : Hp) : Sbt a l H H := fun _ _ e _ _ => e
theorem Sbt.trans {a l : Addr} {H H1 H2 : Hp} (h : Sbt a l H H1) (k : Sbt a l H1 H2) : Sbt a l H H2 := fun b o e h1 h2 => k b o (h b o e h1 h2) h1 h2
theorem Sbt.of {a l : Addr} {H H1 : Hp} (h : Same H H1) : Sbt a l H H1 := fun b o e _ _ => h b o e
theorem Sbt.same {a l : Addr} {H H1 H2 : Hp} (h : Sbt a l H H1) (k : Same H1 H2) : Sbt a l H H2 := fun b o e h1 h2 => k b o (h b o e h1 h2)
theorem Sbt.mut {a l p : Addr} {o : HO} {H H1 : Hp} (h : Sbt a l H H1) (n : H p = none) : Sbt a l H (upd H1 p o) := fun b u e h1 h2 => by
  rw [upd_ne (ne_of_none e n)]
  exact h b u e h1 h2
theorem Sbt.a {a l : Addr} {o : HO} {H H1 : Hp} (h : Sbt a l H H1) : Sbt a l H (upd H1 a o) := fun b u e h1 h2 => by
  rw [upd_ne h1]
  exact h b u e h1 h2
theorem Sbt.l {a l : Addr} {o : HO} {H H1 : Hp} (h : Sbt a l H H1) : Sbt a l H (upd H1 l o) := fun b u e h1 h2 => by
  rw [upd_ne h2]
  exact h b u e h1 h2
def stK (c l : Addr) (m : Nat) : List (Key × V) := [(.inr "cells", .ref c), (.inr "lefts", .ref l), (.inr "at", .int m)]
structure LStX (H : Hp) (a l : Addr) (n : Nat) (c : Addr) (cs ls : List Int) (m : Nat) : Prop where
  top : H a = some (.dK (stK c l m))
  cells : H c = some (.lst (cs.map V.int))
  lefts : H l = some (.lst (ls.map V.int))
  len : ls.length = cs.length
  pos : 0 < cs.length
  few : m ≤ n
  apart : c ≠ l
def LSt (H : Hp) (a l c : Addr) (n : Nat) : Prop := ∃ cs ls m, LStX H a l n c cs ls m
theorem LSt.same {H H' : Hp} {a l c : Addr} {n : Nat} (h : LSt H a l c n) (e : Same H H') : LSt H' a l c n := by
  obtain ⟨cs, ls, m, h⟩ := h
  exact ⟨cs, ls, m, e _ _ h.top, e _ _ h.cells, e _ _ h.lefts, h.len, h.pos, h.few, h.apart⟩
theorem LSt.mono {H : Hp} {a l c : Addr} {n k : Nat} (h : LSt H a l c n) (e : n ≤ k) : LSt H a l c k := by
  obtain ⟨cs, ls, m, h⟩ := h
  exact ⟨cs, ls, m, h.top, h.cells, h.lefts, h.len, h.pos, Nat.le_trans h.few e, h.apart⟩
/-- what is not the state's own may change -/
theorem LSt.put {H : Hp} {a l c p : Addr} {n : Nat} {o : HO} (h : LSt H a l c n) (e1 : p ≠ a) (e2 : p ≠ l) (e3 : p ≠ c) : LSt (upd H p o) a l c n := by
  obtain ⟨cs, ls, m, h⟩ := h
  exact ⟨cs, ls, m, by rw [upd_ne (Ne.symm e1)]; exact h.top, by rw [upd_ne (Ne.symm e3)]; exact h.cells, by rw [upd_ne (Ne.symm e2)]; exact h.lefts, h.len, h.pos, h.few, h.apart⟩
/-- what is none of the state's own -/
theorem LSt.off {H : Hp} {a l c p : Addr} {n : Nat} (h : LSt H a l c n) (e : H p = none) : p ≠ a ∧ p ≠ l ∧ p ≠ c := by
  obtain ⟨cs, ls, m, h⟩ := h
  exact ⟨Ne.symm (ne_of_none h.top e), Ne.symm (ne_of_none h.lefts e), Ne.symm (ne_of_none h.cells e)⟩
theorem LSt.new {H : Hp} {a l c p : Addr} {n : Nat} {o : HO} (h : LSt H a l c n) (e : H p = none) : LSt (upd H p o) a l c n := by
  obtain ⟨e1, e2, e3⟩ := h.off e
  exact h.put e1 e2 e3
section
variable {K : PySem.W.Frag}
mutual
def noList : PyData → Bool
  | .list _ => false
  | .tuple xs => noListAll xs
  | .dict _ => false
  | _ => true
def noListAll : List PyData → Bool
  | [] => true
  | x :: xs => noList x && noListAll xs
end
/-- at a stands no tuple -/
structure NoT (H : Hp) (a : Addr) : Prop where
  tup : ∀ xs, H a ≠ some (.tup xs)
  frz : ∀ o u, H a ≠ some (.frz o u)
theorem NoT.lst {H : Hp} {a : Addr} {xs : List V} (h : H a = some (.lst xs)) : NoT H a := ⟨(fun _ z => by rw [h] at z; cases z), (fun _ _ z => by rw [h] at z; cases z)⟩
theorem NoT.dK {H : Hp} {a : Addr} {xs : List (Key × V)} (h : H a = some (.dK xs)) : NoT H a := ⟨(fun _ z => by rw [h] at z; cases z), (fun _ _ z => by rw [h] at z; cases z)⟩
theorem LSt.noA {H : Hp} {a l c : Addr} {n : Nat} (s : LSt H a l c n) : NoT H a := by
  obtain ⟨cs, ls, m, s⟩ := s
  exact .dK s.top
theorem LSt.noL {H : Hp} {a l c : Addr} {n : Nat} (s : LSt H a l c n) : NoT H l := by
  obtain ⟨cs, ls, m, s⟩ := s
  exact .lst s.lefts
theorem seqTN {H H' : Hp} {a l b : Addr} {xs : List V} (e : Sbt a l H H') (na : NoT H a) (nl : NoT H l) (h : SqT K H b xs) : SqT K H' b xs := by
  rcases h with (h | ⟨o, h⟩) | h
  · exact .inl (.inl (e _ _ h (fun z => na.tup xs (by rw [← z]; exact h)) (fun z => nl.tup xs (by rw [← z]; exact h))))
  · exact .inl (.inr ⟨o, e _ _ h (fun z => na.frz _ _ (by rw [← z]; exact h)) (fun z => nl.frz _ _ (by rw [← z]; exact h))⟩)
  · exact .inr h
theorem Sbt.seqT {H H' : Hp} {a l c b : Addr} {n : Nat} {xs : List V} (e : Sbt a l H H') (s : LSt H a l c n) (h : SqT K H b xs) : SqT K H' b xs := seqTN e s.noA s.noL h
mutual
theorem keepN {H H' : Hp} {a l : Addr} (e : Sbt a l H H') (na : NoT H a) (nl : NoT H l) : ∀ (d : PyData) (v : V), noList d = true → Dp K H v d → Dp K H' v d
  | .none, _, _, h => by cases h; exact .non
  | .bool b, _, _, h => by cases h; exact .bl b
  | .int i, _, _, h => by cases h; exact .int i
  | .str x, _, _, h => by cases h; exact .str x
  | .list ds, _, q, h => by cases q
  | .tuple ds, _, q, h => by
    cases h with
    | tup hs ha => exact .tup (seqTN e na nl hs) (keepNs e na nl ds _ (by simpa only [noList] using q) ha)
  | .dict _, _, _, h => by cases h
theorem keepNs {H H' : Hp} {a l : Addr} (e : Sbt a l H H') (na : NoT H a) (nl : NoT H l) : ∀ (ds : List PyData) (vs : List V), noListAll ds = true → DpAll K H vs ds → DpAll K H' vs ds
  | [], _, _, h => by cases h; exact .nil
  | d :: ds, _, q, h => by
    cases h with
    | cons h1 h2 =>
      simp only [noListAll, Bool.and_eq_true] at q
      exact .cons (keepN e na nl d _ q.1 h1) (keepNs e na nl ds _ q.2 h2)
end
theorem keepT {H H' : Hp} {a l c : Addr} {n : Nat} (e : Sbt a l H H') (s : LSt H a l c n) (d : PyData) (v : V) (q : noList d = true) (h : Dp K H v d) : Dp K H' v d := keepN e s.noA s.noL d v q h
theorem keepTs {H H' : Hp} {a l c : Addr} {n : Nat} (e : Sbt a l H H') (s : LSt H a l c n) (ds : List PyData) (vs : List V) (q : noListAll ds = true) (h : DpAll K H vs ds) : DpAll K H' vs ds := keepNs e s.noA s.noL ds vs q h
/-- a list that changes -/
theorem keepLs {H : Hp} {p : Addr} {xs : List V} {o : HO} (hp : H p = some (.lst xs)) {ds : List PyData} {vs : List V} (q : noListAll ds = true) (h : DpAll K H vs ds) : DpAll K (upd H p o) vs ds :=
  keepNs (a := p) (l := p) (Sbt.refl H).a (.lst hp) (.lst hp) ds vs q h
theorem keepL {H : Hp} {p : Addr} {xs : List V} {o : HO} (hp : H p = some (.lst xs)) {d : PyData} {v : V} (q : noList d = true) (h : Dp K H v d) : Dp K (upd H p o) v d :=
  keepN (a := p) (l := p) (Sbt.refl H).a (.lst hp) (.lst hp) d v q h
theorem noListAll_of : ∀ {xs : List PyData}, (∀ x ∈ xs, noList x = true) → noListAll xs = true
  | [], _ => rfl
  | x :: xs, h => by
    simp only [noListAll, Bool.and_eq_true]
    exact ⟨h x (List.mem_cons_self ..), noListAll_of fun y hy => h y (List.mem_cons_of_mem _ hy)⟩
theorem noList_row (ns : List Nat) : noList (rowD ns) = true := by
  simp only [rowD, noList]
  exact noListAll_of fun x hx => by obtain ⟨i, _, rfl⟩ := List.mem_map.mp hx; rfl
theorem noList_rows (rows : List (List Nat)) : noListAll (rows.map rowD) = true := noListAll_of fun x hx => by obtain ⟨r, _, rfl⟩ := List.mem_map.mp hx; exact noList_row r
end
def spMixed : Sp := fun vs H Q _ => ∃ i k : Int, vs = [.int i, .int k] ∧ 0 ≤ k ∧ k ≤ 10000000 ∧ ∀ r : Int, 0 ≤ r → r < 2147483629 → Q (.int r) H
def spDraw : Sp := fun vs H Q _ => ∃ (a l c : Addr) (n : Nat) (lim : Int), vs = [.ref a, .int lim] ∧ LSt H a l c n ∧ n ≤ 1000000 ∧ 1 ≤ lim ∧ lim < 2 ^ 60 ∧ ∀ H' (r : Int), Sbt a l H H' → LSt H' a l c (n + 1) → 0 ≤ r → r < lim → Q (.int r) H'

theorem ks1 : ¬ (("cells" : Str) = "at") := by decide +kernel
theorem ks2 : ¬ (("lefts" : Str) = "at") := by decide +kernel
theorem ks3 : ¬ (("cells" : Str) = "lefts") := by decide +kernel
theorem dg_cells {H : Hp} {a c l : Addr} {m : Nat} (h : H a = some (.dK (stK c l m))) : DGet H a (V.str "cells") (some (.ref c)) := by
  have e : valV (stK c l m) (.inr "cells" : Key) = some (.ref c) := valV_pos rfl
  rw [← e]
  exact DGet.k (k := (Sum.inr ("cells" : Str) : Key)) h
theorem dg_lefts {H : Hp} {a c l : Addr} {m : Nat} (h : H a = some (.dK (stK c l m))) : DGet H a (V.str "lefts") (some (.ref l)) := by
  have e : valV (stK c l m) (.inr "lefts" : Key) = some (.ref l) := by simp [valV, stK, List.find?, ks3]
  rw [← e]
  exact DGet.k (k := (Sum.inr ("lefts" : Str) : Key)) h
theorem dg_at {H : Hp} {a c l : Addr} {m : Nat} (h : H a = some (.dK (stK c l m))) : DGet H a (V.str "at") (some (.int m)) := by
  have e : valV (stK c l m) (.inr "at" : Key) = some (.int m) := by simp [valV, stK, List.find?, ks1, ks2]
  rw [← e]
  exact DGet.k (k := (Sum.inr ("at" : Str) : Key)) h
theorem dp_at {H : Hp} {a c l : Addr} {m : Nat} (h : H a = some (.dK (stK c l m))) : DPut H a (V.str "at") (V.int ((m : Int) + 1)) (upd H a (.dK (stK c l (m + 1)))) := by
  have e : putK (stK c l m) (.inr "at" : Key) (V.int ((m : Int) + 1)) = stK c l (m + 1) := by simp [putK, stK, ks1, ks2]
  rw [← e]
  exact DPut.k (k := (Sum.inr ("at" : Str) : Key)) h (by show 3 < sizeLine; decide)

theorem Sbt.free {a l q : Addr} {H H' : Hp} (e : Sbt a l H H') (h : H' q = none) (na : q ≠ a) (nl : q ≠ l) : H q = none := by
  cases hq : H q with
  | none => rfl
  | some o =>
    have := e q o hq na nl
    rw [h] at this
    cases this
theorem dp_bools {K : PySem.W.Frag} {H : Hp} : ∀ bs : List Bool, DpAll K H (bs.map V.bl) (bs.map PyData.bool)
  | [] => .nil
  | b :: bs => .cons (.bl b) (dp_bools bs)
/-- a comprehension whose elements draw -/
theorem lcD {J : It} {n : Nat} {G : Hp → Prop} {Y : Nat → Hp → V → Hp → Prop} (w : Walk J n G Y) {g : TG} {te : TE} {vs : List Nat} {σ : L2.St} {H1 : Hp} {D : Addr} {Qd : Hp → Prop} {a l c : Addr} {m : Nat} (st : Nat) (hD : H1 D = none) (hn : n < sizeLine) (R : Nat → V → Prop)
    (hl : LSt H1 a l c m) (hG : ∀ H, G H)
    (hs : ∀ i x H H' (Q : VK), i < n → Sbt a l H1 H → LSt H a l c (m + i * st) → Y i H x H' → (∀ y H4, R i y → Sbt a l H H4 → LSt H4 a l c (m + (i + 1) * st) → Q y H4) → g x (wipe σ vs) H' fun σ2 H2 => wipe σ2 vs = wipe σ vs ∧ te σ2 H2 Q)
    (hd : ∀ H ys, Sbt a l H1 H → LSt H a l c (m + n * st) → H D = some (.lst ys) → ys.length = n → (∀ i y, ys[i]? = some y → R i y) → Qd H) :
    ∃ W : Nat → Nat → Hp → Prop, (∃ m, W 0 m (upd H1 D (.lst []))) ∧ ∀ i m H, W i m H →
      (J.stop i H ∧ Qd H) ∨ (J.go i H ∧ ∃ Nx : Hp → Prop, (∀ H', Nx H' → ∃ m', m' < m ∧ W (i + 1) m' H') ∧ ∀ x H', J.yld i H x H' → g x (wipe σ vs) H' fun σ2 H2 => wipe σ2 vs = wipe σ vs ∧ tYes σ2 H2 fun b H3 =>
        if b = true then te σ2 H3 fun y H4 => ∃ acc, H4 D = some (.lst acc) ∧ acc.length < sizeLine ∧ Nx (upd H4 D (.lst (acc ++ [y]))) else Nx H3) := by
  obtain ⟨da, dl, dc⟩ := hl.off hD
  refine lc_it w (fun i H => Sbt a l H1 H ∧ LSt H a l c (m + i * st) ∧ ∃ ys, H D = some (.lst ys) ∧ ys.length = i ∧ ∀ j y, ys[j]? = some y → R j y) ⟨(Sbt.refl H1).mut hD, by rw [Nat.zero_mul]; exact hl.new hD, [], upd_same, rfl, fun j y h => by simp at h⟩ (fun i H _ p => hG H) (fun i x H H' hi p y => ?_) (fun H p => ?_)
  · obtain ⟨s, sl, ys, hy, hlen, hr⟩ := p
    have q := hs i x H H' (fun y H4 => ∃ acc, H4 D = some (.lst acc) ∧ acc.length < sizeLine ∧ Sbt a l H1 (upd H4 D (.lst (acc ++ [y]))) ∧ LSt (upd H4 D (.lst (acc ++ [y]))) a l c (m + (i + 1) * st) ∧ ∃ ys, (upd H4 D (.lst (acc ++ [y]))) D = some (.lst ys) ∧ ys.length = i + 1 ∧ ∀ j y, ys[j]? = some y → R j y) hi s sl y (fun v H4 r s4 sl4 => ?_)
    · have e : (fun σ2 H2 => wipe σ2 vs = wipe σ vs ∧ tYes σ2 H2 fun b H3 =>
        if b = true then te σ2 H3 fun y H4 => ∃ acc, H4 D = some (.lst acc) ∧ acc.length < sizeLine ∧ Sbt a l H1 (upd H4 D (.lst (acc ++ [y]))) ∧ LSt (upd H4 D (.lst (acc ++ [y]))) a l c (m + (i + 1) * st) ∧ ∃ ys, (upd H4 D (.lst (acc ++ [y]))) D = some (.lst ys) ∧ ys.length = i + 1 ∧ ∀ j y, ys[j]? = some y → R j y
        else Sbt a l H1 H3 ∧ LSt H3 a l c (m + (i + 1) * st) ∧ ∃ ys, H3 D = some (.lst ys) ∧ ys.length = i + 1 ∧ ∀ j y, ys[j]? = some y → R j y) =
        (fun σ2 H2 => wipe σ2 vs = wipe σ vs ∧ te σ2 H2 fun y H4 => ∃ acc, H4 D = some (.lst acc) ∧ acc.length < sizeLine ∧ Sbt a l H1 (upd H4 D (.lst (acc ++ [y]))) ∧ LSt (upd H4 D (.lst (acc ++ [y]))) a l c (m + (i + 1) * st) ∧ ∃ ys, (upd H4 D (.lst (acc ++ [y]))) D = some (.lst ys) ∧ ys.length = i + 1 ∧ ∀ j y, ys[j]? = some y → R j y) := by
        funext σ2 H2
        simp only [tYes, if_true]
      rw [e]
      exact q
    · refine ⟨ys, s4 _ _ hy da dl, by omega, (Sbt.trans s s4).mut hD, sl4.put da dl dc, _, upd_same, by simp [hlen], fun j z hz => ?_⟩
      by_cases hj : j < ys.length
      · rw [List.getElem?_append_left hj] at hz
        exact hr j z hz
      · rw [List.getElem?_append_right (by omega)] at hz
        have e : j = i := by
          have := (List.getElem?_eq_some_iff.mp hz).1
          simp at this
          omega
        subst e
        rw [hlen, Nat.sub_self] at hz
        simp at hz
        rw [← hz]
        exact r
  · obtain ⟨s, sl, ys, hy, hlen, hr⟩ := p
    exact hd H ys s sl hy hlen hr
/-- items that are numbers below a bound -/
theorem ints_of {ys : List V} {b : Nat} (h : ∀ (i : Nat) (y : V), ys[i]? = some y → ∃ r : Nat, y = V.int r ∧ r < b) : ∃ cs : List Nat, ys = (nI cs).map V.int ∧ cs.length = ys.length ∧ ∀ c ∈ cs, c < b := by
  induction ys with
  | nil => exact ⟨[], rfl, rfl, fun c hc => absurd hc (by simp)⟩
  | cons y ys ih =>
    obtain ⟨cs, h1, h2, h3⟩ := ih fun i z hz => h (i + 1) z (by simpa using hz)
    obtain ⟨r, h4, h5⟩ := h 0 y rfl
    refine ⟨r :: cs, by rw [h4, h1]; rfl, by simp [h2], fun c hc => ?_⟩
    rcases List.mem_cons.mp hc with e | e
    · rw [e]; exact h5
    · exact h3 c e
theorem bools_of {ys : List V} (h : ∀ (i : Nat) (y : V), ys[i]? = some y → ∃ b : Bool, y = V.bl b) : ∃ bs : List Bool, ys = bs.map V.bl ∧ bs.length = ys.length := by
  induction ys with
  | nil => exact ⟨[], rfl, rfl⟩
  | cons y ys ih =>
    obtain ⟨bs, h1, h2⟩ := ih fun i z hz => h (i + 1) z (by simpa using hz)
    obtain ⟨b, h4⟩ := h 0 y rfl
    exact ⟨b :: bs, by rw [h4, h1]; rfl, by simp [h2]⟩

section
variable {K : PySem.W.Frag} {H : Hp}
theorem cat_ok {a b : Addr} {xs ys : List V} {Q : VK} (h1 : SqT K H a xs) (h2 : SqT K H b ys) (hz : xs.length + ys.length ≤ sizeLine) (q : ∀ r H', Same H H' → SqT K H' r (xs ++ ys) → Q (.ref r) H') : rCatA K (.ref a) (.ref b) H Q := by
  refine ⟨a, b, xs, ys, rfl, rfl, h1, h2, hz, fun e => ?_, fun _ e => ?_, fun _ _ p hp => q p _ (Same.new hp) (.of upd_same)⟩
  · subst e
    exact q b H (Same.refl _) h2
  · subst e
    exact q a H (Same.refl _) (by rw [List.append_nil]; exact h1)
theorem sl_ok {a : Addr} {xs : List V} {lo hi : Option Int} {Q : VK} (h1 : SqT K H a xs) (q : ∀ r H', Same H H' → SqT K H' r (cutV xs lo hi) → Q (.ref r) H') : rSlA K (.ref a) lo hi H Q := by
  refine ⟨a, xs, rfl, h1, fun e => q a H (Same.refl _) ?_, fun _ p hp => q p _ (Same.new hp) (.of upd_same)⟩
  have : cutV xs lo hi = xs := by
    unfold cutV
    rw [e.1, e.2]
    simp
  rw [this]
  exact h1
theorem DpAll_cut {xs : List V} {ds : List PyData} (h : DpAll K H xs ds) (lo hi : Option Int) : ∃ es, DpAll K H (cutV xs lo hi) es ∧ (∀ d ∈ es, d ∈ ds) :=
  ⟨_, (h.drop _).take _, fun d hd => List.mem_of_mem_drop (List.mem_of_mem_take hd)⟩
end
theorem _root_.L2.SqT.to' {K : PySem.W.Frag} {H H' : Hp} {a : Addr} {xs : List V} (h : SqT K H a xs) (e : Same H H') : SqT K H' a xs := e.seqT h
/-! ### data that stays while the state, the lists of H0 change -/
def IsT (o : HO) : Prop := (∃ xs, o = .tup xs) ∨ ∃ ob u, o = .frz ob u
def Kp (H0 H H' : Hp) : Prop := ∀ b o, H b = some o → (H0 b = none ∨ IsT o) → H' b = some o
theorem Kp.refl {H0 H : Hp} : Kp H0 H H := fun _ _ e _ => e
theorem Kp.trans {H0 H H1 H2 : Hp} (h : Kp H0 H H1) (k : Kp H0 H1 H2) : Kp H0 H H2 := fun b o e c => k b o (h b o e c) c
theorem Kp.same {H0 H H1 : Hp} (h : Same H H1) : Kp H0 H H1 := fun b o e _ => h b o e
theorem Kp.sbt {H0 H H1 : Hp} {a l c : Addr} {n : Nat} (h : Sbt a l H H1) (s : LSt H a l c n) (ha : H0 a ≠ none) (hl : H0 l ≠ none) : Kp H0 H H1 := fun b o e k => by
  have nt : ∀ {x : Addr}, NoT H x → H0 x ≠ none → b ≠ x := fun {x} hn h0 z => by
    subst z
    rcases k with k | ⟨xs, k⟩ | ⟨ob, u, k⟩
    · exact h0 k
    · exact hn.tup xs (by rw [e, k])
    · exact hn.frz ob u (by rw [e, k])
  exact h b o e (nt s.noA ha) (nt s.noL hl)
theorem Kp.put {H0 H : Hp} {p : Addr} {xs : List V} {o : HO} (hp : H p = some (.lst xs)) (h0 : H0 p ≠ none) : Kp H0 H (upd H p o) := fun b u e k => by
  have : b ≠ p := fun z => by
    subst z
    rcases k with k | ⟨ys, k⟩ | ⟨ob, w, k⟩
    · exact h0 k
    · rw [hp] at e; cases e; cases k
    · rw [hp] at e; cases e; cases k
  rw [upd_ne this]
  exact e
def DpN (H0 : Hp) (K : PySem.W.Frag) (H : Hp) (v : V) (d : PyData) : Prop := ∀ H', Kp H0 H H' → Dp K H' v d
theorem DpN.dp {H0 H : Hp} {K : PySem.W.Frag} {v : V} {d : PyData} (h : DpN H0 K H v d) : Dp K H v d := h H .refl
theorem DpN.step {H0 H H' : Hp} {K : PySem.W.Frag} {v : V} {d : PyData} (h : DpN H0 K H v d) (e : Kp H0 H H') : DpN H0 K H' v d := fun H2 k => h H2 (e.trans k)
theorem DpN.base {H0 H1 H : Hp} {K : PySem.W.Frag} {v : V} {d : PyData} (h : DpN H1 K H v d) (e : ∀ b, H1 b = none → H0 b = none) : DpN H0 K H v d := fun H2 k => h H2 fun b o x y => k b o x (y.imp (e b) id)
theorem seqTK {H0 H H' : Hp} {K : PySem.W.Frag} {b : Addr} {xs : List V} (e : Kp H0 H H') (h : SqT K H b xs) : SqT K H' b xs := by
  rcases h with (h | ⟨o, h⟩) | h
  · exact .inl (.inl (e _ _ h (.inr (.inl ⟨_, rfl⟩))))
  · exact .inl (.inr ⟨o, e _ _ h (.inr (.inr ⟨_, _, rfl⟩))⟩)
  · exact .inr h
mutual
theorem DpN.flat {H0 H : Hp} {K : PySem.W.Frag} : ∀ (d : PyData) (v : V), noList d = true → Dp K H v d → DpN H0 K H v d
  | .none, _, _, h => by cases h; exact fun _ _ => .non
  | .bool b, _, _, h => by cases h; exact fun _ _ => .bl b
  | .int i, _, _, h => by cases h; exact fun _ _ => .int i
  | .str x, _, _, h => by cases h; exact fun _ _ => .str x
  | .list ds, _, q, h => by cases q
  | .tuple ds, _, q, h => by
    cases h with
    | tup hs ha => exact fun H' e => .tup (seqTK e hs) (DpN.flats ds _ (by simpa only [noList] using q) ha H' e)
  | .dict _, _, _, h => by cases h
theorem DpN.flats {H0 H : Hp} {K : PySem.W.Frag} : ∀ (ds : List PyData) (vs : List V), noListAll ds = true → DpAll K H vs ds → ∀ H', Kp H0 H H' → DpAll K H' vs ds
  | [], _, _, h, _, _ => by cases h; exact .nil
  | d :: ds, _, q, h, H', e => by
    cases h with
    | cons h1 h2 =>
      simp only [noListAll, Bool.and_eq_true] at q
      exact .cons (DpN.flat d _ q.1 h1 H' e) (DpN.flats ds _ q.2 h2 H' e)
end

def spBegin (K : PySem.W.Frag) : Sp := fun vs H Q _ => ∃ (p : Addr) (is : List Int), vs = [.ref p] ∧ SqL K H p (is.map V.int) ∧ is.length ≤ 1000 ∧ ∀ H' a l c, Same H H' → LSt H' a l c 0 → Q (.ref a) H'

theorem _root_.L2.SqT.cast {K : PySem.W.Frag} {H : Hp} {a : Addr} {xs ys : List V} (h : SqT K H a xs) (e : xs = ys) : SqT K H a ys := by rw [← e]; exact h

theorem canLay_ints : ∀ is : List Int, PyData.canLayAll0 (is.map PyData.int) = true
  | [] => rfl
  | i :: is => by
    simp only [List.map_cons, PyData.canLayAll0, PyData.canLay0, Bool.true_and]
    exact canLay_ints is
theorem shaped_ints (is : List Int) : SeqAt.shaped (.list (is.map PyData.int)) = true := by
  unfold SeqAt.shaped
  simp only [PyData.canLay0, canLay_ints, PyData.depth, depth_ints, Bool.true_and]
  rfl
theorem ints_any {ys : List V} (h : ∀ (i : Nat) (y : V), ys[i]? = some y → ∃ z : Int, y = .int z) : ∃ zs : List Int, ys = zs.map V.int ∧ zs.length = ys.length := by
  induction ys with
  | nil => exact ⟨[], rfl, rfl⟩
  | cons y ys ih =>
    obtain ⟨zs, h1, h2⟩ := ih fun i z hz => h (i + 1) z (by simpa using hz)
    obtain ⟨b, h4⟩ := h 0 y rfl
    exact ⟨b :: zs, by rw [h4, h1]; rfl, by simp [h2]⟩

/-! ### the end -/
theorem lawCallG {P : Program} {w : World} {K : PySem.W.Frag} {mg mb : Str → Option Value} {k : Nat} {fa a : Addr} {fd : FuncData} {x : Str} {sp : Sp} {s₁ : Shared} {vs : List Value} {ns : List Int}
    (KX : K.In s₁.heap) (hns : s₁.heap.Ns mainGlobals mg) (hb : s₁.heap.Ns builtinsNs mb) (hbb : ∀ y : Str, y ≠ "__name__" → mb y = bootBuiltins y) (hlim : s₁.heap.NoLimit) (hg : s₁.gens = #[])
    (ha : s₁.heap.get? a = some { cls := .type "list", data := .seq vs.toArray }) (hi : IntsAre vs ns) (hl : ns.length ≤ sizeLine) (hr : Room k callerA)
    (F : ∀ base : Heap, K.In base → base.Ns mainGlobals mg → FnOkG P w K mg base CX0 k fa fd [x] sp) (hbind : ∀ (s : Shared) (u : Value), BindsTo s fd ⟨[u], []⟩ [(x, u)])
    (hsp : ∀ H : Hp, Only H → SqL K H a (ns.map V.int) → sp [.ref a] H (fun v _ => v = .bl true) fun _ _ _ => False) :
    codeAny (model P w) callerA (.call (.ref fa) ⟨[.ref a], []⟩) (fun r s' => r = .ok (.ret (.bool true)) ∧ PySem.OldK s₁.heap s'.heap ∧ s'.os = s₁.os ∧ AllBare s'.gens) s₁ := by
  have rv := vals_ints hi
  have lv := hi.length
  have main : ∀ T : Hp, Only T → SqL K T a (ns.map V.int) → HOk P w T s₁.heap → (∀ b, T b ≠ none → b = a) → (T a ≠ none → K.lookup a = none) →
      codeAny (model P w) callerA (.call (.ref fa) ⟨[.ref a], []⟩) (fun r s' => r = .ok (.ret (.bool true)) ∧ PySem.OldK s₁.heap s'.heap ∧ s'.os = s₁.os ∧ AllBare s'.gens) s₁ := fun T tO tS tk tA tK => by
    have at_a : ∀ {b : Addr} {u : HO}, T b = some u → b = a := fun {b u} z => tA b (by rw [z]; exact fun y => nomatch y)
    have dict0 : ∀ {b : Addr} {o : Obj} {es : Array DictEntry} {ep : Nat}, s₁.heap.get? b = some o → o.data = .dict es ep → T b = none := fun {b o es ep} z d => by
      cases t : T b with
      | none => rfl
      | some u =>
        obtain rfl := at_a t
        have z2 := ha.symm.trans z
        cases z2
        exact nomatch d
    have dicts : ∀ {b : Addr} {m : Str → Option Value}, s₁.heap.Ns b m → (hidT s₁.heap T).Ns b m := fun {b m} z =>
      let ⟨o, es, ep, g1, g2, g3⟩ := z
      ⟨o, es, ep, hidT_get g1 (dict0 g1 g2), g2, g3⟩
    have kin : K.In (hidT s₁.heap T) := fun b o z => hidT_get (KX b o z) (by
      cases t : T b with
      | none => rfl
      | some u =>
        obtain rfl := at_a t
        have no := tK (fun y => by rw [t] at y; exact nomatch y)
        rw [no] at z
        exact nomatch z)
    obtain ⟨mc, lim1, lim2⟩ := hlim
    have mods : Mod K mg (hidT s₁.heap T) := ⟨kin, dicts hns, ⟨mb, dicts hb, hbb⟩, ⟨mc, dicts lim1, lim2⟩⟩
    have nil : ∀ {b : Addr}, b ∈ frs ([] : List Env) → False := fun {b} z => by cases z
    have env : Env0 P w K mg (hidT s₁.heap T) callerA [] s₁ T := ⟨rfl, mods, fun b o z => of_hidT z, Nat.le_of_eq (hidT_size ..), trivial, fun b z => (nil z).elim, tk, .of_eq hg⟩
    refine codeAny_mono ((F _ kin (dicts hns)).run _ [] s₁ T ⟨[.ref a], []⟩ [.ref a] [.ref a] _ _ rfl hr env (hbind _ _) (.cons rfl .nil) (hsp T tO tS)) fun r s' z => ?_
    cases r with
    | error e => exact False.elim z
    | ok fl =>
      cases fl with
      | ret u =>
        obtain ⟨v, H2, z1, z2, un, z4, z5, z6⟩ := z
        obtain rfl : v = .bl true := z6
        refine ⟨by rw [show u = Value.bool true from z5], PySem.OldK.of_keep fun b o g => ?_, z1, z2⟩
        rcases tO b with t | ⟨ob, xs, t⟩
        · exact un.keep b o g t (fun y => nil y) (fun y => nomatch y)
        · have g1 := (tk b _ t).1
          have g2 := (z4 b _ (un.frzs b ob _ t)).1
          rw [g1] at g
          cases g
          exact g2
      | next => exact False.elim z
      | brk => exact False.elim z
      | cont => exact False.elim z
  cases own : K.lookup a with
  | some o =>
    obtain rfl : o = { cls := .type "list", data := .seq vs.toArray } := Option.some.inj ((KX a o own).symm.trans ha)
    exact main (fun _ => none) (fun _ => .inl rfl) (.inr ⟨_, _, _, own, rfl, rfl, rfl, by simp only [List.size_toArray]; omega, by simpa using rv⟩) (fun b u z => nomatch z) (fun b z => (z rfl).elim) fun z => (z rfl).elim
  | none =>
    have hit : ∀ {b : Addr} {u : HO}, (if b = a then some (HO.frz { cls := .type "list", data := .seq vs.toArray } (.lst (ns.map V.int))) else none) = some u → b = a ∧ u = .frz { cls := .type "list", data := .seq vs.toArray } (.lst (ns.map V.int)) := fun {b u} z => by
      by_cases c : b = a
      · rw [if_pos c] at z
        exact ⟨c, (Option.some.inj z).symm⟩
      · rw [if_neg c] at z
        exact nomatch z
    refine main (fun b => if b = a then some (.frz { cls := .type "list", data := .seq vs.toArray } (.lst (ns.map V.int))) else none) (fun b => ?_) (.inl (.inr ⟨_, if_pos rfl⟩)) (fun b u z => ?_) (fun b z => ?_) fun _ => own
    · by_cases c : b = a
      · exact .inr ⟨_, _, if_pos c⟩
      · exact .inl (if_neg c)
    · obtain ⟨rfl, rfl⟩ := hit z
      exact ⟨ha, by simpa using hl, vs, _, rv, ha⟩
    · by_cases c : b = a
      · exact c
      · exact (z (if_neg c)).elim
/-- the goal that the head leaves, from the promise of the law's def; the loose values are told by XP -/
theorem walkG {l : PySem.W.OpenLaw} {n k : Nat} {q : Program} {loose : List Str} {XP : (Str → Option Value) → Heap → Prop} {YP : World → Heap → Prop} {d : DefRec} {K : Params → PySem.W.Frag} {sp : PySem.W.Frag → Sp} {x : Str}
    (hn : l.most = some n) (hn2 : n ≤ sizeLine) (hdf : d.params.defaults = []) (hr : Room k callerA) (hY : ∀ (w : World) (h : Heap), YP w h → (K w.params).In h)
    (F : ∀ (w : World) (mg : Str → Option Value) (fa : Addr) (h : Heap), (K w.params).In h → h.Ns mainGlobals mg → XP mg h → mg d.name = some (.ref fa) →
      ∃ fd : FuncData, (∀ (s : Shared) (u : Value), BindsTo s fd ⟨[u], []⟩ [(x, u)]) ∧ ∀ base : Heap, FnOkG l.prog w (K w.params) mg base CX0 k fa fd [x] (sp (K w.params)))
    (hsp : ∀ (K : PySem.W.Frag) (H : Hp) (a : Addr) (ns : List Int), ns.length ≤ n → Only H → SqL K H a (ns.map V.int) → sp K [.ref a] H (fun v _ => v = .bl true) fun _ _ _ => False) :
    PySem.W.WalkO q loose XP YP l.row.toRowW d [] (fun f vs => PySem.call f vs) := by
  refine Att.attach_call hn hdf fun w s₀ s₁ mg mb fa o pm cd doc a vs ns G Y ho hd hcd hmg hobj hints hlen hg => ?_
  have KX := hY w _ Y
  obtain ⟨fd, hb, hF⟩ := F w mg fa _ KX G.T.g G.X hmg
  exact lawCallG KX G.T.g G.T.b G.T.builtins G.T.nolimit hg hobj hints (Nat.le_trans hlen hn2) hr (fun base _ _ => hF base) hb fun H hO hS => hsp _ H a ns hlen hO hS

end Ws
/-! ## G1 -/
namespace Ws
open PySem PySem.Spec PyProof.Rows L2
/-- what the list ys holds: for the kept places of 0 .. n - 1, in their order, an item each -/
structure Got (R : Nat → V → Hp → Prop) (keep : Nat → Bool) (n : Nat) (H : Hp) (ys : List V) : Prop where
  len : ys.length = ((List.range n).filter keep).length
  at_ : ∀ (j i : Nat) (y : V), ys[j]? = some y → ((List.range n).filter keep)[j]? = some i → R i y H
theorem Got.skip {R : Nat → V → Hp → Prop} {keep : Nat → Bool} {n : Nat} {H : Hp} {ys : List V} (h : Got R keep n H ys) (k : keep n = false) : Got R keep (n + 1) H ys := by
  have e : (List.range (n + 1)).filter keep = (List.range n).filter keep := by
    rw [List.range_succ, List.filter_append]
    simp [k]
  exact ⟨by rw [e]; exact h.len, fun j i y h1 h2 => h.at_ j i y h1 (by rw [← e]; exact h2)⟩
theorem Got.add {R : Nat → V → Hp → Prop} {keep : Nat → Bool} {n : Nat} {H : Hp} {ys : List V} {y : V} (h : Got R keep n H ys) (k : keep n = true) (r : R n y H) : Got R keep (n + 1) H (ys ++ [y]) := by
  have e : (List.range (n + 1)).filter keep = (List.range n).filter keep ++ [n] := by
    rw [List.range_succ, List.filter_append]
    simp [k]
  refine ⟨by rw [e, List.length_append, List.length_append, h.len]; rfl, fun j i z h1 h2 => ?_⟩
  rw [e] at h2
  by_cases hj : j < ys.length
  · rw [List.getElem?_append_left hj] at h1
    rw [List.getElem?_append_left (by rw [← h.len]; exact hj)] at h2
    exact h.at_ j i z h1 h2
  · rw [List.getElem?_append_right (by omega)] at h1
    rw [List.getElem?_append_right (by rw [← h.len]; omega), ← h.len] at h2
    have e0 : j - ys.length = 0 := by
      have := (List.getElem?_eq_some_iff.mp h1).1
      simpa using this
    rw [e0] at h1 h2
    have e1 : y = z := by simpa using h1
    have e2 : n = i := by simpa using h2
    rw [← e1, ← e2]
    exact r
theorem Got.map {R R' : Nat → V → Hp → Prop} {keep : Nat → Bool} {n : Nat} {H H' : Hp} {ys : List V} (h : Got R keep n H ys) (f : ∀ i y, R i y H → R' i y H') : Got R' keep n H' ys := ⟨h.len, fun j i y h1 h2 => f i y (h.at_ j i y h1 h2)⟩
/-- a comprehension with a test, whose items may be new objects -/
theorem lcF {J : It} {n : Nat} {G : Hp → Prop} {Y : Nat → Hp → V → Hp → Prop} (w : Walk J n G Y) {g : TG} {tt : TT} {te : TE} {vs : List Nat} {σ : L2.St} {H1 : Hp} {D : Addr} {Qd : Hp → Prop} (hD : H1 D = none) (hn : n < sizeLine) (keep : Nat → Bool) (R : Nat → V → Hp → Prop)
    (hR : ∀ i y H H', Sbt D D H H' → NoT H D → R i y H → R i y H') (hG : ∀ H, Same H1 H → G H)
    (hs : ∀ i x H H' (Q1 : VK) (Q0 : Hp → Prop), i < n → Same H1 H → Y i H x H' → (keep i = true → ∀ y H4, R i y H4 → Same H H4 → Q1 y H4) → (keep i = false → ∀ H4, Same H H4 → Q0 H4) →
      g x (wipe σ vs) H' fun σ2 H2 => wipe σ2 vs = wipe σ vs ∧ tt σ2 H2 fun b H3 => if b = true then te σ2 H3 Q1 else Q0 H3)
    (hd : ∀ H ys, Same H1 H → H D = some (.lst ys) → Got R keep n H ys → Qd H) :
    ∃ W : Nat → Nat → Hp → Prop, (∃ m, W 0 m (upd H1 D (.lst []))) ∧ ∀ i m H, W i m H →
      (J.stop i H ∧ Qd H) ∨ (J.go i H ∧ ∃ Nx : Hp → Prop, (∀ H', Nx H' → ∃ m', m' < m ∧ W (i + 1) m' H') ∧ ∀ x H', J.yld i H x H' → g x (wipe σ vs) H' fun σ2 H2 => wipe σ2 vs = wipe σ vs ∧ tt σ2 H2 fun b H3 =>
        if b = true then te σ2 H3 fun y H4 => ∃ acc, H4 D = some (.lst acc) ∧ acc.length < sizeLine ∧ Nx (upd H4 D (.lst (acc ++ [y]))) else Nx H3) := by
  have short : ∀ i, ((List.range i).filter keep).length ≤ i := fun i => by
    have := List.length_filter_le keep (List.range i)
    simpa using this
  refine lc_it w (fun i H => Same H1 H ∧ ∃ ys, H D = some (.lst ys) ∧ Got R keep i H ys) ⟨Same.new hD, [], upd_same, rfl, fun j i y h _ => by simp at h⟩ (fun i H _ p => hG H p.1) (fun i x H H' hi p y => ?_) (fun H p => ?_)
  · obtain ⟨s, ys, hy, hg⟩ := p
    refine hs i x H H' _ _ hi s y (fun k z H4 r s4 => ?_) (fun k H4 s4 => ?_)
    · have hy4 := s4 _ _ hy
      have no : NoT H4 D := .lst hy4
      have sb : Sbt D D H4 (upd H4 D (.lst (ys ++ [z]))) := (Sbt.refl H4).a
      have sb0 : Sbt D D H (upd H4 D (.lst (ys ++ [z]))) := (Sbt.of s4).trans sb
      exact ⟨ys, hy4, by have := short i; rw [hg.len]; omega, (Same.trans s s4).mut hD, _, upd_same, (hg.map fun i y q => hR i y _ _ sb0 (.lst hy) q).add k (hR i z _ _ sb no r)⟩
    · exact ⟨Same.trans s s4, ys, s4 _ _ hy, (hg.map fun i y q => hR i y _ _ (Sbt.of s4) (.lst hy) q).skip k⟩
  · obtain ⟨s, ys, hy, hg⟩ := p
    exact hd H ys s hy hg
theorem dpAll_of {K : PySem.W.Frag} {H : Hp} : ∀ {ys : List V} {ds : List PyData}, ys.length = ds.length → (∀ (j : Nat) (y : V) (d : PyData), ys[j]? = some y → ds[j]? = some d → Dp K H y d) → DpAll K H ys ds
  | [], [], _, _ => .nil
  | [], _ :: _, h, _ => by simp at h
  | _ :: _, [], h, _ => by simp at h
  | y :: ys, d :: ds, h, k => .cons (k 0 y d rfl rfl) (dpAll_of (by simpa using h) fun j z e h1 h2 => k (j + 1) z e (by simpa using h1) (by simpa using h2))
theorem Got.dp {K : PySem.W.Frag} {R : Nat → V → Hp → Prop} {keep : Nat → Bool} {n : Nat} {H : Hp} {ys : List V} (h : Got R keep n H ys) (f : Nat → PyData) (k : ∀ i y, R i y H → Dp K H y (f i)) : DpAll K H ys (((List.range n).filter keep).map f) := by
  refine dpAll_of (by rw [h.len, List.length_map]) fun j y d h1 h2 => ?_
  rw [List.getElem?_map] at h2
  cases e : ((List.range n).filter keep)[j]? with
  | none => rw [e] at h2; cases h2
  | some i =>
    rw [e] at h2
    cases h2
    exact k i y (h.at_ j i y h1 e)
theorem Got.vals {R : Nat → V → Hp → Prop} {keep : Nat → Bool} {n : Nat} {H : Hp} {ys : List V} (h : Got R keep n H ys) (f : Nat → V) (k : ∀ i y, R i y H → y = f i) : ys = ((List.range n).filter keep).map f := by
  refine List.ext_getElem? fun j => ?_
  rw [List.getElem?_map]
  cases e : ((List.range n).filter keep)[j]? with
  | none =>
    rw [List.getElem?_eq_none_iff] at e
    rw [List.getElem?_eq_none (by rw [h.len]; exact e)]
    rfl
  | some i =>
    have hj : j < ys.length := by
      rw [h.len]
      exact (List.getElem?_eq_some_iff.mp e).1
    rw [List.getElem?_eq_getElem hj]
    have := k i ys[j] (h.at_ j i _ (List.getElem?_eq_getElem hj) e)
    rw [this]
    rfl
/-- a list by its places -/
theorem filter_get {α : Type} (l : List α) (d : α) (q : α → Bool) : ((List.range l.length).filter fun i => q (l.getD i d)).map (fun i => l.getD i d) = l.filter q := by
  have h : ∀ (l : List α), (List.range l.length).map (fun i => l.getD i d) = l := fun l => by
    refine List.ext_getElem (by simp) fun i h1 h2 => ?_
    simp [h2]
  have e := congrArg (List.filter q) (h l)
  rw [List.filter_map] at e
  exact e
theorem by_places {α β : Type} (l : List α) (d : α) (f : α → β) : (List.range l.length).map (fun i => f (l.getD i d)) = l.map f := by
  refine List.ext_getElem (by simp) fun i h1 h2 => ?_
  have : i < l.length := by simpa using h1
  simp [this]
theorem all_kept (n : Nat) : (List.range n).filter (fun _ => true) = List.range n := List.filter_eq_self.mpr fun _ _ => rfl
theorem atI_getD {ns : List Int} {j : Nat} (h : j < ns.length) : atI (ns.map V.int) (j : Int) = some (.int (ns.getD j 0)) := atI_nat (by simp [h])
end Ws
/-! ## G2 -/
namespace Ws
open PySem PySem.Spec PyProof.Rows L2 LamX
local macro_rules | `(tactic| walk_at "nf") => `(tactic| dsimp only [tNext, tSeq, tDrop, tRet, tRetN, tIfS, tAsg, gName, gTup, gCons, gNil, tVar, tC, tOp, tUn, rI, rI0, rU, rEq, rNe, tTest, tChain, tAnd, tOr, tNot, tAndV, tOrV, tNotV, tIf, tCB, tCKw, tCons, tNil, tTup, tLst, tCa, tCallS, tB, rIxT, rIxL, rIxS, cxOf, Cx.nox, Cx.wish, Cx.blk, L2.start, tPar, tPar3, tNever, tYes, tBits, tRz, tBM, rAppend, tyV, tXf, suiteEnds, gSub, rSetL, tBreak, rMax, tDGet, sDPut, tSl, tNoPart, tPart, tDisp, tPairs, tDGet2, tDNewK])
local macro_rules | `(tactic| walk_at "sx") => `(tactic| simp only [wipe, List.cons.injEq, and_assoc, exists_and_left, and_true, List.map_cons, List.map_nil, List.length_cons, List.length_nil, List.cons_append, List.nil_append, List.append_nil, Nat.reduceAdd, Nat.reduceSub, List.replicate, List.getElem?_cons_zero, List.getElem?_cons_succ, List.set_cons_zero, List.set_cons_succ, Option.some.injEq, V.int.injEq, V.bl.injEq, V.ref.injEq, V.str.injEq, exists_eq_left', exists_eq_left, true_and, Bool.true_eq_false, Bool.false_eq_true, if_true, if_false])

/-! ### a def that makes lambdas; what stays while tables grow -/
structure DtC (K : PySem.W.Frag) (mg : Str → Option Value) (x : Str) (st : Stmt) (ps : List Str) (c : Addr) : Prop where
  ex : ∃ (f : Addr) (oc : Value) (od : Option Addr) (kV doc pm : Value) (an : Option Addr) (ct : Value) (osl : Array (Option Value)), K.lookup f = some ⟨oc, od, .func (PySem.W.fnOf x x (defArgs st) (defBody st) (defScope st) .none kV doc pm an (.ref c) ct), osl⟩ ∧
    PySem.W.codeIn K (.ref c) x = true ∧ PySem.W.keepIn K (.ref f) = true ∧ mg x = some (.ref f) ∧ Binds K (PySem.W.fnOf x x (defArgs st) (defBody st) (defScope st) .none kV doc pm an (.ref c) ct) ps []
theorem DtC.okG {P : Program} {w : World} {K : PySem.W.Frag} {mg : Str → Option Value} {base : Heap} {x : Str} {st : Stmt} {N ps : List Str} {c : Addr} {k : Nat} {sp : Sp} (D : DtC K mg x st ps c) (S : FnScope N ps (defScope st)) (len : ∀ vs H Q E, sp vs H Q E → vs.length = ps.length)
    (hbody : ∀ (f : Addr) (A : Around) (outer : List Env) (s : Shared) (H : Hp) (vs : List V) (Q : VK) (E : XK), A.guards = some [] → Room k (A.deeper (envOfC x (defScope st) s.heap.objs.size f (.ref c))) → sp vs H Q E →
      ∃ t, PSs (cxOf CX0 P w K mg base N x (defScope st) f (.ref c) A outer s H E).nox (defBody st) t ∧ t { nx := fun _ H' => Q .non H', rt := Q } (start N vs) H) : DfG P w K mg base CX0 (k + 1) x ps sp := by
  obtain ⟨f, oc, od, kV, doc, pm, an, ct, osl, lk, hcd, kp, m, b⟩ := D.ex
  refine ⟨f, _, fn_ofG lk hcd S len fun A outer s H vs Q E hg hr hsp => ?_, m, kp, b⟩
  obtain ⟨t, h, q⟩ := hbody f A outer s H vs Q E hg hr hsp
  exact ⟨t, h.nox, q⟩
theorem Same.extN {H H' : Hp} (e : Same H H') : ExtN H H' := ExtN.of e
section
variable {K : PySem.W.Frag} {H H' : Hp}
theorem seqTE {b : Addr} {xs : List V} (e : ExtN H H') (h : SqT K H b xs) : SqT K H' b xs := by
  rcases h with (h | ⟨o, h⟩) | h
  · exact .inl (.inl (e _ _ h (fun ps z => by cases z)))
  · exact .inl (.inr ⟨o, e _ _ h (fun ps z => by cases z)⟩)
  · exact .inr h
theorem seqLE {b : Addr} {xs : List V} (e : ExtN H H') (h : SqL K H b xs) : SqL K H' b xs := by
  rcases h with (h | ⟨o, h⟩) | h
  · exact .inl (.inl (e _ _ h (fun ps z => by cases z)))
  · exact .inl (.inr ⟨o, e _ _ h (fun ps z => by cases z)⟩)
  · exact .inr h
mutual
theorem Dp.ext (e : ExtN H H') : ∀ (d : PyData) (v : V), Dp K H v d → Dp K H' v d
  | .none, _, h => by cases h; exact .non
  | .bool b, _, h => by cases h; exact .bl b
  | .int i, _, h => by cases h; exact .int i
  | .str x, _, h => by cases h; exact .str x
  | .list ds, _, h => by
    cases h with
    | lst hs ha => exact .lst (seqLE e hs) (Dp.exts e ds _ ha)
  | .tuple ds, _, h => by
    cases h with
    | tup hs ha => exact .tup (seqTE e hs) (Dp.exts e ds _ ha)
  | .dict _, _, h => by cases h
theorem Dp.exts (e : ExtN H H') : ∀ (ds : List PyData) (vs : List V), DpAll K H vs ds → DpAll K H' vs ds
  | [], _, h => by cases h; exact .nil
  | d :: ds, _, h => by
    cases h with
    | cons h1 h2 => exact .cons (Dp.ext e d _ h1) (Dp.exts e ds _ h2)
end
theorem LSt.ext {a l c : Addr} {n : Nat} (h : LSt H a l c n) (e : ExtN H H') : LSt H' a l c n := by
  obtain ⟨cs, ls, m, h⟩ := h
  exact ⟨cs, ls, m, e _ _ h.top (fun ps z => by cases z), e _ _ h.cells (fun ps z => by cases z), e _ _ h.lefts (fun ps z => by cases z), h.len, h.pos, h.few, h.apart⟩
end
theorem Tabs.same {T : List (Addr × Str)} {H H' : Hp} (t : Tabs T H) (e : Same H H') : Tabs T H' := t.ext e

/-! ### written data: what an expression makes of it, lists that grow put aside -/
def hid (S : List Addr) (H : Hp) : Hp := fun a => if a ∈ S then none else H a
def Ev (T : List (Addr × Str)) (H H' : Hp) : Prop := ExtN H H' ∧ (Tabs T H → Tabs T H')
def Lsts (S : List Addr) (H : Hp) : Prop := ∀ a ∈ S, ∃ o, H a = some o ∧ ((∃ xs, o = .lst xs) ∨ ∃ kvs, o = .dK kvs)
theorem Ev.refl {T : List (Addr × Str)} (H : Hp) : Ev T H H := ⟨ExtN.refl H, fun t => t⟩
theorem Ev.trans {T : List (Addr × Str)} {H H1 H2 : Hp} (a : Ev T H H1) (b : Ev T H1 H2) : Ev T H H2 := ⟨a.1.trans b.1, fun t => b.2 (a.2 t)⟩
theorem Ev.of {T : List (Addr × Str)} {H H1 : Hp} (e : Same H H1) : Ev T H H1 := ⟨Same.extN e, fun t => Tabs.same t e⟩
theorem Ev.new {T : List (Addr × Str)} {H : Hp} {p : Addr} {o : HO} (h : H p = none) : Ev T H (upd H p o) := Ev.of (Same.new h)
theorem Ev.lsts {T : List (Addr × Str)} {S : List Addr} {H H1 : Hp} (e : Ev T H H1) (h : Lsts S H) : Lsts S H1 := fun a m => by
  obtain ⟨o, q, z⟩ := h a m
  refine ⟨o, e.1 _ _ q (fun ps y => ?_), z⟩
  subst y
  rcases z with ⟨_, z⟩ | ⟨_, z⟩ <;> cases z
theorem hid_ext {S : List Addr} {H H1 : Hp} (e : ExtN H H1) : ExtN (hid S H) (hid S H1) := fun b o h n => by
  unfold hid at h ⊢
  split at h
  · cases h
  · rename_i m
    rw [if_neg m]
    exact e b o h n
theorem hid_out {S : List Addr} {H : Hp} : ExtN (hid S H) H := fun b o h n => by
  unfold hid at h
  split at h
  · cases h
  · exact h
theorem hid_nil (H : Hp) : hid [] H = H := funext fun a => by simp [hid]
theorem hid_upd {S : List Addr} {H : Hp} {p : Addr} {o : HO} (m : p ∈ S) : hid S (upd H p o) = hid S H := funext fun a => by
  unfold hid
  split
  · rfl
  · rename_i n
    exact upd_ne (fun z => n (z ▸ m))
theorem hid_more {S : List Addr} {H : Hp} {q : Addr} {o : HO} (h : H q = none) : ExtN (hid S H) (hid (q :: S) (upd H q o)) := fun b u hb n => by
  unfold hid at hb ⊢
  split at hb
  · cases hb
  · rename_i m
    have nb : b ≠ q := fun z => by rw [z, h] at hb; cases hb
    rw [if_neg (by simp only [List.mem_cons, not_or]; exact ⟨nb, m⟩), upd_ne nb]
    exact hb
theorem hid_sub {S R : List Addr} {H : Hp} (h : ∀ a ∈ R, a ∈ S) : ExtN (hid S H) (hid R H) := fun b u hb n => by
  unfold hid at hb ⊢
  split at hb
  · cases hb
  · rename_i m
    rw [if_neg fun z => m (h b z)]
    exact hb
section
variable {K : PySem.W.Frag} {S : List Addr}
theorem seqT_hid {H : Hp} {b : Addr} {xs : List V} (l : Lsts S H) (h : SqT K H b xs) : SqT K (hid S H) b xs := by
  have off : ∀ o, H b = some o → (∀ ys, o ≠ .lst ys) → (∀ ys, o ≠ .dK ys) → hid S H b = some o := fun o e n n2 => by
    unfold hid
    rw [if_neg fun m => by
      obtain ⟨u, q, z⟩ := l b m
      rw [e] at q
      obtain rfl := Option.some.inj q
      rcases z with ⟨_, z⟩ | ⟨_, z⟩
      · exact n _ z
      · exact n2 _ z]
    exact e
  rcases h with (h | ⟨o, h⟩) | h
  · exact .inl (.inl (off _ h (fun ys z => by cases z) (fun ys z => by cases z)))
  · exact .inl (.inr ⟨o, off _ h (fun ys z => by cases z) (fun ys z => by cases z)⟩)
  · exact .inr h
mutual
theorem Dp.hid {H : Hp} (l : Lsts S H) : ∀ (d : PyData) (v : V), noList d = true → Dp K H v d → Dp K (Ws.hid S H) v d
  | .none, _, _, h => by cases h; exact .non
  | .bool b, _, _, h => by cases h; exact .bl b
  | .int i, _, _, h => by cases h; exact .int i
  | .str x, _, _, h => by cases h; exact .str x
  | .list ds, _, n, h => by cases n
  | .tuple ds, _, n, h => by
    cases h with
    | tup hs ha => exact .tup (seqT_hid l hs) (Dp.hids l ds _ n ha)
  | .dict _, _, _, h => by cases h
theorem Dp.hids {H : Hp} (l : Lsts S H) : ∀ (ds : List PyData) (vs : List V), noListAll ds = true → DpAll K H vs ds → DpAll K (Ws.hid S H) vs ds
  | [], _, _, h => by cases h; exact .nil
  | d :: ds, _, n, h => by
    cases h with
    | cons h1 h2 => exact .cons (Dp.hid l d _ (Bool.and_eq_true_iff.mp n).1 h1) (Dp.hids l ds _ (Bool.and_eq_true_iff.mp n).2 h2)
end
theorem _root_.L2.Dp.out {H : Hp} {v : V} {d : PyData} (h : Dp K (Ws.hid S H) v d) : Dp K H v d := Dp.ext hid_out d v h
theorem _root_.L2.Dp.ev {T : List (Addr × Str)} {H H1 : Hp} {v : V} {d : PyData} (h : Dp K (Ws.hid S H) v d) (e : Ev T H H1) : Dp K (Ws.hid S H1) v d := Dp.ext (hid_ext e.1) d v h
theorem Dp.evs {T : List (Addr × Str)} {H H1 : Hp} {v : List V} {d : List PyData} (h : DpAll K (Ws.hid S H) v d) (e : Ev T H H1) : DpAll K (Ws.hid S H1) v d := Dp.exts (hid_ext e.1) d v h
theorem nws {H : Hp} {v : List V} {d : List PyData} {p : Addr} {o : HO} (h : DpAll K (Ws.hid S H) v d) (hp : H p = none) : DpAll K (Ws.hid S (upd H p o)) v d := Dp.evs h (Ev.new (T := []) hp)
end
section
variable {K : PySem.W.Frag}
theorem _root_.L2.DpAll.two {H : Hp} {vs : List V} {d e : PyData} (h : DpAll K H vs [d, e]) : ∃ v u, vs = [v, u] ∧ Dp K H v d ∧ Dp K H u e := by
  cases h with
  | cons h1 h2 =>
    cases h2 with
    | cons h3 h4 =>
      cases h4
      exact ⟨_, _, rfl, h1, h3⟩
theorem _root_.L2.DpAll.three {H : Hp} {vs : List V} {d e f : PyData} (h : DpAll K H vs [d, e, f]) : ∃ v u z, vs = [v, u, z] ∧ Dp K H v d ∧ Dp K H u e ∧ Dp K H z f := by
  cases h with
  | cons h1 h2 =>
    obtain ⟨v, u, rfl, h3, h4⟩ := h2.two
    exact ⟨_, _, _, rfl, h1, h3, h4⟩
theorem _root_.L2.DpAll.one' {H : Hp} {vs : List V} {d : PyData} (h : DpAll K H vs [d]) : ∃ v, vs = [v] ∧ Dp K H v d := by
  cases h with
  | cons h1 h2 =>
    cases h2
    exact ⟨_, rfl, h1⟩
end
section
variable (K : PySem.W.Frag) (S : List Addr) (T : List (Addr × Str))
/-- te makes the data d -/
def DE (te : TE) (σ : L2.St) (H : Hp) (d : PyData) : Prop := ∀ H1, Ev T H H1 → Lsts S H1 → Tabs T H1 → ∀ Q : VK, (∀ H' v, Ev T H1 H' → Dp K (hid S H') v d → Q v H') → te σ H1 Q
def DEs (ta : TA) (σ : L2.St) (H : Hp) (ds : List PyData) : Prop := ∀ H1, Ev T H H1 → Lsts S H1 → Tabs T H1 → ∀ Q : List V → Hp → Prop, (∀ H' vs, Ev T H1 H' → DpAll K (hid S H') vs ds → Q vs H') → ta σ H1 Q
/-- te makes a new list of the data ds -/
def LE (te : TE) (σ : L2.St) (H : Hp) (ds : List PyData) : Prop := ∀ H1, Ev T H H1 → Lsts S H1 → Tabs T H1 → ∀ Q : VK, (∀ H2 p ys, Ev T H1 H2 → H2 p = none → DpAll K (hid S H2) ys ds → Q (.ref p) (upd H2 p (.lst ys))) → te σ H1 Q
/-- te tells a list of the data ds -/
def RE (te : TE) (σ : L2.St) (H : Hp) (ds : List PyData) : Prop := ∀ H1, Ev T H H1 → Lsts S H1 → Tabs T H1 → ∀ Q : VK, (∀ H' a ys, Ev T H1 H' → H' a = some (.lst ys) → DpAll K (hid S H') ys ds → Q (.ref a) H') → te σ H1 Q
end
section
variable {K : PySem.W.Frag} {S : List Addr} {T : List (Addr × Str)} {te ta tb : TE} {tas : TA} {σ : L2.St} {H : Hp} {d : PyData} {ds es : List PyData}
theorem DE.to {H1 : Hp} (h : DE K S T te σ H d) (e : Ev T H H1) : DE K S T te σ H1 d := fun H2 e2 => h H2 (e.trans e2)
theorem DEs.to {H1 : Hp} (h : DEs K S T tas σ H ds) (e : Ev T H H1) : DEs K S T tas σ H1 ds := fun H2 e2 => h H2 (e.trans e2)
theorem DE.int {i : Int} : DE K S T (tC (.int i)) σ H (.int i) := fun H1 _ _ _ Q q => q H1 _ (Ev.refl _) (.int i)
theorem DE.str {x : Str} : DE K S T (tC (.str x)) σ H (.str x) := fun H1 _ _ _ Q q => q H1 _ (Ev.refl _) (.str x)
theorem DE.bl {b : Bool} : DE K S T (tC (.bl b)) σ H (.bool b) := fun H1 _ _ _ Q q => q H1 _ (Ev.refl _) (.bl b)
theorem DE.non : DE K S T (tC .non) σ H .none := fun H1 _ _ _ Q q => q H1 _ (Ev.refl _) .non
theorem DE.var {i : Nat} {v : V} (h : σ[i]? = some (some v)) (hd : Dp K (hid S H) v d) : DE K S T (tVar i) σ H d := fun H1 e _ _ Q q => ⟨v, h, q H1 v (Ev.refl _) (hd.ev e)⟩
theorem DE.eq {d' : PyData} (h : DE K S T te σ H d) (e : d = d') : DE K S T te σ H d' := e ▸ h
theorem DEs.nil : DEs K S T tNil σ H [] := fun H1 _ _ _ Q q => q H1 [] (Ev.refl _) .nil
theorem DEs.cons (a : DE K S T te σ H d) (b : DEs K S T tas σ H ds) : DEs K S T (tCons te tas) σ H (d :: ds) := fun H1 e l t Q q =>
  a H1 e l t _ fun H2 v e2 hv => b H2 (e.trans e2) (e2.lsts l) (e2.2 t) _ fun H3 vs e3 hs => q H3 (v :: vs) (e2.trans e3) (.cons (hv.ev e3) hs)
theorem DEs.one (a : DE K S T te σ H d) : DEs K S T (tCons te tNil) σ H [d] := DEs.cons a .nil
theorem DE.tup (a : DEs K S T tas σ H ds) (hl : ds.length ≤ 1000 := by exact Nat.le_of_ble_eq_true rfl) : DE K S T (tTup tas) σ H (.tuple ds) := fun H1 e l t Q q =>
  a H1 e l t _ fun H2 vs e2 hs => ⟨by rw [hs.length, sizeLine_eq]; omega, fun p hp => q _ _ (e2.trans (Ev.new hp)) (by
    have l3 := (e2.trans (Ev.new (o := .tup vs) hp)).lsts l
    exact .tup (seqT_hid l3 (.of upd_same)) (nws hs hp))⟩
theorem LE.lst (a : DEs K S T tas σ H ds) (hl : ds.length ≤ 1000 := by exact Nat.le_of_ble_eq_true rfl) : LE K S T (tLst tas) σ H ds := fun H1 e l t Q q =>
  a H1 e l t _ fun H2 vs e2 hs => ⟨by rw [hs.length, sizeLine_eq]; omega, fun p hp => q H2 p vs e2 hp hs⟩
theorem LE.to {H1 : Hp} (h : LE K S T te σ H ds) (e : Ev T H H1) : LE K S T te σ H1 ds := fun H2 e2 => h H2 (e.trans e2)
theorem LE.re (h : LE K S T te σ H ds) : RE K S T te σ H ds := fun H1 e l t Q q => h H1 e l t Q fun H2 p ys e2 hp hs => q _ p ys (e2.trans (Ev.new hp)) upd_same (nws hs hp)
theorem RE.var {i : Nat} {a : Addr} {ys : List V} (h : σ[i]? = some (some (.ref a))) (ha : H a = some (.lst ys)) (hd : DpAll K (hid S H) ys ds) : RE K S T (tVar i) σ H ds := fun H1 e _ _ Q q =>
  ⟨_, h, q H1 a ys (Ev.refl _) (e.1 _ _ ha (fun ps z => by cases z)) (Dp.evs hd e)⟩
theorem LE.cat (a : RE K S T ta σ H ds) (b : RE K S T tb σ H es) (hl : ds.length + es.length ≤ 1000 := by exact Nat.le_of_ble_eq_true rfl) : LE K S T (tOp rCat ta tb) σ H (ds ++ es) := fun H1 e l t Q q =>
  a H1 e l t _ fun H2 x xs e2 hx hxs => b H2 (e.trans e2) (e2.lsts l) (e2.2 t) _ fun H3 y zs e3 hy hys =>
    ⟨x, y, xs, zs, rfl, rfl, e3.1 _ _ hx (fun ps z => by cases z), hy, by rw [hxs.length, hys.length, sizeLine_eq]; omega, fun p hp => q H3 p _ (e2.trans e3) hp ((Dp.evs hxs e3).append hys)⟩
theorem LE.rep {k : Int} (a : RE K S T ta σ H ds) (b : DE K S T tb σ H (.int k)) (h1 : -(2 ^ 63) ≤ k := by decide) (h2 : k < 2 ^ 63 := by decide) (hl : ds.length * k.toNat ≤ 1000 := by decide) : LE K S T (tOp rRep ta tb) σ H (List.replicate k.toNat ds).flatten := fun H1 e l t Q q =>
  a H1 e l t _ fun H2 x xs e2 hx hxs => b H2 (e.trans e2) (e2.lsts l) (e2.2 t) _ fun H3 y e3 hy => by
    obtain rfl := hy.int_inv
    exact ⟨x, k, xs, rfl, rfl, e3.1 _ _ hx (fun ps z => by cases z), h1, h2, by rw [hxs.length, sizeLine_eq]; omega, fun p hp => q H3 p _ (e2.trans e3) hp (by
      have h3 := Dp.evs hxs e3
      induction k.toNat with
      | zero => exact .nil
      | succ n ih => rw [List.replicate_succ, List.replicate_succ, List.flatten_cons, List.flatten_cons]; exact h3.append ih)⟩
theorem DE.lst (a : LE K S T te σ H ds) : DE K S T te σ H (.list ds) := fun H1 e l t Q q => a H1 e l t Q fun H2 p ys e2 hp hs => q _ _ (e2.trans (Ev.new hp)) (by
  refine .lst (.of ?_) (nws hs hp)
  unfold Ws.hid
  rw [if_neg fun m => by
    obtain ⟨o, z, _⟩ := e2.lsts l _ m
    rw [hp] at z
    cases z]
  exact upd_same)
theorem DE.op0 {g : Int → Int → V} {i j k : Int} (a : DE K S T ta σ H (.int i)) (b : DE K S T tb σ H (.int j)) (hg : g i j = .int k) : DE K S T (tOp (rI0 g) ta tb) σ H (.int k) := fun H1 e l t Q q =>
  a H1 e l t _ fun H2 x e2 hx => b H2 (e.trans e2) (e2.lsts l) (e2.2 t) _ fun H3 y e3 hy => by
    obtain rfl := hx.int_inv
    obtain rfl := hy.int_inv
    exact ⟨i, j, rfl, rfl, by rw [hg]; exact q H3 _ (e2.trans e3) (.int k)⟩
theorem DE.opC {C : Int → Int → Prop} {g : Int → Int → V} {i j k : Int} (a : DE K S T ta σ H (.int i)) (b : DE K S T tb σ H (.int j)) (hc : C i j) (hg : g i j = .int k) : DE K S T (tOp (rI C g) ta tb) σ H (.int k) := fun H1 e l t Q q =>
  a H1 e l t _ fun H2 x e2 hx => b H2 (e.trans e2) (e2.lsts l) (e2.2 t) _ fun H3 y e3 hy => by
    obtain rfl := hx.int_inv
    obtain rfl := hy.int_inv
    exact ⟨i, j, rfl, rfl, hc, by rw [hg]; exact q H3 _ (e2.trans e3) (.int k)⟩
theorem DE.un {g : Int → V} {i k : Int} (a : DE K S T ta σ H (.int i)) (hg : g i = .int k) : DE K S T (tUn (rU g) ta) σ H (.int k) := fun H1 e l t Q q =>
  a H1 e l t _ fun H2 x e2 hx => by
    obtain rfl := hx.int_inv
    exact ⟨i, rfl, by rw [hg]; exact q H2 _ e2 (.int k)⟩
theorem DE.repT {k : Int} (a : DE K S T ta σ H (.tuple ds)) (b : DE K S T tb σ H (.int k)) (h0 : ds ≠ [] := by decide) (h1 : 2 ≤ k := by decide) (h2 : k ≤ 1000 := by decide) (hl : ds.length ≤ 1000 := by exact Nat.le_of_ble_eq_true rfl) : DE K S T (tOp (rRepT K) ta tb) σ H (.tuple (List.replicate k.toNat ds).flatten) := fun H1 e l t Q q =>
  a H1 e l t _ fun H2 x e2 hx => b H2 (e.trans e2) (e2.lsts l) (e2.2 t) _ fun H3 y e3 hy => by
    obtain rfl := hy.int_inv
    obtain ⟨p, xs, rfl, hs, hxs⟩ := hx.tup_inv
    have hxs2 := Dp.evs hxs e3
    have hn : xs ≠ [] := fun z => h0 (by subst z; cases hxs; rfl)
    refine ⟨p, k, xs, rfl, rfl, seqTE e3.1 (seqTE hid_out hs), hn, h1, h2, by rw [hxs.length]; exact hl, fun r hr => q _ _ ((e2.trans e3).trans (Ev.new hr)) ?_⟩
    refine .tup (seqT_hid (((e2.trans e3).trans (Ev.new hr)).lsts l) (.of upd_same)) (nws ?_ hr)
    induction k.toNat with
    | zero => exact .nil
    | succ n ih => rw [List.replicate_succ, List.replicate_succ, List.flatten_cons, List.flatten_cons]; exact hxs2.append ih
end
/-! ### lists that grow -/
def adr (L : List (Addr × List PyData)) (X : List Addr) : List Addr := L.map (·.1) ++ X
structure LsS (K : PySem.W.Frag) (T : List (Addr × Str)) (X : List Addr) (L : List (Addr × List PyData)) (H : Hp) : Prop where
  tabs : Tabs T H
  nd : (L.map (·.1)).Nodup
  off : Lsts X H
  apart : ∀ a ∈ L.map (·.1), a ∉ X
  at_ : ∀ x ∈ L, ∃ ys, H x.1 = some (.lst ys) ∧ DpAll K (hid (adr L X) H) ys x.2
theorem Tabs.put {T : List (Addr × Str)} {H : Hp} {p : Addr} {xs : List V} {o : HO} (t : Tabs T H) (h : H p = some (.lst xs)) : Tabs T (upd H p o) := fun x hx => by
  obtain ⟨ps, h1, h2, h3⟩ := t x hx
  refine ⟨ps, by rw [upd_ne (fun z => by rw [z, h] at h1; cases h1)]; exact h1, h2, fun pos cv hc => ?_⟩
  obtain ⟨c, e1, e2⟩ := h3 pos cv hc
  exact ⟨c, e1, by rw [upd_ne (fun z => by rw [z, h] at e2; cases e2)]; exact e2⟩
section
variable {K : PySem.W.Frag} {T : List (Addr × Str)} {X : List Addr} {L : List (Addr × List PyData)} {H : Hp}
theorem LsS.lsts (h : LsS K T X L H) : Lsts (adr L X) H := fun a m => by
  rcases List.mem_append.mp m with m | m
  · obtain ⟨x, hx, rfl⟩ := List.mem_map.mp m
    obtain ⟨ys, q, _⟩ := h.at_ x hx
    exact ⟨_, q, .inl ⟨ys, rfl⟩⟩
  · exact h.off a m
theorem LsS.nil (t : Tabs T H) (o : Lsts X H) : LsS K T X [] H := ⟨t, List.nodup_nil, o, (fun a h => by cases h), fun x hx => by cases hx⟩
theorem LsS.ev {H1 : Hp} (h : LsS K T X L H) (e : Ev T H H1) : LsS K T X L H1 := ⟨e.2 h.tabs, h.nd, e.lsts h.off, h.apart, fun x hx => by
  obtain ⟨ys, q, d⟩ := h.at_ x hx
  exact ⟨ys, e.1 _ _ q (fun ps z => by cases z), Dp.evs d e⟩⟩
theorem LsS.new {p : Addr} {ys : List V} {ds : List PyData} (h : LsS K T X L H) (hp : H p = none) (hd : DpAll K (hid (adr L X) H) ys ds) : LsS K T X ((p, ds) :: L) (upd H p (.lst ys)) := by
  have e := hid_more (S := adr L X) (o := .lst ys) hp
  have np : p ∉ adr L X := fun m => by
    obtain ⟨o, q, _⟩ := h.lsts p m
    rw [hp] at q
    cases q
  refine ⟨(Ev.new hp).2 h.tabs, ?_, Ev.lsts (T := T) (Ev.new hp) h.off, ?_, fun x hx => ?_⟩
  · rw [List.map_cons, List.nodup_cons]
    exact ⟨fun m => np (List.mem_append.mpr (.inl m)), h.nd⟩
  · intro a m
    rcases List.mem_cons.mp m with rfl | m
    · exact fun z => np (List.mem_append.mpr (.inr z))
    · exact h.apart a m
  · rcases List.mem_cons.mp hx with rfl | hx
    · exact ⟨ys, upd_same, Dp.exts e _ _ hd⟩
    · obtain ⟨zs, q, d⟩ := h.at_ x hx
      exact ⟨zs, by rw [upd_ne (fun z => by rw [z, hp] at q; cases q)]; exact q, Dp.exts e _ _ d⟩
/-- the list at the place k has one more item -/
theorem LsS.app {k : Nat} {p : Addr} {ds : List PyData} {u : V} {d : PyData} {ys : List V} (h : LsS K T X L H) (hk : L[k]? = some (p, ds)) (hp : H p = some (.lst ys)) (hu : Dp K (hid (adr L X) H) u d) : LsS K T X (L.set k (p, ds ++ [d])) (upd H p (.lst (ys ++ [u]))) := by
  have hlt := (List.getElem?_eq_some_iff.mp hk).1
  have hm : p ∈ L.map (·.1) := List.mem_map.mpr ⟨_, List.mem_of_getElem? hk, rfl⟩
  have hm2 : p ∈ adr L X := List.mem_append.mpr (.inl hm)
  have em : (L.set k (p, ds ++ [d])).map (·.1) = L.map (·.1) := by
    rw [List.map_set]
    refine List.ext_getElem? fun n => ?_
    rw [List.getElem?_set]
    split
    · rename_i z
      subst z
      rw [List.getElem?_map, hk]
      simp [hlt]
    · rfl
  have eh : hid (adr L X) (upd H p (.lst (ys ++ [u]))) = hid (adr L X) H := hid_upd hm2
  have em2 : adr (L.set k (p, ds ++ [d])) X = adr L X := by unfold adr; rw [em]
  refine ⟨Tabs.put h.tabs hp, by rw [em]; exact h.nd, fun a ha => ?_, by rw [em]; exact h.apart, fun x hx => ?_⟩
  · obtain ⟨o, q, z⟩ := h.off a ha
    exact ⟨o, by rw [upd_ne (fun w : a = p => h.apart p hm (by rw [← w]; exact ha))]; exact q, z⟩
  rw [em2, eh]
  obtain ⟨n, hn⟩ := List.mem_iff_getElem?.mp hx
  rw [List.getElem?_set] at hn
  split at hn
  · rename_i z
    subst z
    obtain rfl := Option.some.inj hn
    obtain ⟨zs, q, dd⟩ := h.at_ _ (List.mem_of_getElem? hk)
    rw [hp] at q
    obtain rfl : ys = zs := HO.lst.inj (Option.some.inj q)
    exact ⟨_, upd_same, dd.append (.cons hu .nil)⟩
  · rename_i z
    have hx2 := List.mem_of_getElem? hn
    obtain ⟨zs, q, dd⟩ := h.at_ x hx2
    have ne : x.1 ≠ p := fun w => by
      have n1 : (L.map (·.1))[k]? = some p := by rw [List.getElem?_map, hk]; rfl
      have n2 : (L.map (·.1))[n]? = some p := by rw [List.getElem?_map, hn, ← w]; rfl
      have l1 := (List.getElem?_eq_some_iff.mp n1).1
      exact z ((List.getElem?_inj l1 h.nd).mp (n1.trans n2.symm))
    exact ⟨zs, by rw [upd_ne ne]; exact q, dd⟩
theorem st_app {k i : Nat} {p : Addr} {ds : List PyData} {d : PyData} {te : TE} {D : Ends} {σ : L2.St} (h : LsS K T X L H) (hi : σ[i]? = some (some (.ref p))) (hk : L[k]? = some (p, ds)) (hl : ds.length ≤ 100000) (hd : DE K (adr L X) T te σ H d)
    (q : ∀ H', LsS K T X (L.set k (p, ds ++ [d])) H' → ExtN (hid (adr L X) H) (hid (adr L X) H') → D.nx σ H') : tDrop (tBM K "list" rAppend (tVar i) (tCons te tNil)) D σ H := by
  obtain ⟨ys, hp, hys⟩ := h.at_ _ (List.mem_of_getElem? hk)
  refine ⟨_, hi, .inl ⟨rfl, ys, .of hp⟩, hd H (Ev.refl H) h.lsts h.tabs _ fun H' u e hu => ?_⟩
  have hp2 := e.1 _ _ hp (fun ps z => by cases z)
  have hy := hys.length
  refine ⟨p, ys, u, rfl, rfl, hp2, by rw [hy, sizeLine_eq]; show ds.length < _; omega, q _ ((h.ev e).app hk hp2 hu) ?_⟩
  have hm3 : p ∈ adr L X := List.mem_append.mpr (.inl (List.mem_map.mpr ⟨(p, ds), List.mem_of_getElem? hk, rfl⟩))
  rw [hid_upd hm3]
  exact hid_ext e.1
theorem for_de {S : List Addr} {bads : List PyData} {te : TE} {tb : TS} {k : Nat} {D : Ends} {σ : L2.St} (hde : DE K S T te σ H (.tuple bads)) (l : Lsts S H) (t : Tabs T H) (Pv : Nat → L2.St → Hp → Prop)
    (h0 : ∀ H', Ev T H H' → Pv 0 σ H')
    (hs : ∀ H0 i x σ H, i < bads.length → Pv i σ H → ExtN (hid S H0) (hid S H) → Dp K (hid S H) x (bads.getD i .none) → tb { D with nx := fun σ' H' => Pv (i + 1) σ' H' ∧ ExtN (hid S H0) (hid S H'), ct := fun σ' H' => Pv (i + 1) σ' H' ∧ ExtN (hid S H0) (hid S H'), bk := D.nx } (σ.set k (some x)) H)
    (hd : ∀ σ H, Pv bads.length σ H → D.nx σ H) : tFor (iTup K te) (gName k) tb D σ H := by
  refine hde H (Ev.refl H) l t _ fun H0 v e hv => ?_
  obtain ⟨a, xs, rfl, ha, hxs⟩ := hv.tup_inv
  have hn := hxs.length
  refine ⟨a, rfl, ⟨xs, seqTE hid_out ha⟩, for_tup (xs := xs) (fun i σ H => Pv i σ H ∧ ExtN (hid S H0) (hid S H)) ⟨h0 H0 e, ExtN.refl _⟩ (fun i σ H _ p => seqTE hid_out (seqTE p.2 ha)) (fun i x σ H hx p => ?_) (fun σ H p => hd σ H (by rw [← hn]; exact p.1))⟩
  have hi : i < bads.length := by rw [← hn]; exact (List.getElem?_eq_some_iff.mp hx).1
  obtain ⟨y, hy, _, hdy⟩ := hxs.at_ hi
  rw [hx] at hy
  obtain rfl := Option.some.inj hy
  exact hs H0 i x σ H hi p.1 p.2 (Dp.ext p.2 _ _ hdy)
end
section
variable {K : PySem.W.Frag} {T : List (Addr × Str)} {X : List Addr} {L : List (Addr × List PyData)} {H : Hp} {te : TE} {D : Ends} {σ : L2.St} {ds : List PyData} {d : PyData}
theorem seqI {t u : TS} (h : t { D with nx := u D } σ H) : tSeq t u D σ H := h
theorem st_new {i : Nat} (h : LsS K T X L H) (hd : LE K (adr L X) T te σ H ds) (q : ∀ H' p, LsS K T X ((p, ds) :: L) H' → ExtN (hid (adr L X) H) (hid (p :: adr L X) H') → D.nx (σ.set i (some (.ref p))) H') : tAsg te (gName i) D σ H :=
  hd H (Ev.refl H) h.lsts h.tabs _ fun H2 p ys e hp hs => q _ p ((h.ev e).new hp hs) ((hid_ext e.1).trans (hid_more hp))
theorem st_val {i : Nat} (h : LsS K T X L H) (hd : DE K (adr L X) T te σ H d) (q : ∀ H' v, LsS K T X L H' → ExtN (hid (adr L X) H) (hid (adr L X) H') → Dp K (hid (adr L X) H') v d → D.nx (σ.set i (some v)) H') : tAsg te (gName i) D σ H :=
  hd H (Ev.refl H) h.lsts h.tabs _ fun H2 v e hv => q H2 v (h.ev e) (hid_ext e.1) hv
theorem sq_new {i : Nat} {u : TS} (h : LsS K T X L H) (hd : LE K (adr L X) T te σ H ds) (q : ∀ H' p, LsS K T X ((p, ds) :: L) H' → ExtN (hid (adr L X) H) (hid (p :: adr L X) H') → u D (σ.set i (some (.ref p))) H') : tSeq (tAsg te (gName i)) u D σ H := st_new (D := { D with nx := u D }) h hd q
theorem sq_val {i : Nat} {u : TS} (h : LsS K T X L H) (hd : DE K (adr L X) T te σ H d) (q : ∀ H' v, LsS K T X L H' → ExtN (hid (adr L X) H) (hid (adr L X) H') → Dp K (hid (adr L X) H') v d → u D (σ.set i (some v)) H') : tSeq (tAsg te (gName i)) u D σ H := st_val (D := { D with nx := u D }) h hd q
theorem sq_app {k i : Nat} {p : Addr} {u : TS} (h : LsS K T X L H) (hi : σ[i]? = some (some (.ref p))) (hk : L[k]? = some (p, ds)) (hl : ds.length ≤ 100000) (hd : DE K (adr L X) T te σ H d)
    (q : ∀ H', LsS K T X (L.set k (p, ds ++ [d])) H' → ExtN (hid (adr L X) H) (hid (adr L X) H') → u D σ H') : tSeq (tDrop (tBM K "list" rAppend (tVar i) (tCons te tNil))) u D σ H := st_app (D := { D with nx := u D }) h hi hk hl hd q
theorem sq_for {S : List Addr} {bads : List PyData} {tb u : TS} {k : Nat} (hde : DE K S T te σ H (.tuple bads)) (l : Lsts S H) (t : Tabs T H) (Pv : Nat → L2.St → Hp → Prop)
    (h0 : ∀ H', Ev T H H' → Pv 0 σ H')
    (hs : ∀ (D : Ends) H0 i x σ H, i < bads.length → Pv i σ H → ExtN (hid S H0) (hid S H) → Dp K (hid S H) x (bads.getD i .none) → (∀ σ' H', Pv (i + 1) σ' H' ∧ ExtN (hid S H0) (hid S H') → D.nx σ' H') → tb D (σ.set k (some x)) H)
    (hd : ∀ σ H, Pv bads.length σ H → u D σ H) : tSeq (tFor (iTup K te) (gName k) tb) u D σ H :=
  for_de (D := { D with nx := u D }) hde l t Pv h0 (fun H0 i x σ H hi p e hx => hs _ H0 i x σ H hi p e hx fun _ _ z => z) hd
theorem take_snoc {bads : List PyData} {i : Nat} (f : PyData → PyData) (h : i < bads.length) : (bads.take (i + 1)).map f = (bads.take i).map f ++ [f (bads.getD i .none)] := by
  rw [List.take_succ_eq_append_getElem h, List.map_append]
  simp [h]
theorem LsS.dp {k : Nat} {p : Addr} (h : LsS K T X L H) (hk : L[k]? = some (p, ds)) : Dp K H (.ref p) (.list ds) := by
  obtain ⟨ys, hp, hd⟩ := h.at_ _ (List.mem_of_getElem? hk)
  exact .lst (.of hp) (Dp.exts hid_out _ _ hd)
theorem LsS.re {k i : Nat} {p : Addr} (h : LsS K T X L H) (hk : L[k]? = some (p, ds)) (hi : σ[i]? = some (some (.ref p))) : RE K (adr L X) T (tVar i) σ H ds := by
  obtain ⟨ys, hp, hd⟩ := h.at_ _ (List.mem_of_getElem? hk)
  exact RE.var hi hp hd
end
/-! ### a comprehension of data without lists whose items draw -/
theorem lcN {K : PySem.W.Frag} {J : It} {n : Nat} {G : Hp → Prop} {Y : Nat → Hp → V → Hp → Prop} (w : Walk J n G Y) {g : TG} {te : TE} {vs : List Nat} {σ : L2.St} {H1 : Hp} {D : Addr} {Qd : Hp → Prop} {a l c : Addr} {m : Nat} (st : Nat) (hD : H1 D = none) (hn : n < sizeLine) (P : Nat → PyData → Prop) (hP : ∀ i d, P i d → noList d = true)
    (hl : LSt H1 a l c m) (hG : ∀ H, Sbt a l H1 H → G H)
    (hs : ∀ i x H H' (Q : VK), i < n → Sbt a l H1 H → LSt H a l c (m + i * st) → Y i H x H' → (∀ y H4 d, P i d → Dp K H4 y d → Sbt a l H H4 → LSt H4 a l c (m + (i + 1) * st) → Q y H4) → g x (wipe σ vs) H' fun σ2 H2 => wipe σ2 vs = wipe σ vs ∧ te σ2 H2 Q)
    (hd : ∀ H ys ds, Sbt a l H1 H → LSt H a l c (m + n * st) → H D = some (.lst ys) → DpAll K H ys ds → ds.length = n → (∀ i d, ds[i]? = some d → P i d) → noListAll ds = true → Qd H) :
    ∃ W : Nat → Nat → Hp → Prop, (∃ m, W 0 m (upd H1 D (.lst []))) ∧ ∀ i m H, W i m H →
      (J.stop i H ∧ Qd H) ∨ (J.go i H ∧ ∃ Nx : Hp → Prop, (∀ H', Nx H' → ∃ m', m' < m ∧ W (i + 1) m' H') ∧ ∀ x H', J.yld i H x H' → g x (wipe σ vs) H' fun σ2 H2 => wipe σ2 vs = wipe σ vs ∧ tYes σ2 H2 fun b H3 =>
        if b = true then te σ2 H3 fun y H4 => ∃ acc, H4 D = some (.lst acc) ∧ acc.length < sizeLine ∧ Nx (upd H4 D (.lst (acc ++ [y]))) else Nx H3) := by
  obtain ⟨da, dl, dc⟩ := hl.off hD
  let Pv : Nat → Hp → Prop := fun i H => Sbt a l H1 H ∧ LSt H a l c (m + i * st) ∧ ∃ ys ds, H D = some (.lst ys) ∧ DpAll K H ys ds ∧ ds.length = i ∧ ∀ j d, ds[j]? = some d → P j d
  have nl : ∀ {ds : List PyData}, (∀ j d, ds[j]? = some d → P j d) → noListAll ds = true := fun {ds} h => noListAll_of fun x hx => by
    obtain ⟨j, hj⟩ := List.mem_iff_getElem?.mp hx
    exact hP j x (h j x hj)
  refine lc_it w Pv ⟨(Sbt.refl H1).mut hD, by rw [Nat.zero_mul]; exact hl.new hD, [], [], upd_same, .nil, rfl, fun j y h => by simp at h⟩ (fun i H _ p => hG H p.1) (fun i x H H' hi p y => ?_) (fun H p => ?_)
  · obtain ⟨s, sl, ys, ds, hy, ha, hlen, hr⟩ := p
    have q := hs i x H H' (fun y H4 => ∃ acc, H4 D = some (.lst acc) ∧ acc.length < sizeLine ∧ Pv (i + 1) (upd H4 D (.lst (acc ++ [y])))) hi s sl y (fun v H4 d r hv s4 sl4 => ?_)
    · have e : (fun σ2 H2 => wipe σ2 vs = wipe σ vs ∧ tYes σ2 H2 fun b H3 =>
        if b = true then te σ2 H3 fun y H4 => ∃ acc, H4 D = some (.lst acc) ∧ acc.length < sizeLine ∧ Pv (i + 1) (upd H4 D (.lst (acc ++ [y]))) else Pv (i + 1) H3) =
        (fun σ2 H2 => wipe σ2 vs = wipe σ vs ∧ te σ2 H2 fun y H4 => ∃ acc, H4 D = some (.lst acc) ∧ acc.length < sizeLine ∧ Pv (i + 1) (upd H4 D (.lst (acc ++ [y])))) := by
        funext σ2 H2
        simp only [tYes, if_true]
      rw [e]
      exact q
    · have hy4 := s4 _ _ hy da dl
      have ha4 := keepTs s4 sl ds ys (nl hr) ha
      refine ⟨ys, hy4, by rw [ha.length]; omega, (Sbt.trans s s4).mut hD, sl4.put da dl dc, ys ++ [v], ds ++ [d], upd_same, (keepLs hy4 (nl hr) ha4).snoc (keepL hy4 (hP _ _ r) hv), by simp [hlen], fun j z hz => ?_⟩
      by_cases hj : j < ds.length
      · rw [List.getElem?_append_left hj] at hz
        exact hr j z hz
      · rw [List.getElem?_append_right (by omega)] at hz
        have e : j = i := by
          have := (List.getElem?_eq_some_iff.mp hz).1
          simp at this
          omega
        subst e
        rw [hlen, Nat.sub_self] at hz
        simp at hz
        rw [← hz]
        exact r
  · obtain ⟨s, sl, ys, ds, hy, ha, hlen, hr⟩ := p
    exact hd H ys ds s sl hy ha hlen hr (nl hr)
end Ws
/-! ## M45 -/
/-! grammars: uses and ways -/
namespace Gm
inductive Itm where
  | L (n : Nat)
  | X (n : Nat)
deriving DecidableEq
abbrev Ru := Nat × List Itm
def xs (its : List Itm) : List Nat := its.filterMap fun | .X n => some n | .L _ => none
def ls (its : List Itm) : List Nat := its.filterMap fun | .L n => some n | .X _ => none
theorem xs_app (a b : List Itm) : xs (a ++ b) = xs a ++ xs b := List.filterMap_append
theorem ls_app (a b : List Itm) : ls (a ++ b) = ls a ++ ls b := List.filterMap_append
/-- leading letters taken off -/
def cut : List Itm → List Itm × List Nat
  | [] => ([], [])
  | .X n :: r => (.X n :: r, [])
  | .L n :: r => ((cut r).1, n :: (cut r).2)
theorem xs_cut : ∀ its, xs (cut its).1 = xs its
  | [] => rfl
  | .X n :: r => rfl
  | .L n :: r => by
    show xs (cut r).1 = xs (.L n :: r)
    rw [xs_cut r]
    rfl
theorem ls_cut : ∀ its, ls its = (cut its).2 ++ ls (cut its).1
  | [] => rfl
  | .X n :: r => rfl
  | .L n :: r => by
    show n :: ls r = n :: ((cut r).2 ++ ls (cut r).1)
    rw [← ls_cut r]
/-- nothing, or a variable ahead -/
def Led (its : List Itm) : Prop := its = [] ∨ ∃ v r, its = .X v :: r
theorem led_cut : ∀ its, Led (cut its).1
  | [] => .inl rfl
  | .X n :: r => .inr ⟨n, r, rfl⟩
  | .L n :: r => led_cut r
inductive Der (rules : List Ru) : List Itm → List Nat → List Nat → Prop
  | nil : Der rules [] [] []
  | step {n v : Nat} {body rest its : List Itm} {w way word : List Nat} : rules[n]? = some (v, body) → cut (body ++ rest) = (its, w) → Der rules its way word → Der rules (.X v :: rest) (n :: way) (w ++ word)
/-- a sum over the rules -/
def sm : List Ru → (Nat → Nat) → (Ru → Nat) → Nat
  | [], _, _ => 0
  | r :: rs, g, f => g 0 * f r + sm rs (fun i => g (i + 1)) f
theorem sm_congr : ∀ (rules : List Ru) (g h : Nat → Nat) (f : Ru → Nat), (∀ i, i < rules.length → g i = h i) → sm rules g f = sm rules h f
  | [], _, _, _, _ => rfl
  | r :: rs, g, h, f, e => by
    show g 0 * f r + _ = h 0 * f r + _
    rw [e 0 (by simp), sm_congr rs _ (fun i => h (i + 1)) f fun i hi => e (i + 1) (by simpa using hi)]
theorem sm_zero : ∀ (rules : List Ru) (f : Ru → Nat), sm rules (fun _ => 0) f = 0
  | [], _ => rfl
  | r :: rs, f => by
    show 0 * f r + sm rs (fun _ => 0) f = 0
    rw [sm_zero rs f, Nat.zero_mul]
/-- one more use of the rule n -/
def inc (n : Nat) (g : Nat → Nat) : Nat → Nat := fun i => if i = n then g i + 1 else g i
def dec (n : Nat) (g : Nat → Nat) : Nat → Nat := fun i => if i = n then g i - 1 else g i
theorem sm_inc : ∀ (rules : List Ru) (n : Nat) (g : Nat → Nat) (f : Ru → Nat) (r : Ru), rules[n]? = some r → sm rules (inc n g) f = f r + sm rules g f
  | [], n, g, f, r, h => by simp at h
  | r' :: rs, 0, g, f, r, h => by
    obtain rfl : r' = r := by simpa using h
    show (inc 0 g 0) * f r' + sm rs (fun i => inc 0 g (i + 1)) f = f r' + (g 0 * f r' + sm rs (fun i => g (i + 1)) f)
    have e1 : inc 0 g 0 = g 0 + 1 := if_pos rfl
    have e2 : (fun i => inc 0 g (i + 1)) = fun i => g (i + 1) := funext fun i => if_neg (by omega)
    rw [e1, e2, Nat.add_mul, Nat.one_mul]
    omega
  | r' :: rs, n + 1, g, f, r, h => by
    show (inc (n + 1) g 0) * f r' + sm rs (fun i => inc (n + 1) g (i + 1)) f = f r + (g 0 * f r' + sm rs (fun i => g (i + 1)) f)
    have e1 : inc (n + 1) g 0 = g 0 := if_neg (by omega)
    have e2 : (fun i => inc (n + 1) g (i + 1)) = inc n fun i => g (i + 1) := funext fun i => by
      unfold inc
      by_cases c : i = n
      · rw [if_pos c, if_pos (by omega)]
      · rw [if_neg c, if_neg (by omega)]
    rw [e1, e2, sm_inc rs n _ f r (by simpa using h)]
    omega
theorem inc_dec {n : Nat} {g : Nat → Nat} (h : 0 < g n) : inc n (dec n g) = g := funext fun i => by
  unfold inc dec
  by_cases c : i = n
  · subst c; simp; omega
  · simp [c]
theorem sm_dec {rules : List Ru} {n : Nat} {g : Nat → Nat} {f : Ru → Nat} {r : Ru} (h : rules[n]? = some r) (hg : 0 < g n) : sm rules g f = f r + sm rules (dec n g) f := by
  have := sm_inc rules n (dec n g) f r h
  rwa [inc_dec hg] at this
theorem sm_pos : ∀ (rules : List Ru) (g : Nat → Nat) (f : Ru → Nat), 0 < sm rules g f → ∃ i r, rules[i]? = some r ∧ 0 < g i ∧ 0 < f r
  | [], _, _, h => by simp [sm] at h
  | r :: rs, g, f, h => by
    by_cases c : 0 < g 0 * f r
    · exact ⟨0, r, rfl, Nat.pos_of_mul_pos_right c, Nat.pos_of_mul_pos_left c⟩
    · have h2 : 0 < g 0 * f r + sm rs (fun i => g (i + 1)) f := h
      obtain ⟨i, r', h1, h3, h4⟩ := sm_pos rs (fun i => g (i + 1)) f (by omega)
      exact ⟨i + 1, r', by simpa using h1, h3, h4⟩
theorem sm_ge {rules : List Ru} {n : Nat} {g : Nat → Nat} {f : Ru → Nat} {r : Ru} (h : rules[n]? = some r) (hg : 0 < g n) : f r ≤ sm rules g f := by
  rw [sm_dec h hg]
  omega
inductive Reach (rules : List Ru) (g : Nat → Nat) (A : List Nat) : Nat → Prop
  | base {v : Nat} : v ∈ A → Reach rules g A v
  | step {i v : Nat} {r : Ru} : rules[i]? = some r → 0 < g i → Reach rules g A r.1 → v ∈ xs r.2 → Reach rules g A v
def hd (v : Nat) : Ru → Nat := fun r => if r.1 = v then 1 else 0
def bd (v : Nat) : Ru → Nat := fun r => (xs r.2).count v
def Bal (rules : List Ru) (g : Nat → Nat) (A : List Nat) : Prop := ∀ v, A.count v + sm rules g (bd v) = sm rules g (hd v)
def Con (rules : List Ru) (g : Nat → Nat) (A : List Nat) : Prop := ∀ i r, rules[i]? = some r → 0 < g i → Reach rules g A r.1
theorem Reach.mono {rules : List Ru} {g h : Nat → Nat} {A B : List Nat} (hg : ∀ i, 0 < g i → 0 < h i) (hA : ∀ v ∈ A, Reach rules h B v) {v : Nat} (r : Reach rules g A v) : Reach rules h B v := by
  induction r with
  | base m => exact hA _ m
  | step e p _ m ih => exact .step e (hg _ p) ih m
theorem hd_pos {v : Nat} {r : Ru} (h : 0 < hd v r) : r.1 = v := by
  unfold hd at h
  split at h
  · assumption
  · omega
theorem bd_pos {v : Nat} {r : Ru} (h : 0 < bd v r) : v ∈ xs r.2 := List.count_pos_iff.mp h
/-- the counts of a way -/
def ct (way : List Nat) : Nat → Nat := fun k => way.count k
theorem ct_cons (n : Nat) (way : List Nat) : ct (n :: way) = inc n (ct way) := funext fun i => by
  unfold ct inc
  rw [List.count_cons]
  by_cases c : i = n
  · subst c; simp
  · rw [if_neg c, if_neg (by simpa using Ne.symm c)]; rfl
theorem Der.lt {rules : List Ru} {its : List Itm} {way word : List Nat} (d : Der rules its way word) : ∀ k ∈ way, k < rules.length := by
  induction d with
  | nil => intro k h; cases h
  | step h _ _ ih =>
    intro k hk
    rcases List.mem_cons.mp hk with e | e
    · rw [e]; exact (List.getElem?_eq_some_iff.mp h).1
    · exact ih k e
theorem Der.bal {rules : List Ru} {its : List Itm} {way word : List Nat} (d : Der rules its way word) : Bal rules (ct way) (xs its) := by
  induction d with
  | nil => intro v; rw [show ct [] = fun _ => 0 from rfl, sm_zero, sm_zero]; rfl
  | @step n v body rest its w way word h c d ih =>
    intro u
    have e := ih u
    have ex : xs its = xs body ++ xs rest := by
      have := xs_cut (body ++ rest)
      rw [c] at this
      rw [← xs_app]
      exact this
    rw [ex, List.count_append] at e
    rw [ct_cons, sm_inc _ _ _ _ _ h, sm_inc _ _ _ _ _ h]
    show (v :: xs rest).count u + (bd u (v, body) + _) = hd u (v, body) + _
    rw [List.count_cons]
    show _ + (List.count u (xs body) + _) = (if v = u then 1 else 0) + _
    by_cases z : v = u
    · simp [z] at e ⊢; omega
    · simp [z] at e ⊢; omega
theorem Der.con {rules : List Ru} {its : List Itm} {way word : List Nat} (d : Der rules its way word) : Con rules (ct way) (xs its) := by
  induction d with
  | nil => intro i r _ h; exact absurd h (by simp [ct])
  | @step n v body rest its w way word h c d ih =>
    have ex : xs its = xs body ++ xs rest := by
      have := xs_cut (body ++ rest)
      rw [c] at this
      rw [← xs_app]
      exact this
    have hv : Reach rules (ct (n :: way)) (xs (.X v :: rest)) v := .base (List.mem_cons_self ..)
    have hn : 0 < ct (n :: way) n := by rw [ct_cons]; simp [inc]
    intro i r hi hp
    by_cases ei : i = n
    · subst ei
      rw [hi] at h
      cases h
      exact hv
    · have hp2 : 0 < ct way i := by rw [ct_cons] at hp; simpa [inc, ei] using hp
      refine Reach.mono (fun j hj => by rw [ct_cons]; unfold inc; split <;> omega) (fun u hu => ?_) (ih i r hi hp2)
      rw [ex] at hu
      rcases List.mem_append.mp hu with m | m
      · exact .step h hn hv m
      · exact .base (List.mem_cons_of_mem _ m)
def lc (l : Nat) : Ru → Nat := fun r => (ls r.2).count l
theorem Der.let {rules : List Ru} {its : List Itm} {way word : List Nat} (d : Der rules its way word) (l : Nat) : word.count l = (ls its).count l + sm rules (ct way) (lc l) := by
  induction d with
  | nil => rw [show ct [] = fun _ => 0 from rfl, sm_zero]; rfl
  | @step n v body rest its w way word h c d ih =>
    have ex : ls body ++ ls rest = w ++ ls its := by
      have := ls_cut (body ++ rest)
      rw [c] at this
      rw [← ls_app]
      exact this
    have ex2 := congrArg (List.count l) ex
    rw [List.count_append, List.count_append] at ex2
    rw [ct_cons, sm_inc _ _ _ _ _ h, List.count_append, ih]
    show _ = (ls rest).count l + ((ls body).count l + _)
    omega
/-- which rule may come next -/
theorem next_rule {rules : List Ru} {g : Nat → Nat} {v : Nat} {A : List Nat} (hb : Bal rules g (v :: A)) (hc : Con rules g (v :: A)) :
    ∃ n r, rules[n]? = some r ∧ r.1 = v ∧ 0 < g n ∧ Con rules (dec n g) (xs r.2 ++ A) := by
  have b0 := hb v
  rw [List.count_cons_self] at b0
  obtain ⟨n0, r0, a1, a2, a3⟩ := sm_pos rules g (hd v) (by omega)
  have hv0 := hd_pos a3
  -- what is reached without v's rules
  let Q : Nat → List Nat → Nat → Prop := fun _ B x => ∀ h : Nat → Nat, (∀ i r, rules[i]? = some r → r.1 ≠ v → 0 < g i → 0 < h i) → ∀ C : List Nat, (∀ y ∈ B, y ∈ C) → Reach rules h C x
  have keep : ∀ n r, rules[n]? = some r → r.1 = v → 0 < g n → Reach rules (dec n g) (xs r.2 ++ A) v → Con rules (dec n g) (xs r.2 ++ A) := fun n r h1 h2 h3 hv => by
    have all : ∀ x, Reach rules g (v :: A) x → Reach rules (dec n g) (xs r.2 ++ A) x := fun x hx => by
      induction hx with
      | base m =>
        rcases List.mem_cons.mp m with e | m
        · rw [e]; exact hv
        · exact .base (List.mem_append.mpr (.inr m))
      | @step i x r' e p hr m ih =>
        by_cases z : i = n
        · subst z
          rw [h1] at e
          cases e
          exact .base (List.mem_append.mpr (.inl m))
        · exact .step e (by unfold dec; rw [if_neg z]; exact p) ih m
    intro i r' e p
    have p2 : 0 < g i := by unfold dec at p; split at p <;> omega
    exact all _ (hc i r' e p2)
  by_cases one : sm rules (dec n0 g) (hd v) = 0
  · -- one use of v's rules alone
    refine ⟨n0, r0, a1, hv0, a2, ?_⟩
    have none : ∀ i r, rules[i]? = some r → r.1 = v → ¬ 0 < dec n0 g i := fun i r e z p => by
      have := sm_ge (f := hd v) e p
      have : hd v r = 1 := by unfold hd; rw [if_pos z]
      omega
    have all : ∀ x, Reach rules g (v :: A) x → x = v ∨ Reach rules (dec n0 g) (xs r0.2 ++ A) x := fun x hx => by
      induction hx with
      | base m =>
        rcases List.mem_cons.mp m with e | m
        · exact .inl e
        · exact .inr (.base (List.mem_append.mpr (.inr m)))
      | @step i x r' e p hr m ih =>
        by_cases z : i = n0
        · subst z
          rw [a1] at e
          cases e
          exact .inr (.base (List.mem_append.mpr (.inl m)))
        · have p2 : 0 < dec n0 g i := by unfold dec; rw [if_neg z]; exact p
          rcases ih with ih | ih
          · exact absurd p2 (none i r' e ih)
          · exact .inr (.step e p2 ih m)
    intro i r' e p
    have p2 : 0 < g i := by unfold dec at p; split at p <;> omega
    rcases all _ (hc i r' e p2) with z | z
    · exact absurd p (none i r' e z)
    · exact z
  · by_cases inA : v ∈ A
    · exact ⟨n0, r0, a1, hv0, a2, keep n0 r0 a1 hv0 a2 (.base (List.mem_append.mpr (.inr inA)))⟩
    · have c0 : A.count v = 0 := List.count_eq_zero.mpr inA
      have d0 := sm_dec (f := hd v) a1 a2
      have hh : hd v r0 = 1 := by unfold hd; rw [if_pos hv0]
      obtain ⟨s, rs, s1, s2, s3⟩ := sm_pos rules g (bd v) (by omega)
      have s4 := bd_pos s3
      -- reach without v's rules
      have claim : ∀ x, Reach rules g (v :: A) x → x = v ∨ (∀ h : Nat → Nat, (∀ i r, rules[i]? = some r → r.1 ≠ v → 0 < g i → 0 < h i) → ∀ C : List Nat, (∀ y ∈ A, y ∈ C) → Reach rules h C x) ∨
          ∃ n r, rules[n]? = some r ∧ r.1 = v ∧ 0 < g n ∧ (∀ h : Nat → Nat, (∀ i r, rules[i]? = some r → r.1 ≠ v → 0 < g i → 0 < h i) → ∀ C : List Nat, (∀ y ∈ xs r.2, y ∈ C) → Reach rules h C x) := fun x hx => by
        induction hx with
        | base m =>
          rcases List.mem_cons.mp m with e | m
          · exact .inl e
          · exact .inr (.inl fun h _ C hC => .base (hC _ m))
        | @step i x r' e p hr m ih =>
          by_cases z : r'.1 = v
          · exact .inr (.inr ⟨i, r', e, z, p, fun h _ C hC => .base (hC _ m)⟩)
          · rcases ih with ih | ih | ⟨n, r, q1, q2, q3, q4⟩
            · exact absurd ih z
            · exact .inr (.inl fun h hh C hC => .step e (hh i r' e z p) (ih h hh C hC) m)
            · exact .inr (.inr ⟨n, r, q1, q2, q3, fun h hh C hC => .step e (hh i r' e z p) (q4 h hh C hC) m⟩)
      have other : ∀ n r, rules[n]? = some r → r.1 = v → ∀ i r', rules[i]? = some r' → r'.1 ≠ v → 0 < g i → 0 < dec n g i := fun n r e1 e2 i r' e3 e4 p => by
        have : i ≠ n := fun z => by subst z; rw [e1] at e3; cases e3; exact e4 e2
        unfold dec
        rw [if_neg this]
        exact p
      by_cases z : rs.1 = v
      · exact ⟨s, rs, s1, z, s2, keep s rs s1 z s2 (.base (List.mem_append.mpr (.inl s4)))⟩
      · rcases claim _ (hc s rs s1 s2) with q | q | ⟨n, r, q1, q2, q3, q4⟩
        · exact absurd q z
        · refine ⟨n0, r0, a1, hv0, a2, keep n0 r0 a1 hv0 a2 ?_⟩
          exact .step s1 (other n0 r0 a1 hv0 s rs s1 z s2) (q _ (other n0 r0 a1 hv0) _ fun y hy => List.mem_append.mpr (.inr hy)) s4
        · refine ⟨n, r, q1, q2, q3, keep n r q1 q2 q3 ?_⟩
          exact .step s1 (other n r q1 q2 s rs s1 z s2) (q4 _ (other n r q1 q2) _ fun y hy => List.mem_append.mpr (.inl hy)) s4
theorem bal_dec {rules : List Ru} {g : Nat → Nat} {v n : Nat} {A : List Nat} {r : Ru} (hb : Bal rules g (v :: A)) (h1 : rules[n]? = some r) (h2 : r.1 = v) (h3 : 0 < g n) : Bal rules (dec n g) (xs r.2 ++ A) := fun u => by
  have e := hb u
  rw [sm_dec (f := bd u) h1 h3, sm_dec (f := hd u) h1 h3] at e
  rw [List.count_cons] at e
  rw [List.count_append]
  have e1 : bd u r = (xs r.2).count u := rfl
  have e2 : hd u r = if v = u then 1 else 0 := by unfold hd; rw [h2]
  rw [e1, e2] at e
  by_cases z : v = u
  · simp [z] at e ⊢; omega
  · simp [z] at e ⊢; omega
theorem no_use {rules : List Ru} {g : Nat → Nat} (hc : Con rules g []) : ∀ i, i < rules.length → g i = 0 := fun i hi => by
  have none : ∀ x, ¬ Reach rules g [] x := fun x hx => by
    induction hx with
    | base m => cases m
    | step _ _ _ _ ih => exact ih
  cases z : g i with
  | zero => rfl
  | succ k => exact absurd (hc i rules[i] (by simp [hi]) (by omega)) (none _)
/-- uses that are balanced and connected have a way -/
theorem has_way (rules : List Ru) : ∀ (N : Nat) (g : Nat → Nat) (its : List Itm), sm rules g (fun _ => 1) = N → Led its → Bal rules g (xs its) → Con rules g (xs its) →
    ∃ way word, Der rules its way word ∧ (∀ i, i < rules.length → ct way i = g i) ∧ way.length = N
  | N, g, its, hN, .inl e, hb, hc => by
    subst e
    have z := no_use hc
    refine ⟨[], [], .nil, fun i hi => (z i hi).symm, ?_⟩
    rw [← hN, sm_congr rules g (fun _ => 0) _ z, sm_zero]
    rfl
  | N, g, its, hN, .inr ⟨v, rest, e⟩, hb, hc => by
    subst e
    obtain ⟨n, r, h1, h2, h3, h4⟩ := next_rule (A := xs rest) hb hc
    have h5 := bal_dec (A := xs rest) hb h1 h2 h3
    have hd1 := sm_dec (f := fun _ => 1) h1 h3
    obtain ⟨M, hM⟩ : ∃ M, N = M + 1 := ⟨N - 1, by omega⟩
    have ex : xs (cut (r.2 ++ rest)).1 = xs r.2 ++ xs rest := by rw [xs_cut, xs_app]
    obtain ⟨way, word, d, c, l⟩ := has_way rules M (dec n g) (cut (r.2 ++ rest)).1 (by omega) (led_cut _) (by rw [ex]; exact h5) (by rw [ex]; exact h4)
    refine ⟨n :: way, (cut (r.2 ++ rest)).2 ++ word, .step (v := v) (body := r.2) (by rw [h1, ← h2]) rfl d, fun i hi => ?_, by rw [List.length_cons, l, hM]⟩
    rw [ct_cons]
    have e := congrFun (inc_dec h3) i
    rw [← e]
    unfold inc
    rw [c i hi]
termination_by N => N
decreasing_by omega
end Gm
/-! ## N45 -/
/-! grammars: what is listed, what is met -/
namespace Gm
theorem Der.many {rules : List Ru} {its : List Itm} {way word : List Nat} (d : Der rules its way word) : (xs its).length ≤ way.length := by
  induction d with
  | nil => exact Nat.le_refl _
  | @step n v body rest its w way word h c d ih =>
    have ex : xs its = xs body ++ xs rest := by
      have := xs_cut (body ++ rest)
      rw [c] at this
      rw [← xs_app]
      exact this
    have e2 := congrArg List.length ex
    rw [List.length_append] at e2
    show (xs rest).length + 1 ≤ way.length + 1
    omega
def put (rules : List Ru) (its : List Itm) (n : Nat) : Option (List Itm) := match its with
  | .X v :: rest => match rules[n]? with
    | some r => if r.1 = v then some (r.2 ++ rest) else none
    | none => none
  | _ => none
theorem put_some {rules : List Ru} {its told : List Itm} {n : Nat} (h : put rules its n = some told) : ∃ v rest body, its = .X v :: rest ∧ rules[n]? = some (v, body) ∧ told = body ++ rest := by
  unfold put at h
  split at h
  · rename_i v rest
    split at h
    · rename_i r e
      split at h
      · rename_i c
        refine ⟨v, rest, r.2, rfl, ?_, (Option.some.inj h).symm⟩
        rw [e, ← c]
      · cases h
    · cases h
  · cases h
theorem put_of {rules : List Ru} {rest body : List Itm} {n v : Nat} (h : rules[n]? = some (v, body)) : put rules (.X v :: rest) n = some (body ++ rest) := by
  unfold put
  simp [h]
/-- items still open, letters so far, rules so far -/
abbrev Row := List Itm × List Nat × List Nat
def kid (rules : List Ru) (most step : Nat) (s : Row) (n : Nat) : Option Row := match put rules s.1 n with
  | some told => if (xs told).length + step < most then some ((cut told).1, s.2.1 ++ (cut told).2, s.2.2 ++ [n]) else none
  | none => none
def kids (rules : List Ru) (most step : Nat) (s : Row) : List Row := (List.range rules.length).filterMap (kid rules most step s)
def outs (rules : List Ru) (most step : Nat) (here : List Row) : List Row := here.flatMap (kids rules most step)
def isDone (s : Row) : Bool := s.1.isEmpty
def openOf (os : List Row) : List Row := os.filter fun s => !isDone s
def doneOf (os : List Row) : List (List Nat × List Nat) := (os.filter isDone).map fun s => (s.2.2, s.2.1)
def lay (rules : List Ru) (most : Nat) : Nat → List Row × List (List Nat × List Nat)
  | 0 => ([([.X 0], [], [])], [])
  | k + 1 => let o := outs rules most k (lay rules most k).1
    (openOf o, (lay rules most k).2 ++ doneOf o)
def listed (rules : List Ru) (most : Nat) : List (List Nat × List Nat) := (lay rules most most).2
theorem kid_some {rules : List Ru} {most step n : Nat} {s t : Row} (h : kid rules most step s n = some t) : ∃ v rest body, s.1 = .X v :: rest ∧ rules[n]? = some (v, body) ∧ (xs (body ++ rest)).length + step < most ∧ t = ((cut (body ++ rest)).1, s.2.1 ++ (cut (body ++ rest)).2, s.2.2 ++ [n]) := by
  unfold kid at h
  split at h
  · rename_i told e
    obtain ⟨v, rest, body, h1, h2, rfl⟩ := put_some e
    split at h
    · rename_i c
      exact ⟨v, rest, body, h1, h2, c, (Option.some.inj h).symm⟩
    · cases h
  · cases h
structure LayS (rules : List Ru) (k : Nat) (L : List Row × List (List Nat × List Nat)) : Prop where
  here : ∀ s ∈ L.1, Led s.1 ∧ s.1 ≠ [] ∧ s.2.2.length = k ∧ ∀ way word, Der rules s.1 way word → Der rules [.X 0] (s.2.2 ++ way) (s.2.1 ++ word)
  done : ∀ r ∈ L.2, Der rules [.X 0] r.1 r.2 ∧ r.1.length ≤ k
theorem kid_der {rules : List Ru} {most step n : Nat} {s t : Row} (h : kid rules most step s n = some t) (d : ∀ way word, Der rules s.1 way word → Der rules [.X 0] (s.2.2 ++ way) (s.2.1 ++ word)) :
    ∀ way word, Der rules t.1 way word → Der rules [.X 0] (t.2.2 ++ way) (t.2.1 ++ word) := fun way word e => by
  obtain ⟨v, rest, body, h1, h2, _, rfl⟩ := kid_some h
  have := d (n :: way) ((cut (body ++ rest)).2 ++ word) (by rw [h1]; exact .step h2 rfl e)
  show Der rules _ ((s.2.2 ++ [n]) ++ way) ((s.2.1 ++ (cut (body ++ rest)).2) ++ word)
  rw [List.append_assoc, List.append_assoc]
  exact this
theorem lay_s (rules : List Ru) (most : Nat) : ∀ k, LayS rules k (lay rules most k)
  | 0 => ⟨fun s hs => by
      obtain rfl : s = ([.X 0], [], []) := by simpa [lay] using hs
      exact ⟨.inr ⟨0, [], rfl⟩, by simp, rfl, fun way word d => d⟩, fun r hr => by simp [lay] at hr⟩
  | k + 1 => by
    have ih := lay_s rules most k
    have out : ∀ t ∈ outs rules most k (lay rules most k).1, Led t.1 ∧ t.2.2.length = k + 1 ∧ ∀ way word, Der rules t.1 way word → Der rules [.X 0] (t.2.2 ++ way) (t.2.1 ++ word) := fun t ht => by
      obtain ⟨s, hs, h1⟩ := List.mem_flatMap.mp ht
      obtain ⟨n, _, h2⟩ := List.mem_filterMap.mp h1
      obtain ⟨a1, a2, a3, a4⟩ := ih.here s hs
      refine ⟨?_, ?_, kid_der h2 a4⟩
      · obtain ⟨v, rest, body, _, _, _, rfl⟩ := kid_some h2
        exact led_cut _
      · obtain ⟨v, rest, body, _, _, _, rfl⟩ := kid_some h2
        show (s.2.2 ++ [n]).length = k + 1
        rw [List.length_append, a3]
        rfl
    refine ⟨fun s hs => ?_, fun r hr => ?_⟩
    · obtain ⟨h1, h2⟩ := List.mem_filter.mp (show s ∈ openOf (outs rules most k (lay rules most k).1) from hs)
      obtain ⟨b1, b2, b3⟩ := out s h1
      exact ⟨b1, by simpa [isDone] using h2, b2, b3⟩
    · rcases List.mem_append.mp (show r ∈ (lay rules most k).2 ++ doneOf (outs rules most k (lay rules most k).1) from hr) with m | m
      · obtain ⟨c1, c2⟩ := ih.done r m
        exact ⟨c1, by omega⟩
      · obtain ⟨s, hs, rfl⟩ := List.mem_map.mp m
        obtain ⟨h1, h2⟩ := List.mem_filter.mp hs
        obtain ⟨b1, b2, b3⟩ := out s h1
        have e : s.1 = [] := by simpa [isDone] using h2
        have := b3 [] [] (by rw [e]; exact .nil)
        rw [List.append_nil, List.append_nil] at this
        exact ⟨this, by show s.2.2.length ≤ k + 1; omega⟩
theorem lay_c (rules : List Ru) (most : Nat) : ∀ k, ∀ way word, Der rules [.X 0] way word → way.length ≤ most →
    (way.length ≤ k ∧ (way, word) ∈ (lay rules most k).2) ∨ (k < way.length ∧ ∃ s ∈ (lay rules most k).1, ∃ w2 word2, way = s.2.2 ++ w2 ∧ word = s.2.1 ++ word2 ∧ Der rules s.1 w2 word2)
  | 0, way, word, d, hl => .inr ⟨by
      cases d
      simp, _, List.mem_singleton.mpr rfl, way, word, rfl, rfl, d⟩
  | k + 1, way, word, d, hl => by
    rcases lay_c rules most k way word d hl with ⟨h1, h2⟩ | ⟨h1, s, hs, w2, word2, e1, e2, d2⟩
    · exact .inl ⟨by omega, List.mem_append.mpr (.inl h2)⟩
    · obtain ⟨a1, a2, a3, a4⟩ := (lay_s rules most k).here s hs
      obtain ⟨its, wd, wy⟩ := s
      simp only at a1 a2 a3 a4 e1 e2 d2
      cases d2 with
      | nil => exact absurd rfl a2
      | @step n v body rest its' w way' word' q1 q2 q3 =>
        have l2 := congrArg List.length e1
        rw [List.length_append, List.length_cons] at l2
        have m := q3.many
        have ex : xs (body ++ rest) = xs its' := by
          have := xs_cut (body ++ rest)
          rw [q2] at this
          exact this.symm
        have hk : kid rules most k (.X v :: rest, wd, wy) n = some (its', wd ++ w, wy ++ [n]) := by
          unfold kid
          rw [put_of q1]
          show (if (xs (body ++ rest)).length + k < most then some ((cut (body ++ rest)).1, wd ++ (cut (body ++ rest)).2, wy ++ [n]) else none) = _
          rw [if_pos (by rw [ex]; omega), q2]
        have hin : (its', wd ++ w, wy ++ [n]) ∈ outs rules most k (lay rules most k).1 :=
          List.mem_flatMap.mpr ⟨_, hs, List.mem_filterMap.mpr ⟨n, List.mem_range.mpr (List.getElem?_eq_some_iff.mp q1).1, hk⟩⟩
        by_cases z : its' = []
        · subst z
          cases q3
          refine .inl ⟨by simp at l2; omega, List.mem_append.mpr (.inr (List.mem_map.mpr ⟨_, List.mem_filter.mpr ⟨hin, rfl⟩, ?_⟩))⟩
          rw [e1, e2, List.append_nil]
        · have lw : 0 < way'.length := by
            cases q3 with
            | nil => exact absurd rfl z
            | step => simp
          refine .inr ⟨by omega, _, List.mem_filter.mpr ⟨hin, by simpa [isDone] using z⟩, way', word', ?_, ?_, q3⟩
          · rw [e1]; simp
          · rw [e2]; simp
theorem listed_s {rules : List Ru} {most : Nat} {r : List Nat × List Nat} (h : r ∈ listed rules most) : Der rules [.X 0] r.1 r.2 ∧ r.1.length ≤ most := (lay_s rules most most).done r h
theorem listed_c {rules : List Ru} {most : Nat} {way word : List Nat} (d : Der rules [.X 0] way word) (h : way.length ≤ most) : (way, word) ∈ listed rules most := by
  rcases lay_c rules most most way word d h with ⟨_, z⟩ | ⟨z, _⟩
  · exact z
  · omega
theorem outs_len (rules : List Ru) (most step : Nat) : ∀ here : List Row, (outs rules most step here).length ≤ here.length * rules.length
  | [] => by simp [outs]
  | s :: r => by
    have := outs_len rules most step r
    have e : outs rules most step (s :: r) = kids rules most step s ++ outs rules most step r := rfl
    have k : (kids rules most step s).length ≤ rules.length := by
      have := List.length_filterMap_le (kid rules most step s) (List.range rules.length)
      rw [List.length_range] at this
      exact this
    rw [e, List.length_append, List.length_cons, Nat.succ_mul]
    omega
theorem lay_len (rules : List Ru) (most : Nat) (h : rules.length ≤ 4) : ∀ k, (lay rules most k).1.length ≤ 4 ^ k ∧ (lay rules most k).2.length ≤ k * 4 ^ k
  | 0 => by simp [lay]
  | k + 1 => by
    obtain ⟨i1, i2⟩ := lay_len rules most h k
    have o := outs_len rules most k (lay rules most k).1
    have o2 : (lay rules most k).1.length * rules.length ≤ 4 ^ k * 4 := Nat.mul_le_mul i1 h
    have a1 : (openOf (outs rules most k (lay rules most k).1)).length ≤ _ := List.length_filter_le _ _
    have a2 : (doneOf (outs rules most k (lay rules most k).1)).length ≤ (outs rules most k (lay rules most k).1).length := by
      unfold doneOf
      rw [List.length_map]
      exact List.length_filter_le _ _
    have e : 4 ^ (k + 1) = 4 ^ k * 4 := Nat.pow_succ ..
    refine ⟨by show (openOf _).length ≤ _; omega, ?_⟩
    show ((lay rules most k).2 ++ doneOf _).length ≤ _
    rw [List.length_append, Nat.succ_mul]
    have : k * 4 ^ k ≤ k * 4 ^ (k + 1) := Nat.mul_le_mul_left k (by omega)
    omega
/-! ### what is met -/
def metOne (found : List Nat) (p : Ru × Nat) : List Nat := if 0 < p.2 ∧ p.1.1 ∈ found then found ++ xs p.1.2 else found
def metRound (ps : List (Ru × Nat)) (found : List Nat) : List Nat := ps.foldl metOne found
def metN (ps : List (Ru × Nat)) : Nat → List Nat → List Nat
  | 0, f => f
  | k + 1, f => metRound ps (metN ps k f)
theorem metOne_sub (f : List Nat) (p : Ru × Nat) : ∀ v ∈ f, v ∈ metOne f p := fun v h => by
  unfold metOne
  split
  · exact List.mem_append.mpr (.inl h)
  · exact h
theorem metRound_sub : ∀ (ps : List (Ru × Nat)) (f : List Nat), ∀ v ∈ f, v ∈ metRound ps f
  | [], _, _, h => h
  | p :: ps, f, v, h => metRound_sub ps _ v (metOne_sub f p v h)
theorem metRound_has : ∀ (ps : List (Ru × Nat)) (f : List Nat) (p : Ru × Nat), p ∈ ps → 0 < p.2 → p.1.1 ∈ f → ∀ v ∈ xs p.1.2, v ∈ metRound ps f
  | [], _, _, h, _, _, _, _ => by cases h
  | q :: ps, f, p, h, h1, h2, v, hv => by
    rcases List.mem_cons.mp h with e | e
    · subst e
      refine metRound_sub ps _ v ?_
      unfold metOne
      rw [if_pos ⟨h1, h2⟩]
      exact List.mem_append.mpr (.inr hv)
    · exact metRound_has ps _ p e h1 (metOne_sub f q _ h2) v hv
def psOf (rules : List Ru) (u : List Nat) : List (Ru × Nat) := rules.zip u
def gOf (u : List Nat) : Nat → Nat := fun i => u.getD i 0
theorem ps_mem {rules : List Ru} {u : List Nat} (hl : u.length = rules.length) {p : Ru × Nat} : p ∈ psOf rules u ↔ ∃ i, rules[i]? = some p.1 ∧ p.2 = gOf u i := by
  unfold psOf gOf
  constructor
  · intro h
    obtain ⟨i, hi⟩ := List.mem_iff_getElem?.mp h
    have hlt := (List.getElem?_eq_some_iff.mp hi).1
    rw [List.length_zip] at hlt
    rw [List.getElem?_zip_eq_some] at hi
    exact ⟨i, hi.1, by simp [hi.2]⟩
  · rintro ⟨i, h1, h2⟩
    have hlt := (List.getElem?_eq_some_iff.mp h1).1
    refine List.mem_iff_getElem?.mpr ⟨i, ?_⟩
    rw [List.getElem?_zip_eq_some]
    refine ⟨h1, ?_⟩
    rw [h2]
    simp [show i < u.length by omega]
theorem met_reach {rules : List Ru} {u : List Nat} (hl : u.length = rules.length) {A : List Nat} : ∀ (ps : List (Ru × Nat)) (f : List Nat), (∀ p ∈ ps, p ∈ psOf rules u) → (∀ v ∈ f, Reach rules (gOf u) A v) → ∀ v ∈ metRound ps f, Reach rules (gOf u) A v
  | [], f, _, h => h
  | p :: ps, f, hp, h => by
    refine met_reach hl ps (metOne f p) (fun q hq => hp q (List.mem_cons_of_mem _ hq)) fun v hv => ?_
    unfold metOne at hv
    split at hv
    · rename_i c
      rcases List.mem_append.mp hv with m | m
      · exact h v m
      · obtain ⟨i, h1, h2⟩ := (ps_mem hl).mp (hp p (List.mem_cons_self ..))
        exact .step h1 (by rw [← h2]; exact c.1) (h _ c.2) m
    · exact h v hv
theorem metN_reach {rules : List Ru} {u : List Nat} (hl : u.length = rules.length) {A : List Nat} : ∀ k, ∀ v ∈ metN (psOf rules u) k A, Reach rules (gOf u) A v
  | 0, v, h => .base h
  | k + 1, v, h => met_reach hl _ _ (fun _ z => z) (metN_reach hl k) v h
def Small (rules : List Ru) : Prop := ∀ r ∈ rules, r.1 < 4 ∧ ∀ v ∈ xs r.2, v < 4
def Closed (ps : List (Ru × Nat)) (f : List Nat) : Prop := ∀ p ∈ ps, 0 < p.2 → p.1.1 ∈ f → ∀ v ∈ xs p.1.2, v ∈ f
def card (f : List Nat) : Nat := ((List.range 4).filter fun v => f.contains v).length
theorem card_le (f : List Nat) : card f ≤ 4 := by
  have := List.length_filter_le (fun v => f.contains v) (List.range 4)
  simpa [card] using this
theorem filter_le {p q : Nat → Bool} : ∀ (l : List Nat), (∀ v ∈ l, p v = true → q v = true) → (l.filter p).length ≤ (l.filter q).length
  | [], _ => Nat.le_refl _
  | b :: l, h => by
    have ih := filter_le l fun v hv => h v (List.mem_cons_of_mem _ hv)
    have hb := h b (List.mem_cons_self ..)
    rw [List.filter_cons, List.filter_cons]
    cases hp : p b with
    | true =>
      rw [hb hp]
      simp only [if_true, List.length_cons]
      omega
    | false =>
      simp only [Bool.false_eq_true, if_false]
      split
      · rw [List.length_cons]; omega
      · exact ih
theorem filter_lt {p q : Nat → Bool} : ∀ (l : List Nat), (∀ v ∈ l, p v = true → q v = true) → (∃ v ∈ l, p v = false ∧ q v = true) → (l.filter p).length < (l.filter q).length
  | [], _, ⟨v, h, _⟩ => by cases h
  | a :: l, h, ⟨v, hv, h1, h2⟩ => by
    have le := filter_le l fun v hv => h v (List.mem_cons_of_mem _ hv)
    have ha := h a (List.mem_cons_self ..)
    rw [List.filter_cons, List.filter_cons]
    rcases List.mem_cons.mp hv with e | e
    · subst e
      rw [h1, h2]
      simp only [Bool.false_eq_true, if_false, if_true, List.length_cons]
      omega
    · have ih := filter_lt l (fun v hv => h v (List.mem_cons_of_mem _ hv)) ⟨v, e, h1, h2⟩
      cases hp : p a with
      | true =>
        rw [ha hp]
        simp only [if_true, List.length_cons]
        omega
      | false =>
        simp only [Bool.false_eq_true, if_false]
        split
        · rw [List.length_cons]; omega
        · exact ih
theorem met_grows {rules : List Ru} {u : List Nat} (hl : u.length = rules.length) (sm : Small rules) (f : List Nat) (hf : ∀ v ∈ f, v < 4) : Closed (psOf rules u) f ∨ card f < card (metRound (psOf rules u) f) := by
  by_cases c : Closed (psOf rules u) f
  · exact .inl c
  · right
    have : ∃ p ∈ psOf rules u, 0 < p.2 ∧ p.1.1 ∈ f ∧ ∃ v ∈ xs p.1.2, v ∉ f := by
      refine Classical.byContradiction fun z => c fun p hp h1 h2 v hv => Classical.byContradiction fun nv => z ⟨p, hp, h1, h2, v, hv, nv⟩
    obtain ⟨p, hp, h1, h2, v, hv, nv⟩ := this
    obtain ⟨i, e1, _⟩ := (ps_mem hl).mp hp
    have hv4 := (sm p.1 (List.mem_of_getElem? e1)).2 v hv
    refine filter_lt _ (fun w _ hw => ?_) ⟨v, List.mem_range.mpr hv4, by simpa using nv, by simpa using metRound_has _ f p hp h1 h2 v hv⟩
    simpa using metRound_sub _ f w (by simpa using hw)
theorem met_small {rules : List Ru} {u : List Nat} (hl : u.length = rules.length) (sm : Small rules) : ∀ (ps : List (Ru × Nat)) (f : List Nat), (∀ p ∈ ps, p ∈ psOf rules u) → (∀ v ∈ f, v < 4) → ∀ v ∈ metRound ps f, v < 4
  | [], f, _, h => h
  | p :: ps, f, hp, h => by
    refine met_small hl sm ps (metOne f p) (fun q hq => hp q (List.mem_cons_of_mem _ hq)) fun v hv => ?_
    unfold metOne at hv
    split at hv
    · rcases List.mem_append.mp hv with m | m
      · exact h v m
      · obtain ⟨i, e1, _⟩ := (ps_mem hl).mp (hp p (List.mem_cons_self ..))
        exact (sm p.1 (List.mem_of_getElem? e1)).2 v m
    · exact h v hv
theorem closed_round {ps : List (Ru × Nat)} {f : List Nat} (c : Closed ps f) : ∀ (qs : List (Ru × Nat)) (h : List Nat), (∀ p ∈ qs, p ∈ ps) → (∀ v, v ∈ h ↔ v ∈ f) → ∀ v, v ∈ metRound qs h ↔ v ∈ f
  | [], h, _, e => e
  | p :: qs, h, hq, e => by
    refine closed_round c qs (metOne h p) (fun q m => hq q (List.mem_cons_of_mem _ m)) fun v => ?_
    unfold metOne
    split
    · rename_i z
      rw [List.mem_append, e v]
      exact ⟨fun m => m.elim id fun m => c p (hq p (List.mem_cons_self ..)) z.1 ((e _).mp z.2) v m, .inl⟩
    · exact e v
theorem metN_closed {rules : List Ru} {u : List Nat} (hl : u.length = rules.length) (sm : Small rules) {A : List Nat} (hA : ∀ v ∈ A, v < 4) : Closed (psOf rules u) (metN (psOf rules u) 4 A) := by
  have all : ∀ k, (∀ v ∈ metN (psOf rules u) k A, v < 4) ∧ (Closed (psOf rules u) (metN (psOf rules u) k A) ∨ card A + k ≤ card (metN (psOf rules u) k A)) := fun k => by
    induction k with
    | zero => exact ⟨hA, .inr (Nat.le_refl _)⟩
    | succ k ih =>
      refine ⟨met_small hl sm _ _ (fun _ z => z) ih.1, ?_⟩
      have same : ∀ {f : List Nat}, Closed (psOf rules u) f → Closed (psOf rules u) (metRound (psOf rules u) f) := fun {f} c p hp h1 h2 v hv => by
        have e := closed_round c (psOf rules u) f (fun _ z => z) fun _ => Iff.rfl
        exact (e v).mpr (c p hp h1 ((e _).mp h2) v hv)
      rcases ih.2 with c | c
      · exact .inl (same c)
      · rcases met_grows hl sm _ ih.1 with d | d
        · exact .inl (same d)
        · right
          show card A + (k + 1) ≤ card (metRound _ _)
          omega
  rcases (all 4).2 with c | c
  · exact c
  · -- nothing to begin with, or all four are met
    have le := card_le (metN (psOf rules u) 4 A)
    have full : ∀ v, v < 4 → v ∈ metN (psOf rules u) 4 A := fun v hv => by
      refine Classical.byContradiction fun nv => ?_
      have := filter_lt (p := fun w => (metN (psOf rules u) 4 A).contains w) (q := fun _ => true) (List.range 4) (fun _ _ _ => rfl) ⟨v, List.mem_range.mpr hv, by simpa using nv, rfl⟩
      have e : ((List.range 4).filter fun _ => true).length = 4 := by decide
      have : card (metN (psOf rules u) 4 A) < 4 := by unfold card; omega
      omega
    intro p hp h1 h2 v hv
    obtain ⟨i, e1, _⟩ := (ps_mem hl).mp hp
    exact full v ((sm p.1 (List.mem_of_getElem? e1)).2 v hv)
theorem closed_all {rules : List Ru} {u : List Nat} (hl : u.length = rules.length) {A f : List Nat} (hA : ∀ v ∈ A, v ∈ f) (c : Closed (psOf rules u) f) {v : Nat} (h : Reach rules (gOf u) A v) : v ∈ f := by
  induction h with
  | base m => exact hA _ m
  | @step i v r e p _ m ih => exact c (r, gOf u i) ((ps_mem hl).mpr ⟨i, e, rfl⟩) p ih v m
theorem metN_sub (ps : List (Ru × Nat)) : ∀ (k : Nat) (A : List Nat), ∀ v ∈ A, v ∈ metN ps k A
  | 0, _, _, h => h
  | k + 1, A, v, h => metRound_sub ps _ v (metN_sub ps k A v h)
theorem met_iff {rules : List Ru} {u : List Nat} (hl : u.length = rules.length) (sm : Small rules) {A : List Nat} (hA : ∀ v ∈ A, v < 4) (v : Nat) : v ∈ metN (psOf rules u) 4 A ↔ Reach rules (gOf u) A v :=
  ⟨metN_reach hl 4 v, closed_all hl (metN_sub _ 4 A) (metN_closed hl sm hA)⟩
/-- each used rule's head is in f -/
def conB (rules : List Ru) (u : List Nat) (f : List Nat) : Bool := (psOf rules u).all fun p => p.2 == 0 || f.contains p.1.1
theorem conB_iff {rules : List Ru} {u : List Nat} (hl : u.length = rules.length) {A f : List Nat} (hf : ∀ v, v ∈ f ↔ Reach rules (gOf u) A v) : conB rules u f = true ↔ Con rules (gOf u) A := by
  unfold conB Con
  rw [List.all_eq_true]
  constructor
  · intro h i r e p
    have := h (r, gOf u i) ((ps_mem hl).mpr ⟨i, e, rfl⟩)
    simp only [Bool.or_eq_true, beq_iff_eq, List.contains_iff_mem] at this
    rcases this with z | z
    · omega
    · exact (hf _).mp z
  · intro h p hp
    obtain ⟨i, e1, e2⟩ := (ps_mem hl).mp hp
    simp only [Bool.or_eq_true, beq_iff_eq, List.contains_iff_mem]
    by_cases z : p.2 = 0
    · exact .inl z
    · exact .inr ((hf _).mpr (h i p.1 e1 (by omega)))
/-! ### sums -/
def lefts (v : Nat) : List (Ru × Nat) → Int → Int
  | [], s => s
  | p :: ps, s => lefts v ps (s + (p.2 : Int) * ((xs p.1.2).count v : Nat) - (if p.1.1 = v then (p.2 : Int) else 0))
theorem lefts_sm (v : Nat) : ∀ (rules : List Ru) (u : List Nat) (s : Int), u.length = rules.length → lefts v (psOf rules u) s = s + (sm rules (gOf u) (bd v) : Nat) - (sm rules (gOf u) (hd v) : Nat)
  | [], [], s, _ => by simp [psOf, lefts, sm]
  | [], _ :: _, _, h => by simp at h
  | _ :: _, [], _, h => by simp at h
  | r :: rules, k :: u, s, h => by
    have ih := lefts_sm v rules u (s + (k : Int) * ((xs r.2).count v : Nat) - (if r.1 = v then (k : Int) else 0)) (by simpa using h)
    have e0 : lefts v (psOf (r :: rules) (k :: u)) s = lefts v (psOf rules u) (s + (k : Int) * ((xs r.2).count v : Nat) - (if r.1 = v then (k : Int) else 0)) := rfl
    have e1 : sm (r :: rules) (gOf (k :: u)) (bd v) = k * (xs r.2).count v + sm rules (gOf u) (bd v) := rfl
    have e2 : sm (r :: rules) (gOf (k :: u)) (hd v) = k * (if r.1 = v then 1 else 0) + sm rules (gOf u) (hd v) := rfl
    rw [e0, ih, e1, e2]
    by_cases z : r.1 = v
    · simp [z]; omega
    · simp [z]; omega
def balB (rules : List Ru) (u : List Nat) : Bool := (List.range 4).all fun v => decide (lefts v (psOf rules u) (if v = 0 then 1 else 0) = 0)
theorem sm_none : ∀ (rules : List Ru) (g : Nat → Nat) (f : Ru → Nat), (∀ r ∈ rules, f r = 0) → sm rules g f = 0
  | [], _, _, _ => rfl
  | r :: rs, g, f, h => by
    show g 0 * f r + sm rs (fun i => g (i + 1)) f = 0
    rw [h r (List.mem_cons_self ..), sm_none rs _ f fun x hx => h x (List.mem_cons_of_mem _ hx), Nat.mul_zero]
theorem balB_iff {rules : List Ru} {u : List Nat} (hl : u.length = rules.length) (sm' : Small rules) : balB rules u = true ↔ Bal rules (gOf u) [0] := by
  unfold balB Bal
  rw [List.all_eq_true]
  constructor
  · intro h v
    by_cases hv : v < 4
    · have := h v (List.mem_range.mpr hv)
      rw [decide_eq_true_eq, lefts_sm v rules u _ hl] at this
      by_cases z : v = 0
      · subst z; simp at this ⊢; omega
      · have : (0 : Nat) ≠ v := fun e => z e.symm
        simp [z, this] at *
        omega
    · rw [sm_none rules _ (bd v) fun r hr => by
        unfold bd
        rw [List.count_eq_zero]
        intro m
        exact hv ((sm' r hr).2 v m), sm_none rules _ (hd v) fun r hr => by
        unfold hd
        rw [if_neg]
        intro e
        have := (sm' r hr).1
        omega]
      have : (0 : Nat) ≠ v := by omega
      simp [this]
  · intro h v hv
    rw [decide_eq_true_eq, lefts_sm v rules u _ hl]
    have := h v
    by_cases z : v = 0
    · subst z; simp at this ⊢; omega
    · have z2 : (0 : Nat) ≠ v := fun e => z e.symm
      simp [z, z2] at this ⊢
      omega
def lets (l : Nat) : List (Ru × Nat) → Int → Int
  | [], s => s
  | p :: ps, s => lets l ps (s + (p.2 : Int) * ((ls p.1.2).count l : Nat))
theorem lets_sm (l : Nat) : ∀ (rules : List Ru) (u : List Nat) (s : Int), u.length = rules.length → lets l (psOf rules u) s = s + (sm rules (gOf u) (lc l) : Nat)
  | [], [], s, _ => by simp [psOf, lets, sm]
  | [], _ :: _, _, h => by simp at h
  | _ :: _, [], _, h => by simp at h
  | r :: rules, k :: u, s, h => by
    have ih := lets_sm l rules u (s + (k : Int) * ((ls r.2).count l : Nat)) (by simpa using h)
    have e0 : lets l (psOf (r :: rules) (k :: u)) s = lets l (psOf rules u) (s + (k : Int) * ((ls r.2).count l : Nat)) := rfl
    have e1 : sm (r :: rules) (gOf (k :: u)) (lc l) = k * (ls r.2).count l + sm rules (gOf u) (lc l) := rfl
    rw [e0, ih, e1]
    simp
    omega
def counted (many : Nat) (way : List Nat) : List Nat := (List.range many).map fun k => way.count k
theorem counted_len (many : Nat) (way : List Nat) : (counted many way).length = many := by simp [counted]
theorem counted_g {many : Nat} {way : List Nat} {i : Nat} (h : i < many) : gOf (counted many way) i = ct way i := by simp [gOf, counted, ct, h]
theorem Bal.congr {rules : List Ru} {g h : Nat → Nat} {A : List Nat} (e : ∀ i, i < rules.length → g i = h i) (b : Bal rules g A) : Bal rules h A := fun v => by
  rw [← sm_congr rules g h _ e, ← sm_congr rules g h _ e]
  exact b v
theorem Con.congr {rules : List Ru} {g h : Nat → Nat} {A : List Nat} (e : ∀ i, i < rules.length → g i = h i) (b : Con rules g A) : Con rules h A := fun i r hi p => by
  have lt : ∀ {j : Nat} {r : Ru}, rules[j]? = some r → j < rules.length := fun z => (List.getElem?_eq_some_iff.mp z).1
  have z := b i r hi (by rw [e i (lt hi)]; exact p)
  clear p
  generalize r.1 = x at z
  induction z with
  | base m => exact .base m
  | step e1 p _ m ih => exact .step e1 (by rw [← e _ (lt e1)]; exact p) ih m
/-- uses as the document asks -/
def useB (rules : List Ru) (u : List Nat) : Bool := balB rules u && conB rules u (metN (psOf rules u) 4 [0])
theorem useB_iff {rules : List Ru} {u : List Nat} (hl : u.length = rules.length) (sm' : Small rules) : useB rules u = true ↔ Bal rules (gOf u) [0] ∧ Con rules (gOf u) [0] := by
  unfold useB
  rw [Bool.and_eq_true, balB_iff hl sm', conB_iff hl (met_iff hl sm' (A := [0]) (by simp))]
theorem use_of_listed {rules : List Ru} {most : Nat} (sm' : Small rules) {r : List Nat × List Nat} (h : r ∈ listed rules most) : useB rules (counted rules.length r.1) = true := by
  obtain ⟨d, _⟩ := listed_s h
  rw [useB_iff (counted_len ..) sm']
  have e : ∀ i, i < rules.length → ct r.1 i = gOf (counted rules.length r.1) i := fun i hi => (counted_g hi).symm
  exact ⟨d.bal.congr e, d.con.congr e⟩
theorem sum_sm : ∀ (rules : List Ru) (u : List Nat), u.length = rules.length → sm rules (gOf u) (fun _ => 1) = u.sum
  | [], [], _ => rfl
  | [], _ :: _, h => by simp at h
  | _ :: _, [], h => by simp at h
  | r :: rules, k :: u, h => by
    have ih := sum_sm rules u (by simpa using h)
    have e1 : sm (r :: rules) (gOf (k :: u)) (fun _ => 1) = k * 1 + sm rules (gOf u) (fun _ => 1) := rfl
    rw [e1, ih, List.sum_cons]
    omega
theorem known_iff {rules : List Ru} {u : List Nat} {most : Nat} (hl : u.length = rules.length) (sm' : Small rules) (hs : u.sum ≤ most) : useB rules u = true ↔ u ∈ (listed rules most).map fun r => counted rules.length r.1 := by
  constructor
  · intro h
    obtain ⟨b, c⟩ := (useB_iff hl sm').mp h
    obtain ⟨way, word, d, e, l⟩ := has_way rules _ (gOf u) [.X 0] rfl (.inr ⟨0, [], rfl⟩) b c
    rw [sum_sm rules u hl] at l
    refine List.mem_map.mpr ⟨(way, word), listed_c d (by omega), ?_⟩
    refine List.ext_getElem (by simp [counted, hl]) fun i h1 h2 => ?_
    have hi : i < rules.length := by rw [counted_len] at h1; exact h1
    have := e i hi
    simp [counted, gOf, ct] at this ⊢
    rw [this]
    simp [h2]
  · intro h
    obtain ⟨r, hr, rfl⟩ := List.mem_map.mp h
    exact use_of_listed sm' hr
theorem letters_listed {rules : List Ru} {most : Nat} {r : List Nat × List Nat} (h : r ∈ listed rules most) (l : Nat) : lets l (psOf rules (counted rules.length r.1)) 0 = (r.2.count l : Nat) := by
  obtain ⟨d, _⟩ := listed_s h
  rw [lets_sm l rules _ 0 (counted_len ..), sm_congr rules _ (ct r.1) _ fun i hi => counted_g hi, d.let l]
  simp [ls]
end Gm
/-! ## M46 -/
/-! the least way -/
namespace Gm
/-! ### ways of variables -/
inductive Way (rules : List Ru) : List Nat → List Nat → Prop
  | nil : Way rules [] []
  | step {n v : Nat} {body : List Itm} {A way : List Nat} : rules[n]? = some (v, body) → Way rules (xs body ++ A) way → Way rules (v :: A) (n :: way)
theorem Der.way {rules : List Ru} {its : List Itm} {way word : List Nat} (d : Der rules its way word) : Way rules (xs its) way := by
  induction d with
  | nil => exact .nil
  | @step n v body rest its w way word h1 h2 _ ih =>
    refine .step h1 ?_
    have e : xs (cut (body ++ rest)).1 = xs (body ++ rest) := xs_cut _
    rw [h2] at e
    show Way rules (xs body ++ xs rest) way
    rw [← xs_app, ← e]
    exact ih
theorem Way.der {rules : List Ru} : ∀ {way A : List Nat}, Way rules A way → ∀ its, Led its → xs its = A → ∃ word, Der rules its way word
  | [], A, h, its, led, e => by
    cases h
    rcases led with rfl | ⟨v, r, rfl⟩
    · exact ⟨[], .nil⟩
    · cases e
  | n :: way, A, h, its, led, e => by
    cases h with
    | @step _ v body B _ h1 h2 =>
      rcases led with rfl | ⟨v', r, rfl⟩
      · cases e
      · have e : v' :: xs r = v :: B := e
        injection e with e1 e2
        subst e1 e2
        obtain ⟨word, d⟩ := Way.der h2 (cut (body ++ r)).1 (led_cut _) (by rw [xs_cut, xs_app])
        exact ⟨_, .step h1 rfl d⟩
theorem xs_vars : ∀ A : List Nat, xs (A.map .X) = A
  | [] => rfl
  | v :: A => by
    show v :: xs (A.map .X) = _
    rw [xs_vars A]
theorem led_vars : ∀ A : List Nat, Led (A.map .X)
  | [] => .inl rfl
  | v :: A => .inr ⟨v, _, rfl⟩
theorem Way.bal {rules : List Ru} {A way : List Nat} (h : Way rules A way) : Bal rules (ct way) A ∧ Con rules (ct way) A := by
  obtain ⟨word, d⟩ := h.der _ (led_vars A) (xs_vars A)
  have b := d.bal
  have c := d.con
  rw [xs_vars] at b c
  exact ⟨b, c⟩
theorem Way.of_nil {rules : List Ru} {way : List Nat} (h : Way rules [] way) : way = [] := by
  cases h
  rfl
/-! ### the order of ways -/
def rlt : List Nat → List Nat → Bool
  | [], [] => false
  | [], _ :: _ => true
  | _ :: _, [] => false
  | x :: a, y :: b => decide (x < y) || (!decide (y < x) && rlt a b)
theorem rlt_eq : ∀ {a b : List Nat}, rlt a b = false → rlt b a = false → a = b
  | [], [], _, _ => rfl
  | [], _ :: _, h, _ => by cases h
  | _ :: _, [], _, h => by cases h
  | x :: a, y :: b, h1, h2 => by
    simp only [rlt, Bool.or_eq_false_iff, decide_eq_false_iff_not, Bool.and_eq_false_iff, Bool.not_eq_false', decide_eq_true_eq] at h1 h2
    have e : x = y := by omega
    subst e
    rcases h1.2 with q | q
    · omega
    · rcases h2.2 with q2 | q2
      · omega
      · rw [rlt_eq q q2]
def minR (a : List Nat) (as : List (List Nat)) : List Nat := as.foldl (fun m y => if rlt y m then y else m) a
theorem minR_is {l : List Nat} : ∀ (as : List (List Nat)) (a : List Nat), l ∈ a :: as → (∀ y ∈ a :: as, rlt y l = false) → minR a as = l
  | [], a, h, _ => (List.mem_singleton.mp h).symm
  | y :: as, a, h, m => by
    show minR (if rlt y a then y else a) as = l
    by_cases c : rlt y a = true
    · rw [if_pos c]
      refine minR_is as y ?_ fun z hz => m z (List.mem_cons_of_mem _ hz)
      rcases List.mem_cons.mp h with e | h
      · subst e
        rw [m y (List.mem_cons_of_mem _ (List.mem_cons_self ..))] at c
        cases c
      · exact h
    · rw [if_neg c]
      have c : rlt y a = false := by simpa using c
      refine minR_is as a ?_ fun z hz => ?_
      · rcases List.mem_cons.mp h with e | h
        · rw [e]; exact List.mem_cons_self ..
        · rcases List.mem_cons.mp h with e | h
          · have := rlt_eq c (by rw [← e]; exact m a (List.mem_cons_self ..))
            rw [e, this]
            exact List.mem_cons_self ..
          · exact List.mem_cons_of_mem _ h
      · rcases List.mem_cons.mp hz with e | hz
        · rw [e]; exact m a (List.mem_cons_self ..)
        · exact m z (List.mem_cons_of_mem _ (List.mem_cons_of_mem _ hz))
/-! ### one use less -/
def decL (u : List Nat) (n : Nat) : List Nat := u.set n (u.getD n 0 - 1)
theorem decL_len (u : List Nat) (n : Nat) : (decL u n).length = u.length := List.length_set ..
theorem gOf_dec (u : List Nat) (n : Nat) : gOf (decL u n) = dec n (gOf u) := by
  funext i
  unfold gOf decL dec
  rw [List.getD_eq_getElem?_getD, List.getElem?_set]
  by_cases c : n = i
  · subst c
    rw [if_pos rfl, if_pos rfl]
    by_cases h : n < u.length
    · rw [if_pos h]
      rfl
    · rw [if_neg h]
      have : u.getD n 0 = 0 := by rw [List.getD_eq_getElem?_getD, List.getElem?_eq_none (by omega)]; rfl
      show 0 = u.getD n 0 - 1
      omega
  · rw [if_neg c, if_neg (fun e => c e.symm)]
    show u[i]?.getD 0 = u.getD i 0
    rw [List.getD_eq_getElem?_getD]
theorem sum_dec : ∀ (u : List Nat) (n : Nat), 0 < u.getD n 0 → (decL u n).sum + 1 = u.sum
  | [], n, h => by simp at h
  | x :: u, 0, h => by
    have h : 0 < x := h
    show (x - 1 + u.sum) + 1 = x + u.sum
    omega
  | x :: u, n + 1, h => by
    have h : 0 < u.getD n 0 := by simpa using h
    have := sum_dec u n h
    show (x + (decL u n).sum) + 1 = x + u.sum
    omega
/-! ### the first rule that leaves a way -/
def fit (rules : List Ru) (u : List Nat) (A : List Nat) (n : Nat) : Bool :=
  decide (some (rules.getD n (0, [])).1 = A.head?) && decide (0 < u.getD n 0) && conB rules (decL u n) (metN (psOf rules (decL u n)) 4 (xs (rules.getD n (0, [])).2 ++ A.tail))
def pick (rules : List Ru) (u : List Nat) (A : List Nat) : Option Nat := (List.range rules.length).find? (fit rules u A)
def least (rules : List Ru) : Nat → List Nat → List Nat → Option (List Nat)
  | 0, _, _ => some []
  | k + 1, u, A => match pick rules u A with
    | none => none
    | some n => (least rules k (decL u n) (xs (rules.getD n (0, [])).2 ++ A.tail)).map (n :: ·)
structure Lst (rules : List Ru) (u A : List Nat) : Prop where
  bal : Bal rules (gOf u) A
  con : Con rules (gOf u) A
  len : u.length = rules.length
  lt : ∀ v ∈ A, v < 4
theorem fit_iff {rules : List Ru} {u B : List Nat} {v n : Nat} {r : Ru} (sm' : Small rules) (hl : u.length = rules.length) (hB : ∀ x ∈ B, x < 4) (hr : rules[n]? = some r) :
    fit rules u (v :: B) n = true ↔ r.1 = v ∧ 0 < gOf u n ∧ Con rules (dec n (gOf u)) (xs r.2 ++ B) := by
  have e : rules.getD n (0, []) = r := by rw [List.getD_eq_getElem?_getD, hr]; rfl
  unfold fit
  rw [e, Bool.and_eq_true, Bool.and_eq_true, decide_eq_true_iff, decide_eq_true_iff]
  have hl' : (decL u n).length = rules.length := by rw [decL_len]; exact hl
  have hA : ∀ x ∈ xs r.2 ++ B, x < 4 := fun x hx => by
    rcases List.mem_append.mp hx with m | m
    · exact (sm' r (List.mem_of_getElem? hr)).2 x m
    · exact hB x m
  have c := conB_iff hl' (A := xs r.2 ++ B) (f := metN (psOf rules (decL u n)) 4 (xs r.2 ++ B)) (met_iff hl' sm' hA)
  rw [gOf_dec] at c
  show (((some r.1 = some v) ∧ 0 < u.getD n 0) ∧ conB rules (decL u n) (metN (psOf rules (decL u n)) 4 (xs r.2 ++ B)) = true) ↔ _
  rw [c]
  constructor
  · rintro ⟨⟨h1, h2⟩, h3⟩
    exact ⟨Option.some.inj h1, h2, h3⟩
  · rintro ⟨h1, h2, h3⟩
    exact ⟨⟨by rw [h1], h2⟩, h3⟩
theorem first_of {p : Nat → Bool} {N n : Nat} (h : (List.range N).find? p = some n) : n < N ∧ p n = true ∧ ∀ m, m < n → p m = false := by
  have h1 := List.find?_some h
  have h2 := List.mem_of_find?_eq_some h
  refine ⟨List.mem_range.mp h2, h1, fun m hm => ?_⟩
  rw [List.find?_range_eq_some] at h
  have := h.2.2 m hm
  simpa using this
theorem sum_zero : ∀ {u : List Nat}, u.sum = 0 → ∀ i, gOf u i = 0
  | [], _, i => by simp [gOf]
  | x :: u, h, 0 => by
    have h : x + u.sum = 0 := h
    show x = 0
    omega
  | x :: u, h, i + 1 => by
    have h : x + u.sum = 0 := h
    have := sum_zero (u := u) (by omega) i
    simpa [gOf] using this
theorem pick_some {rules : List Ru} (sm' : Small rules) {u B : List Nat} {v : Nat} (s : Lst rules u (v :: B)) : ∃ n r, pick rules u (v :: B) = some n ∧ rules[n]? = some r ∧ r.1 = v ∧ 0 < gOf u n ∧ Lst rules (decL u n) (xs r.2 ++ B) ∧ ∀ m, m < n → fit rules u (v :: B) m = false := by
  have hB : ∀ x ∈ B, x < 4 := fun x hx => s.lt x (List.mem_cons_of_mem _ hx)
  obtain ⟨n0, r0, q1, q2, q3, q4⟩ := next_rule s.bal s.con
  have f0 := (fit_iff sm' s.len hB q1).mpr ⟨q2, q3, q4⟩
  have l0 : n0 < rules.length := (List.getElem?_eq_some_iff.mp q1).1
  cases e : pick rules u (v :: B) with
  | none =>
    have := List.find?_eq_none.mp e n0 (List.mem_range.mpr l0)
    exact absurd f0 this
  | some n =>
    obtain ⟨h1, h2, h3⟩ := first_of e
    have hr : rules[n]? = some rules[n] := List.getElem?_eq_getElem h1
    obtain ⟨g1, g2, g3⟩ := (fit_iff sm' s.len hB hr).mp h2
    refine ⟨n, rules[n], rfl, hr, g1, g2, ⟨?_, ?_, by rw [decL_len]; exact s.len, fun x hx => ?_⟩, h3⟩
    · rw [gOf_dec]
      exact bal_dec s.bal hr g1 g2
    · rw [gOf_dec]
      exact g3
    · rcases List.mem_append.mp hx with m | m
      · exact (sm' _ (List.mem_of_getElem? hr)).2 x m
      · exact hB x m
theorem lst_nil {rules : List Ru} {u A : List Nat} (s : Lst rules u A) (h : u.sum = 0) : A = [] := by
  cases A with
  | nil => rfl
  | cons v B =>
    have b := s.bal v
    rw [List.count_cons_self, sm_congr rules (gOf u) (fun _ => 0) _ (fun i _ => sum_zero h i), sm_congr rules (gOf u) (fun _ => 0) (hd v) (fun i _ => sum_zero h i), sm_zero, sm_zero] at b
    omega
theorem lst_cons {rules : List Ru} {u A : List Nat} (s : Lst rules u A) (h : 0 < u.sum) : ∃ v B, A = v :: B := by
  cases A with
  | cons v B => exact ⟨v, B, rfl⟩
  | nil =>
    have z := no_use s.con
    have : ∀ u : List Nat, (∀ i, i < u.length → gOf u i = 0) → u.sum = 0 := fun u => by
      induction u with
      | nil => exact fun _ => rfl
      | cons x u ih =>
        intro h
        have h0 : x = 0 := h 0 (by simp)
        have := ih fun i hi => by have := h (i + 1) (by simpa using hi); simpa [gOf] using this
        show x + u.sum = 0
        omega
    have := this u fun i hi => z i (by rw [← s.len]; exact hi)
    omega
theorem least_step {rules : List Ru} {k n : Nat} {u A : List Nat} (h : pick rules u A = some n) : least rules (k + 1) u A = (least rules k (decL u n) (xs (rules.getD n (0, [])).2 ++ A.tail)).map (n :: ·) := by
  show (match pick rules u A with | none => none | some n => _) = _
  rw [h]
/-- uses that are balanced and connected have a least way, and the first fitting rule finds it -/
theorem least_ok {rules : List Ru} (sm' : Small rules) : ∀ (k : Nat) (u A : List Nat), Lst rules u A → u.sum = k →
    ∃ way, least rules k u A = some way ∧ Way rules A way ∧ (∀ i, i < rules.length → ct way i = gOf u i) ∧ way.length = k ∧ ∀ w2, Way rules A w2 → (∀ i, i < rules.length → ct w2 i = gOf u i) → rlt w2 way = false
  | 0, u, A, s, h => by
    have := lst_nil s h
    subst this
    refine ⟨[], rfl, .nil, fun i _ => (sum_zero h i).symm, rfl, fun w2 hw _ => ?_⟩
    rw [hw.of_nil]
    rfl
  | k + 1, u, A, s, h => by
    obtain ⟨v, B, rfl⟩ := lst_cons s (by omega)
    obtain ⟨n, r, p1, p2, p3, p4, p5, p6⟩ := pick_some sm' s
    have sd := sum_dec u n p4
    obtain ⟨way, w1, w2, w3, w4, w5⟩ := least_ok sm' k (decL u n) (xs r.2 ++ B) p5 (by omega)
    have er : rules.getD n (0, []) = r := by rw [List.getD_eq_getElem?_getD, p2]; rfl
    refine ⟨n :: way, ?_, .step (v := v) (body := r.2) (by rw [p2, ← p3]) w2, fun i hi => ?_, by rw [List.length_cons, w4], fun z hz cz => ?_⟩
    · rw [least_step p1, er]
      show (least rules k (decL u n) (xs r.2 ++ B)).map _ = _
      rw [w1]
      rfl
    · rw [ct_cons]
      unfold inc
      rw [w3 i hi, gOf_dec]
      unfold dec
      by_cases c : i = n
      · subst c
        simp
        omega
      · simp [c]
    · cases hz with
      | @step m _ body _ z' g1 g2 =>
        have lm : m < rules.length := (List.getElem?_eq_some_iff.mp g1).1
        have cm : ∀ i, i < rules.length → ct z' i = dec m (gOf u) i := fun i hi => by
          have := cz i hi
          rw [ct_cons] at this
          unfold inc at this
          unfold dec
          by_cases c : i = m
          · subst c
            simp at this ⊢
            omega
          · simp [c] at this ⊢
            exact this
        have um : 0 < gOf u m := by
          have := cz m lm
          rw [ct_cons] at this
          unfold inc at this
          simp at this
          omega
        have cn : Con rules (dec m (gOf u)) (xs body ++ B) := Con.congr cm g2.bal.2
        have fm := (fit_iff (u := u) sm' s.len (fun x hx => s.lt x (List.mem_cons_of_mem _ hx)) g1).mpr ⟨rfl, um, cn⟩
        have le : n ≤ m := by
          rcases Nat.lt_or_ge m n with q | q
          · rw [p6 m q] at fm
            cases fm
          · exact q
        by_cases c : n = m
        · subst c
          rw [p2] at g1
          obtain rfl := Option.some.inj g1
          have := w5 z' g2 fun i hi => by rw [gOf_dec]; exact cm i hi
          show (decide (n < n) || (!decide (n < n) && rlt z' way)) = false
          rw [this]
          simp
        · show (decide (m < n) || (!decide (n < m) && rlt z' way)) = false
          rw [decide_eq_false (by omega), decide_eq_true (show n < m by omega)]
          rfl
end Gm
/-! ## R45 -/
/-! rules: xs[i] op= e, t.count(d), any(ints), sum(t) -/
namespace Ws
open PySem PySem.Spec PyProof.Rows L2
section
variable {X : Cx}
def rGetL (K : PySem.W.Frag) : V → V → Hp → VK → Prop := fun o i H Q => ∃ p xs k v, o = .ref p ∧ i = .int k ∧ SqL K H p xs ∧ 0 ≤ k ∧ atI xs k = some v ∧ Q v H
theorem get_list : PGet X (rGetL X.K) := by
  intro pins s σ H o i ov iv Q I ro ri h
  obtain ⟨p, xs, k, v, rfl, rfl, hq, h0, he, q⟩ := h
  cases ro
  obtain ⟨t, rfl⟩ := ri
  obtain ⟨its, r, pl, hz⟩ := I.list hq
  obtain ⟨j, h1, h2, h3, h4, h5⟩ := atI_get he
  obtain ⟨w, ew, rw'⟩ := r.get h2
  have hl := r.length
  have hn := line63
  have hj : k.toNat = j := by
    rw [seqIndex_of h0 h5] at h1
    exact Option.some.inj h1
  exact wpAny_getItem_list pl.isList h0 (by omega) (by rw [hj]; simpa using ew) ⟨v, H, I, rw', q⟩
/-- t.count(x), x any data -/
def rCountD (K : PySem.W.Frag) : V → List V → Hp → VK → Prop := fun x xs H Q => ∃ (y : V) (d : PyData) (ds : List PyData), xs = [y] ∧ Dp K H x (.tuple ds) ∧ Dp K H y d ∧
  SeqAt.shaped (.tuple ds) = true ∧ SeqAt.shaped d = true ∧ Q (.int ((ds.countP fun z => PyData.eqv z d : Nat) : Int)) H
theorem mt_tcountD (hu : X.A.units + 65 < cLine) : MtR X "tuple.count" (rCountD X.K) := by
  intro pins s σ H x xs v us Q I rx rxs h
  obtain ⟨y, d, ds, rfl, hx, hy, s1, s2, q⟩ := h
  obtain ⟨a, ws, rfl, hs, ha⟩ := hx.tup_inv
  cases rx
  obtain ⟨u, rfl, ru⟩ := rxs.one
  obtain ⟨bs, r1⟩ := Dp.reads I d y u hy ru
  obtain ⟨its, rv, ht, _⟩ := I.tuple hs
  obtain ⟨as, h4⟩ := Dp.readsAll I ds ws its ha rv
  have c1 := SeqAt.canLay_of_shaped s1
  have c2 := SeqAt.canLay_of_shaped s2
  have d2 := SeqAt.depth_of_shaped s2
  refine PySem.SeqAt.count_tuple_data ht (by simpa using h4) r1 (PySem.PyData.plainAll_of_canLay0 ds (by simpa only [PyData.canLay0] using c1)) (PySem.PyData.plain_of_canLay0 d c2) (by omega) ?_
  exact ⟨.int ((ds.countP fun z => PyData.eqv z d : Nat) : Int), H, I.tok _, ⟨s.toks, rfl⟩, q⟩
/-- any(xs) of ints -/
def rAnyI (K : PySem.W.Frag) : List V → Hp → VK → Prop := fun vs H Q => ∃ (a : Addr) (ns : List Int), vs = [V.ref a] ∧ SqL K H a (ns.map V.int) ∧ Q (.bl (ns.any fun n => n != 0)) H
theorem plain_ints : ∀ ns : List Int, PyData.plainAll (ns.map PyData.int) = true
  | [] => rfl
  | n :: ns => by
    simp only [List.map_cons, PyData.plainAll, PyData.plain, Bool.true_and]
    exact plain_ints ns
theorem cr_anyI (hc : X.calm = true) : CallR X (.builtin "any") (rAnyI X.K) := by
  intro pins s σ H vs us Q I r h
  obtain ⟨a, ns, rfl, hs, q⟩ := h
  obtain ⟨its, rv, hl, _⟩ := I.list hs
  rw [Vals.ref1 r]
  obtain ⟨as, h4⟩ := Dp.readsAll I (ns.map PyData.int) (ns.map V.int) its (DpAll.ints ns) rv
  refine PySem.W.any_list_data (xs := ns.map PyData.int) (I.ok.hd hc) hl.isList (by simpa using h4) (plain_ints ns) (fun x hx => ?_) fun h' tk hk => ⟨.bl (ns.any fun n => n != 0), H, I.kept hk, ?_, q⟩
  · obtain ⟨i, _, rfl⟩ := List.mem_map.mp hx
    exact trivial
  · show Value.bool _ = Value.bool _
    rw [List.any_map]
    rfl
/-- sum(t) of a tuple of ints -/
def rSumT (K : PySem.W.Frag) : List V → Hp → VK → Prop := fun vs H Q => ∃ (a : Addr) (ns : List Int), vs = [V.ref a] ∧ SqT K H a (ns.map V.int) ∧ Q (.int ns.sum) H
theorem cr_sumT (hc : X.calm = true) : CallR X (.builtin "sum") (rSumT X.K) := by
  intro pins s σ H vs us Q I r h
  obtain ⟨a, ns, rfl, hs, q⟩ := h
  obtain ⟨its, rv, ht, _⟩ := I.tuple hs
  rw [Vals.ref1 r]
  have hi := rv.ints
  obtain ⟨xs, hx⟩ := hi.allInts.items
  have ht' := ht
  have hn : numsOf its.toArray.toList = ns := by rw [show its.toArray.toList = its from rfl, hi.numsOf]
  rw [hx] at ht' hn
  rw [nums_intItems] at hn
  refine PySem.W.ktm_sumG (I.ok.hd hc) ht' fun h' tk t' hk => ?_
  refine ⟨.int ns.sum, H, I.kept hk, ⟨t', ?_⟩, q⟩
  rw [preSum_eq, List.take_of_length_le (by simp), hn]
end
/-- a dict comprehension over what is walked -/
theorem dc_walk {B : L2.It} {len : Nat} {Gd : Hp → Prop} {Yd : Nat → Hp → V → Hp → Prop} (wk : Walk B len Gd Yd) {tgt : TG} {ts : TT} {kx vx : TE} {ws : List Nat} {st : L2.St} {Hs : Hp} {d : Addr} {Fin : Hp → Prop} (P : Nat → Hp → Prop) (start : P 0 (upd Hs d (.dK []))) (keep : ∀ i H, i ≤ len → P i H → Gd H)
    (turn : ∀ i x Ha Hb, i < len → P i Ha → Yd i Ha x Hb → tgt x (wipe st ws) Hb fun σ2 H2 => wipe σ2 ws = wipe st ws ∧ ts σ2 H2 fun b H3 => if b = true then kx σ2 H3 fun y H4 => vx σ2 H4 fun z H5 => ∃ kvs k, y = kV k ∧ H5 d = some (.dK kvs) ∧ kvs.length < sizeLine ∧ P (i + 1) (upd H5 d (.dK (putK kvs k z))) else P (i + 1) H3)
    (fin : ∀ H, P len H → Fin H) :
    ∃ W : Nat → Nat → Hp → Prop, (∃ m, W 0 m (upd Hs d (.dK []))) ∧ ∀ i m H, W i m H → (B.stop i H ∧ Fin H) ∨ (B.go i H ∧ ∃ Nx : Hp → Prop, (∀ H', Nx H' → ∃ m', m' < m ∧ W (i + 1) m' H') ∧ ∀ x H', B.yld i H x H' → tgt x (wipe st ws) H' fun σ2 H2 => wipe σ2 ws = wipe st ws ∧ ts σ2 H2 fun b H3 =>
        if b = true then kx σ2 H3 fun y H4 => vx σ2 H4 fun z H5 => ∃ kvs k, y = kV k ∧ H5 d = some (.dK kvs) ∧ kvs.length < sizeLine ∧ Nx (upd H5 d (.dK (putK kvs k z))) else Nx H3) := by
  refine ⟨fun i left H => left + i = len ∧ P i H, ⟨len, rfl, start⟩, fun i left H w => ?_⟩
  obtain ⟨sum, p⟩ := w
  by_cases more : i < len
  · exact .inr ⟨wk.goes i H more (keep i H (by omega) p), P (i + 1), fun H' p' => ⟨left - 1, by omega, by omega, p'⟩, fun x H' y => turn i x H H' more p (wk.yields i H x H' more (keep i H (by omega) p) y)⟩
  · obtain rfl : i = len := by omega
    exact .inl ⟨wk.stops H (keep i H (by omega) p), fin H p⟩
end Ws
/-! ## D0 -/
namespace Ws
open PySem PySem.Spec PyProof.Rows L2
def top (i : Nat) : Stmt := PySem.Challenge.pw_wholesay_k46_whole_least_ways.main.body.getD i (.Pass ⟨0, 0, 0, 0⟩)
/-! ### what the top has written -/
structure Bl (mg : Str → Option Value) : Prop where
  isinstance : mg "isinstance" = none
  int : mg "int" = none
  bool : mg "bool" = none
  tuple : mg "tuple" = none
  list : mg "list" = none
  str : mg "str" = none
  len : mg "len" = none
  all : mg "all" = none
  any : mg "any" = none
  sum : mg "sum" = none
  max : mg "max" = none
  min : mg "min" = none
  range : mg "range" = none
  enumerate : mg "enumerate" = none
  repr : mg "repr" = none
  abs : mg "abs" = none
  sorted : mg "sorted" = none
  zip : mg "zip" = none
local macro_rules | `(tactic| walk_at "nf") => `(tactic| dsimp only [tNext, tSeq, tDrop, tRet, tRetN, tIfS, tAsg, gName, gCons, gNil, tVar, tC, tOp, tUn, rI, rI0, rU, rEq, rNe, tTest, tChain, tAnd, tOr, tNot, tAndV, tOrV, tNotV, tIf, tCB, tCKw, tCons, tNil, tTup, tLst, tCa, tCallS, tB, rIxT, rIxL, rIxS, cxOf, Cx.nox, Cx.wish, Cx.blk, L2.start, tPar, tPar3, tNever, tYes])
local macro_rules | `(tactic| walk_at "sx") => `(tactic| simp only [wipe, List.map_cons, List.map_nil, List.length_cons, List.length_nil, List.cons_append, List.nil_append, List.append_nil, Nat.reduceAdd, Nat.reduceSub, List.replicate, List.getElem?_cons_zero, List.getElem?_cons_succ, List.set_cons_zero, List.set_cons_succ, Option.some.injEq, V.int.injEq, V.bl.injEq, V.ref.injEq, V.str.injEq, exists_eq_left', exists_eq_left, true_and, Bool.true_eq_false, Bool.false_eq_true, if_true, if_false])
/-! ### wholesay.kinds -/
def spIsInteger (K : PySem.W.Frag) : Sp := fun vs H Q _ => ∃ v d, vs = [v] ∧ Dp K H v d ∧ Q (.bl (isI d)) H
def spIsBetween (K : PySem.W.Frag) : Sp := fun vs H Q _ => ∃ v d lo hi, vs = [v, .int lo, .int hi] ∧ Dp K H v d ∧ Q (.bl (isBt d lo hi)) H
def spIsTupleOf (K : PySem.W.Frag) : Sp := fun vs H Q _ => ∃ v d n, vs = [v, .int n] ∧ Dp K H v d ∧ Q (.bl (isTn d n)) H
abbrev s_is_integer : Stmt := top 6
abbrev nm_is_integer : List Str := ["value"]
abbrev pr_is_integer : List Str := ["value"]
theorem sc_is_integer : FnScope nm_is_integer pr_is_integer (defScope s_is_integer) := ⟨rfl, rfl, rfl, by decide +kernel, rfl, by decide +kernel, by decide +kernel⟩
abbrev s_is_between : Stmt := top 7
abbrev nm_is_between : List Str := ["value", "low", "high"]
abbrev pr_is_between : List Str := ["value", "low", "high"]
theorem sc_is_between : FnScope nm_is_between pr_is_between (defScope s_is_between) := ⟨rfl, rfl, rfl, by decide +kernel, rfl, by decide +kernel, by decide +kernel⟩
abbrev s_is_tuple_of : Stmt := top 8
abbrev nm_is_tuple_of : List Str := ["value", "many"]
abbrev pr_is_tuple_of : List Str := ["value", "many"]
theorem sc_is_tuple_of : FnScope nm_is_tuple_of pr_is_tuple_of (defScope s_is_tuple_of) := ⟨rfl, rfl, rfl, by decide +kernel, rfl, by decide +kernel, by decide +kernel⟩
section
variable {P : Program} {w : World} {K : PySem.W.Frag} {mg : Str → Option Value} {base : Heap}
theorem ok_is_integer (B : Bl mg) (D : Dt K mg "is_integer" s_is_integer pr_is_integer) : Df P w K mg base CX0 1 "is_integer" pr_is_integer (spIsInteger K) := by
  refine D.ok sc_is_integer (fun vs H Q E h => ?_) (fun f cdv A outer s H vs Q E hr h => ?_)
  · obtain ⟨v, d, rfl, _⟩ := h
    rfl
  · obtain ⟨v, d, rfl, hd, k⟩ := h
    refine ⟨_, (pss_one (ps_ret (pe_and (pe_callB call_isi (by rfl) B.isinstance boot_isinstance (pa_cons (pv 0) (pa_cons (pe_bltn (v := .ty "int") (by rfl) B.int PyProof.Rows.boot_int rfl) pa_nil))) (pe_one (pe_not (pe_callB call_isi (by rfl) B.isinstance boot_isinstance (pa_cons (pv 0) (pa_cons (pe_bltn (v := .ty "bool") (by rfl) B.bool PyProof.Rows.boot_bool rfl) pa_nil)))))))), ?_⟩
    walk_at "nf"
    walk_at "sx"
    refine isi_int hd ⟨_, rfl, ?_⟩
    cases hx : isIB d with
    | true =>
      refine iteT (isi_bool hd ⟨_, rfl, ?_⟩)
      have e : (!isBo d) = isI d := by cases d <;> first | rfl | (simp [isIB, isI, isBo] at hx)
      rw [e]
      exact k
    | false =>
      refine iteF ?_
      have e : isI d = false := by cases d <;> first | rfl | (simp [isIB, isI, isBo] at hx)
      rw [← e]
      exact k
theorem ok_is_between (B : Bl mg) (F1 : Df P w K mg base CX0 1 "is_integer" pr_is_integer (spIsInteger K)) (D : Dt K mg "is_between" s_is_between pr_is_between) : Df P w K mg base CX0 2 "is_between" pr_is_between (spIsBetween K) := by
  refine D.ok sc_is_between (fun vs H Q E h => ?_) (fun f cdv A outer s H vs Q E hr h => ?_)
  · obtain ⟨v, d, lo, hi, rfl, _⟩ := h
    rfl
  · obtain ⟨v, d, lo, hi, rfl, hd, k⟩ := h
    refine ⟨_, (pss_one (ps_ret (pe_and (pe_f F1 (hr.mono (by decide)) pass0 (pa_cons (pv 0) pa_nil)) (pe_one (pe_chain op_le op_le (pv 1) (pv 0) (pv 2)))))), ?_⟩
    walk_at "nf"
    walk_at "sx"
    refine ⟨v, d, rfl, hd, _, rfl, ?_⟩
    cases hd with
    | int i =>
      refine iteT ⟨lo, i, rfl, rfl, ?_⟩
      by_cases c : lo ≤ i
      · rw [decide_eq_true c]
        refine iteT ⟨i, hi, rfl, rfl, ?_⟩
        have e : isBt (.int i) lo hi = decide (i ≤ hi) := by simp [isBt, c]
        rw [← e]
        exact k
      · rw [decide_eq_false c]
        refine iteF ?_
        have e : isBt (.int i) lo hi = false := by simp [isBt, c]
        rw [← e]
        exact k
    | _ => exact iteF k
theorem ok_is_tuple_of (B : Bl mg) (D : Dt K mg "is_tuple_of" s_is_tuple_of pr_is_tuple_of) : Df P w K mg base CX0 1 "is_tuple_of" pr_is_tuple_of (spIsTupleOf K) := by
  refine D.ok sc_is_tuple_of (fun vs H Q E h => ?_) (fun f cdv A outer s H vs Q E hr h => ?_)
  · obtain ⟨v, d, n, rfl, _⟩ := h
    rfl
  · obtain ⟨v, d, n, rfl, hd, k⟩ := h
    refine ⟨_, (pss_one (ps_ret (pe_and (pe_callB call_isi (by rfl) B.isinstance boot_isinstance (pa_cons (pv 0) (pa_cons (pe_bltn (v := .ty "tuple") (by rfl) B.tuple PyProof.Rows.boot_tuple rfl) pa_nil))) (pe_one (pe_cmpR op_eq (pe_callB call_len_seq (by rfl) B.len PySem.boot_len (pa_cons (pv 0) pa_nil)) (pv 1) (nomark _)))))), ?_⟩
    walk_at "nf"
    walk_at "sx"
    refine isi_tuple hd ⟨_, rfl, ?_⟩
    cases hd with
    | tup hs ha =>
      refine iteT ⟨_, _, rfl, .inr hs, rfl, ?_⟩
      rename_i a xs ds
      have e : isTn (.tuple ds) n = decide (((xs.length : Nat) : Int) = n) := by
        have := ha.length
        simp only [isTn, this]
      rw [← e]
      exact k
    | _ => exact iteF k
end
/-! ### the defs that the laws share -/
local macro_rules | `(tactic| walk_at "nf") => `(tactic| dsimp only [tNext, tSeq, tDrop, tRet, tRetN, tIfS, tAsg, gName, gTup, gCons, gNil, tVar, tC, tOp, tUn, rI, rI0, rU, rEq, rNe, tTest, tChain, tAnd, tOr, tNot, tAndV, tOrV, tNotV, tIf, tCB, tCKw, tCons, tNil, tTup, tLst, tCa, tCallS, tB, rIxT, rIxL, rIxS, cxOf, Cx.nox, Cx.wish, Cx.blk, L2.start, tPar, tPar3, tNever, tYes, tBits, tRz, tBM, rAppend, tyV, tXf, suiteEnds, gSub, rSetL, tBreak, rMax, tDGet, sDPut, tSl, tNoPart, tPart, tDisp, tPairs, tDGet2, tDNewK])
local macro_rules | `(tactic| walk_at "sx") => `(tactic| simp only [wipe, List.cons.injEq, and_assoc, exists_and_left, and_true, List.map_cons, List.map_nil, List.length_cons, List.length_nil, List.cons_append, List.nil_append, List.append_nil, Nat.reduceAdd, Nat.reduceSub, List.replicate, List.getElem?_cons_zero, List.getElem?_cons_succ, List.set_cons_zero, List.set_cons_succ, Option.some.injEq, V.int.injEq, V.bl.injEq, V.ref.injEq, V.str.injEq, exists_eq_left', exists_eq_left, true_and, Bool.true_eq_false, Bool.false_eq_true, if_true, if_false])

def spDrawW : Sp := fun vs H Q _ => ∃ (a l c : Addr) (n : Nat) (lim : Int), vs = [.ref a, .int lim] ∧ LSt H a l c n ∧ n ≤ 1000000 ∧ 1 ≤ lim ∧ lim < 2 ^ 220 ∧ ∀ H' (r : Int), Sbt a l H H' → LSt H' a l c (n + 1) → 0 ≤ r → r < lim → Q (.int r) H'
def spOf : Sp := fun vs H Q _ => ∃ (a l c p : Addr) (n : Nat) (xs : List V), vs = [.ref a, .ref p] ∧ LSt H a l c n ∧ n ≤ 1000000 ∧ H p = some (.lst xs) ∧ p ≠ a ∧ p ≠ l ∧ 1 ≤ xs.length ∧ xs.length ≤ 1000 ∧ ∀ H' x, Sbt a l H H' → LSt H' a l c (n + 1) → x ∈ xs → Q x H'
abbrev s__law_mixed : Stmt := top 25
abbrev nm__law_mixed : List Str := ["cell", "k"]
abbrev pr__law_mixed : List Str := ["cell", "k"]
theorem sc__law_mixed : FnScope nm__law_mixed pr__law_mixed (defScope s__law_mixed) := ⟨rfl, rfl, rfl, by decide +kernel, rfl, by decide +kernel, by decide +kernel⟩
abbrev s__law_draw : Stmt := top 27
abbrev nm__law_draw : List Str := ["state", "limit", "at", "place", "left", "number"]
abbrev pr__law_draw : List Str := ["state", "limit"]
theorem sc__law_draw : FnScope nm__law_draw pr__law_draw (defScope s__law_draw) := ⟨rfl, rfl, rfl, by decide +kernel, rfl, by decide +kernel, by decide +kernel⟩
abbrev s__law_like : Stmt := top 28
abbrev nm__law_like : List Str := ["got", "due"]
abbrev pr__law_like : List Str := ["got", "due"]
theorem sc__law_like : FnScope nm__law_like pr__law_like (defScope s__law_like) := ⟨rfl, rfl, rfl, by decide +kernel, rfl, by decide +kernel, by decide +kernel⟩
abbrev s__law_begin : Stmt := top 26
abbrev nm__law_begin : List Str := ["script", "cells_so", "cell"]
abbrev pr__law_begin : List Str := ["script"]
theorem sc__law_begin : FnScope nm__law_begin pr__law_begin (defScope s__law_begin) := ⟨rfl, rfl, rfl, by decide +kernel, rfl, by decide +kernel, by decide +kernel⟩
section
variable {P : Program} {w : World} {K : PySem.W.Frag} {mg : Str → Option Value} {base : Heap}
theorem ok_mixed (B : Bl mg) (D : Dt K mg "_law_mixed" s__law_mixed pr__law_mixed) : Df P w K mg base CX0 1 "_law_mixed" pr__law_mixed spMixed := by
  refine D.ok sc__law_mixed (fun vs H Q E h => ?_) (fun f cdv A outer s H vs Q E hr h => ?_)
  · obtain ⟨i, k, rfl, _⟩ := h
    rfl
  · obtain ⟨i, k, rfl, hk1, hk2, q⟩ := h
    refine ⟨_, (pss_cons (ps_set (i := 0) sc__law_mixed.nd rfl (Or.inl rfl) (pe_op op_mod (pe_callTy call_int1 (by rfl) B.int PyProof.Rows.boot_int (pa_cons (pv 0) pa_nil)) pe_int)) (pss_one (ps_ret (pe_op op_mod (pe_op op_mul (pe_op op_mod (pe_op op_add (pe_op op_add (pe_op op_mul (pv 0) (pe_op op_add pe_int (pe_op op_mul (pe_op op_mul pe_int (pv 1)) (pv 1)))) (pe_op op_mul pe_int (pv 1))) pe_int) pe_int) pe_int) pe_int)))), ?_⟩
    walk_at "nf"
    walk_at "sx"
    have m1 := Int.emod_nonneg i (show (2147483647 : Int) ≠ 0 by decide)
    have m2 := Int.emod_lt_of_pos i (show (0 : Int) < 2147483647 by decide)
    generalize hz : (i % 2147483647 * (48271 + 2 * k * k) + 69621 * k + 11) = z
    refine .inl ⟨by decide, .inl ⟨by decide, by decide⟩, .inr ⟨by omega, by omega⟩, .inl ⟨by omega, by omega⟩, .inl ⟨by decide, by decide⟩, by decide, .inr ⟨by decide, by decide⟩, by decide, q _ (Int.emod_nonneg _ (by decide)) (Int.emod_lt_of_pos _ (by decide))⟩
theorem ok_draw (B : Bl mg) (F1 : Df P w K mg base CX0 1 "_law_mixed" pr__law_mixed spMixed) (D : Dt K mg "_law_draw" s__law_draw pr__law_draw) : Df P w K mg base CX0 2 "_law_draw" pr__law_draw spDrawW := by
  refine D.ok sc__law_draw (fun vs H Q E h => ?_) (fun f cdv A outer s H vs Q E hr h => ?_)
  · obtain ⟨a, l, c, n, lim, rfl, _⟩ := h
    rfl
  · obtain ⟨a, l, c, n, lim, rfl, hs, hn, h1, h2, k⟩ := h
    refine ⟨_, (pss_cons (ps_set (i := 2) sc__law_draw.nd rfl (Or.inl rfl) (pe_dget (hu_of hr) (pv 0) pe_str (fun _ _ => rfl))) (pss_cons (ps_dput (hu_of hr) (pv 0) pe_str (pe_op op_add (pv 2) pe_int) rfl) (pss_cons (ps_set (i := 3) sc__law_draw.nd rfl (Or.inl rfl) (pe_op op_mod (pe_callTy call_int1 (by rfl) B.int PyProof.Rows.boot_int (pa_cons (pv 2) pa_nil)) (pe_callB call_len_seq (by rfl) B.len PySem.boot_len (pa_cons (pe_dget (hu_of hr) (pv 0) pe_str (fun _ _ => rfl)) pa_nil)))) (pss_cons (ps_set (i := 4) sc__law_draw.nd rfl (Or.inl rfl) (pe_ix ix_list (pe_dget (hu_of hr) (pv 0) pe_str (fun _ _ => rfl)) (pv 3) (fun _ _ => rfl))) (pss_cons (ps_if (pt_cmpR op_gt (pv 4) pe_int (nomark _)) (pss_cons (ps_asg (pe_op op_fdivW (pv 4) (pv 1)) (pg_sub (pe_dget (hu_of hr) (pv 0) pe_str (fun _ _ => rfl)) (pv 3) set_list)) (pss_one (ps_ret (pe_op op_mod (pe_callTy call_int1 (by rfl) B.int PyProof.Rows.boot_int (pa_cons (pv 4) pa_nil)) (pv 1))))) pss_nil) (pss_cons (ps_set (i := 5) sc__law_draw.nd rfl (Or.inl rfl) (pe_f F1 (hr.mono (by decide)) pass0 (pa_cons (pe_f F1 (hr.mono (by decide)) pass0 (pa_cons (pe_ix ix_list (pe_dget (hu_of hr) (pv 0) pe_str (fun _ _ => rfl)) (pv 3) (fun _ _ => rfl)) (pa_cons (pv 2) pa_nil))) (pa_cons (pe_op op_add pe_int (pv 2)) pa_nil)))) (pss_one (ps_ret (pe_op op_mod (pe_op op_fdiv (pe_callTy call_int1 (by rfl) B.int PyProof.Rows.boot_int (pa_cons (pe_op op_add (pe_op op_mul (pv 5) pe_int) (pe_f F1 (hr.mono (by decide)) pass0 (pa_cons (pv 5) (pa_cons (pe_op op_add pe_int (pv 2)) pa_nil)))) pa_nil)) pe_int) (pv 1)))))))))), ?_⟩
    walk_at "nf"
    walk_at "sx"
    obtain ⟨cs, ls, m, S⟩ := hs
    have hac : a ≠ c := ne_of S.top S.cells (by intro z; cases z)
    have hal : a ≠ l := ne_of S.top S.lefts (by intro z; cases z)
    have hq : m % cs.length < cs.length := Nat.mod_lt _ S.pos
    have hq2 : m % cs.length < ls.length := by rw [S.len]; exact hq
    have em : ((m : Nat) : Int) % (((cs.map V.int).length : Nat) : Int) = ((m % cs.length : Nat) : Int) := by
      rw [List.length_map]
      exact (Int.natCast_emod m cs.length).symm
    have top1 : upd H a (.dK (stK c l (m + 1))) a = some (.dK (stK c l (m + 1))) := upd_same
    have cells1 : upd H a (.dK (stK c l (m + 1))) c = some (.lst (cs.map V.int)) := by rw [upd_ne (Ne.symm hac)]; exact S.cells
    have lefts1 : upd H a (.dK (stK c l (m + 1))) l = some (.lst (ls.map V.int)) := by rw [upd_ne (Ne.symm hal)]; exact S.lefts
    have few := S.few
    refine ⟨_, dg_at S.top, m, rfl, _, dp_at S.top, .inl ⟨m, rfl, _, dg_cells top1, c, rfl, _, .inl (.of cells1), by rw [List.length_map]; have := S.pos; omega, _, dg_lefts top1, l, rfl, _, .of lefts1, ?_⟩⟩
    rw [em]
    refine ⟨V.int (ls.getD (m % cs.length) 0), atI_nat (by simp [hq2]), _, rfl, ?_⟩
    generalize hleft : ls.getD (m % cs.length) 0 = left
    by_cases hp : 0 < left
    · rw [decide_eq_true hp]
      refine iteT ⟨left, rfl, wide_div (b := 220) (by omega) (by omega) (by decide) (by decide), _, dg_lefts top1, l, rfl, _, lefts1, m % cs.length, ?_, .inl ⟨left, rfl, by omega, ?_⟩⟩
      · unfold ixN
        rw [if_pos (by omega), List.length_map, if_pos (by omega), Int.toNat_natCast]
      · refine k _ _ (Sbt.refl H).a.l ⟨cs, ls.set (m % cs.length) (left / lim), m + 1, ?_, ?_, ?_, by rw [List.length_set]; exact S.len, S.pos, by omega, S.apart⟩ (Int.emod_nonneg _ (by omega)) (Int.emod_lt_of_pos _ (by omega))
        · rw [upd_ne hal]
          exact top1
        · rw [upd_ne S.apart]
          exact cells1
        · rw [upd_same, List.map_set]
    · rw [decide_eq_false hp]
      have fin : ∀ r : Int, 0 ≤ r → r < lim → Q (.int r) (upd H a (.dK (stK c l (m + 1)))) := fun r r1 r2 => k _ r (Sbt.refl H).a ⟨cs, ls, m + 1, top1, cells1, lefts1, S.len, S.pos, by omega, S.apart⟩ r1 r2
      refine iteF ⟨_, dg_cells top1, c, rfl, _, .of cells1, V.int (cs.getD (m % cs.length) 0), atI_nat (by simp [hq]), _, _, rfl, by omega, by omega, fun r1 a1 b1 => ⟨m, rfl, _, _, rfl, by omega, by omega, fun r2 a2 b2 => ⟨r2, rfl, .inr ⟨by decide, by decide⟩, m, rfl, _, _, rfl, by omega, by omega, fun r3 a3 b3 => ⟨r3, rfl, .inl ⟨⟨by decide, by decide⟩, by omega, ?_⟩⟩⟩⟩⟩
      exact fin _ (Int.emod_nonneg _ (by omega)) (Int.emod_lt_of_pos _ (by omega))
theorem ok_like (B : Bl mg) (D : Dt K mg "_law_like" s__law_like pr__law_like) : DfG P w K mg base CX0 1 "_law_like" pr__law_like (spLike K) := by
  refine D.okG sc__law_like (fun vs H Q E h => ?_) (fun f cdv A outer s H vs Q E hG hr h => ?_)
  · obtain ⟨v, u, d, N, D, rfl, _⟩ := h
    rfl
  · obtain ⟨v, u, d, N, D, rfl, hv, hu, hs, hN, hD, k⟩ := h
    refine ⟨_, (pss_one (ps_ret (pe_cmpR op_eq (pe_callB (call_reprD hG hr.units) (by rfl) B.repr boot_repr (pa_cons (pv 0) pa_nil)) (pe_callB (call_reprD hG hr.units) (by rfl) B.repr boot_repr (pa_cons (pv 1) pa_nil)) (nomark _)))), ?_⟩
    walk_at "nf"
    walk_at "sx"
    refine ⟨d, hv, hs.sh, hs.nd, by have := hs.dp; omega, hs.fits hN, d, hu, hs.sh, hs.nd, by have := hs.dp; omega, hs.fits hN, rfl, ?_⟩
    rw [decide_eq_true rfl]
    exact k
theorem ok_begin (B : Bl mg) (D : Dt K mg "_law_begin" s__law_begin pr__law_begin) : Df P w K mg base CX0 1 "_law_begin" pr__law_begin (spBegin K) := by
  refine D.ok sc__law_begin (fun vs H Q E h => ?_) (fun f cdv A outer s H vs Q E hr h => ?_)
  · obtain ⟨p, is, rfl, _⟩ := h
    rfl
  · obtain ⟨p, is, rfl, hs, hl, k⟩ := h
    refine ⟨_, (pss_cons (ps_set (i := 1) sc__law_begin.nd rfl (Or.inl rfl) (pe_ifExp (pt_cmpR (op_neD hr.units) (pv 0) (pe_lst pa_nil) (nomark _)) (pe_callTy call_list_of (by rfl) B.list PyProof.Rows.boot_list (pa_cons (pv 0) pa_nil)) (pe_lst (pa_cons pe_int pa_nil)))) (pss_one (ps_ret (pe_disp (pps_cons pe_str (pv 1) (pps_cons pe_str (pe_lc (own := [("cell", 2)]) (g := gName 2) (tt := tYes) (by rfl) sc__law_begin.nd (pi_list (pv 1)) (blkOk_by (own := [("cell", 2)]) (N := nm__law_begin) (sc := defScope s__law_begin) (by decide +kernel)) (fun _ _ _ _ _ => pg_name (i := 2) sc__law_begin.nd rfl (Or.inl rfl)) (fun _ _ _ _ _ => pts_nil) (fun _ _ _ _ _ => (pe_ifExp (pt_cmpR op_ge (pv 2) (pe_op op_pow pe_int pe_int) (nomark _)) (pv 2) pe_int))) (pps_cons pe_str pe_int pps_nil))) (by rfl) (by rfl) (fun z => by cases z) (by decide))))), ?_⟩
    walk_at "nf"
    walk_at "sx"
    have fin : ∀ (G : Hp) (l : Addr) (zs : List Int), Same H G → G l = some (.lst (zs.map V.int)) → 0 < zs.length → zs.length ≤ 1000 → ∀ p2, G p2 = none →
        tLc (iList K (tVar 1)) (gName 2) tYes (tIf (tTest (tOp (rI0 fun i j => V.bl (decide (j ≤ i))) (tVar 2) (tOp (rI CPow fun i j => V.int (i ^ j.toNat)) (tC (V.int 10)) (tC (V.int 18))))) (tVar 2) (tC (V.int 0)))
          [2] [some (V.ref p), some (V.ref l), none] (upd G p2 (HO.dK [])) fun y H2 => H2 p2 = some (HO.dK []) ∧ ∃ kvs : List (Key × V),
            [(V.str (Str.ofString "cells"), V.ref l), (V.str (Str.ofString "lefts"), y), (V.str (Str.ofString "at"), V.int 0)] = List.map (fun kv => (kV kv.fst, kv.snd)) kvs ∧ kvs.length ≤ 15 ∧ Q (V.ref p2) (upd H2 p2 (HO.dK (mergeK [] kvs))) := by
      intro G l zs e hl2 hz1 hz2 p2 hp2
      have hl3 : upd G p2 (HO.dK []) l = some (.lst (zs.map V.int)) := by rw [upd_ne (ne_of_none hl2 hp2)]; exact hl2
      try walk_at "nf"
      try walk_at "sx"
      refine ⟨_, rfl, l, rfl, ⟨_, .of hl3⟩, fun D hD => lcS walk_list hD (by rw [List.length_map]; exact slt (by omega)) (fun _ y => ∃ z : Int, y = .int z) (fun H1 e1 => .of (e1 _ _ hl3)) (fun i x H1 H2 Q1 hi1 e1 y q => ?_) (fun H1 ys e1 hy hn hr => ?_)⟩
      · obtain ⟨rfl, hx⟩ := y
        obtain ⟨z, hz, rfl⟩ := List.mem_map.mp (List.mem_of_getElem? hx)
        try walk_at "nf"
        try walk_at "sx"
        refine ⟨⟨by decide, by decide, by decide⟩, ?_⟩
        refine ite2 (fun _ => q _ _ ⟨_, rfl⟩ (Same.refl _)) (fun _ => q _ _ ⟨_, rfl⟩ (Same.refl _))
      · obtain ⟨ls, rfl, hlen⟩ := ints_any hr
        have hp3 : H1 p2 = some (.dK []) := e1 _ _ upd_same
        refine ⟨hp3, [(.inr "cells", .ref l), (.inr "lefts", .ref D), (.inr "at", .int 0)], rfl, by show 3 ≤ 15; omega, ?_⟩
        have em : mergeK [] [((.inr ("cells" : Str) : Key), V.ref l), (.inr ("lefts" : Str), V.ref D), (.inr ("at" : Str), V.int 0)] = stK l D 0 := by
          have k4 : ¬ (("lefts" : Str) = "cells") := by decide +kernel
          have k5 : ¬ (("cells" : Str) = "lefts") := ks3
          simp [mergeK, putK, stK, ks1, ks2, k4, k5]
        rw [em]
        have hl4 := e1 _ _ hl3
        have hDl : D ≠ l := fun z => by rw [z, hl3] at hD; cases hD
        refine k _ p2 D l ?_ ⟨zs, ls, 0, upd_same, by rw [upd_ne (ne_of_none hl2 hp2)]; exact hl4, by rw [upd_ne (fun z => by rw [z, upd_same] at hD; cases hD)]; exact hy, by rw [hlen, hn, List.length_map], hz1, Nat.le_refl _, Ne.symm hDl⟩
        intro b o hb
        have hb2 := e _ _ hb
        have nb : b ≠ p2 := ne_of_none hb2 hp2
        rw [upd_ne nb]
        exact e1 _ _ (by rw [upd_ne nb]; exact hb2)
    refine ⟨by decide, fun p1 hp1 => ⟨.list (is.map PyData.int), .list [], .lst ((Same.new hp1).seq hs) (DpAll.ints is), .lst (.of upd_same) .nil, shaped_ints is, rfl, _, rfl, ?_⟩⟩
    cases is with
    | nil => exact iteF ⟨by decide, fun p2 hp2 => fun p3 hp3 => fin _ p2 [0] ((Same.new hp1).then_new hp2) upd_same (by decide) (by decide) p3 hp3⟩
    | cons z zs =>
      refine iteT ⟨_, .inl ((Same.new hp1).seq hs), fun p2 hp2 => fun p3 hp3 => fin _ p2 (z :: zs) ((Same.new hp1).then_new hp2) upd_same (by simp) hl p3 hp3⟩
end
end Ws
/-! ## U1 -/
namespace Ws
open PySem PySem.Spec PyProof.Rows L2 RZ
theorem walk_zipT {K : PySem.W.Frag} {a b : Addr} {xs ys : List V} : Walk (ItzT K a b) (min xs.length ys.length) (fun H => SqT K H a xs ∧ SqT K H b ys) (YPair (fun i => xs[i]?) (fun i => ys[i]?)) := by
  refine ⟨fun i _ hi q => ⟨xs, ys, xs[i]'(by omega), ys[i]'(by omega), q.1, q.2, by rw [List.getElem?_eq_getElem], by rw [List.getElem?_eq_getElem]⟩, fun _ q => ⟨xs, ys, q.1, q.2, by omega⟩, fun i H v H' _ q y => ?_⟩
  obtain ⟨T, x, z, h1, h2, h3, h4, h5⟩ := y
  exact ⟨T, x, z, h1, h2, h3, h4 xs q.1, h5 ys q.2⟩
def intsD (xs : List Int) : PyData := .tuple (xs.map PyData.int)
section
variable {K : PySem.W.Frag}
def isS : PyData → Bool
  | .str _ => true
  | _ => false
theorem kit_str : ∀ d : PyData, PySem.W.kitOne K (.type (tyName d)) (.type "str") = some (isS d)
  | .none => kit_ty (by decide +kernel)
  | .bool _ => kit_ty (by show kitB "bool" "str" = some false; decide +kernel)
  | .int _ => kit_ty (by show kitB "int" "str" = some false; decide +kernel)
  | .str _ => kit_ty (by show kitB "str" "str" = some true; decide +kernel)
  | .list _ => kit_ty (by show kitB "list" "str" = some false; decide +kernel)
  | .tuple _ => kit_ty (by show kitB "tuple" "str" = some false; decide +kernel)
  | .dict _ => kit_ty (by show kitB "dict" "str" = some false; decide +kernel)
theorem isi_str {H : Hp} {v : V} {d : PyData} {Q : VK} (h : Dp K H v d) (q : Q (.bl (isS d)) H) : rIsi K [v, .ty "str"] H Q := ⟨v, _, _, _, _, rfl, .ty _, dp_ty h, kit_str d, q⟩
end
/-- an error of the class at C with a field f of the data d is handed on -/
def OutF (K : PySem.W.Frag) (C : Addr) (f : Str) (d : PyData) (H : Hp) (E : XK) : Prop := ∀ H' dd u, Same H H' → Dp K H' u d → H' dd = some (.xd [(f, u)]) → E (.ref C) (some dd) H'
theorem OutF.to {K : PySem.W.Frag} {C : Addr} {f : Str} {d : PyData} {H H1 : Hp} {E : XK} (h : OutF K C f d H E) (e : Same H H1) : OutF K C f d H1 E := fun H' dd u e' => h H' dd u (e.trans e')
theorem rz_f {K : PySem.W.Frag} {C : Addr} {f : Str} {d : PyData} {H H1 : Hp} {E : XK} {v : V} {σ : L2.St} (h : OutF K C f d H E) (e : Same H H1) (hv : Dp K H1 v d) : rzQ C f (fun cls d _ H => E cls d H) σ v H1 := rz_ok fun dd hd => h _ dd v (e.then_new hd) (hv.to (Same.new hd)) upd_same
def OutW (C : Addr) (f : Str) (v : V) (H : Hp) (E : XK) : Prop := ∀ H' dd, Same H H' → H' dd = some (.xd [(f, v)]) → E (.ref C) (some dd) H'
theorem rz_w {C : Addr} {f : Str} {H H1 : Hp} {E : XK} {v : V} {σ : L2.St} (h : OutW C f v H E) (e : Same H H1) : rzQ C f (fun cls d _ H => E cls d H) σ v H1 := rz_ok fun dd hd => h _ dd (e.then_new hd) upd_same

theorem noList_ints (xs : List Int) : noList (intsD xs) = true := noListAll_of fun x hx => by
  obtain ⟨i, _, rfl⟩ := List.mem_map.mp hx
  rfl
/-! ### what a tuple of told data is -/
theorem tup_view {K : PySem.W.Frag} {H : Hp} {α : Type} {f : α → PyData} {xs : List α} {v : V} (h : Dp K H v (.tuple (xs.map f))) : ∃ p zs, v = .ref p ∧ SqT K H p zs ∧ zs.length = xs.length ∧ (∀ (i : Nat) z, zs[i]? = some z → ∃ x, xs[i]? = some x ∧ Dp K H z (f x)) ∧ DpAll K H zs (xs.map f) := by
  obtain ⟨p, zs, rfl, hs, ha⟩ := h.tup_inv
  have hl := ha.length
  rw [List.length_map] at hl
  refine ⟨p, zs, rfl, hs, hl, fun i z hz => ?_, ha⟩
  obtain ⟨d, h1, h2⟩ := ha.getV hz
  rw [List.getElem?_map] at h1
  cases e : xs[i]? with
  | none => rw [e] at h1; cases h1
  | some x =>
    rw [e] at h1
    cases h1
    exact ⟨x, rfl, h2⟩
theorem row_view {K : PySem.W.Frag} {H : Hp} {v : V} {ns : List Nat} (h : Dp K H v (rowD ns)) : ∃ p, v = .ref p ∧ SqT K H p ((nI ns).map V.int) := h.ints_tup
theorem row_of {K : PySem.W.Frag} {H : Hp} {p : Addr} {ns : List Nat} (h : SqT K H p ((nI ns).map V.int)) : Dp K H (.ref p) (rowD ns) := Dp.tup_ints h
theorem nI_get {ns : List Nat} {i : Nat} {x : V} (h : ((nI ns).map V.int)[i]? = some x) : ∃ n, ns[i]? = some n ∧ x = .int (n : Nat) := by
  unfold nI at h
  rw [List.map_map, List.getElem?_map] at h
  cases e : ns[i]? with
  | none => rw [e] at h; cases h
  | some n => rw [e] at h; cases h; exact ⟨n, rfl, rfl⟩
theorem nI_app (a b : List Nat) : nI (a ++ b) = nI a ++ nI b := List.map_append
end Ws
/-! ## R46 -/
namespace Ws
open PySem PySem.Spec PyProof.Rows L2 RZ Gm
/-! ### zip of a tuple and a list -/
def ItzM (K : PySem.W.Frag) (l r : Addr) : L2.It :=
  ⟨fun k H => ∃ (us vs : List V) (y z : V), SqT K H l us ∧ SqL K H r vs ∧ us[k]? = some y ∧ vs[k]? = some z,
    fun k H out H' => ∃ T y z, out = .ref T ∧ H T = none ∧ H' = upd H T (.tup [y, z]) ∧ (∀ us, SqT K H l us → us[k]? = some y) ∧ ∀ vs, SqL K H r vs → vs[k]? = some z,
    fun k H => ∃ us vs : List V, SqT K H l us ∧ SqL K H r vs ∧ k ≤ us.length ∧ k ≤ vs.length ∧ (k = us.length ∨ k = vs.length)⟩
theorem sepM {c l r : Nat} (h1 : l < c) (h2 : r < c) : ZipSep2 (c + 4) (c + 2) (c + 3) c (c + 1) [c, l] [c + 1, r] := by
  have up : ∀ {a b : Nat}, a < b → b ≠ a := fun q => Nat.ne_of_gt q
  have dn : ∀ {a b : Nat}, a < b → a ≠ b := fun q => Nat.ne_of_lt q
  have off : ∀ {a x y : Nat}, a ≠ x → a ≠ y → a ∉ [x, y] := fun p q hm => by
    rcases List.mem_cons.mp hm with e | hm
    · exact p e
    · exact q (List.mem_singleton.mp hm)
  exact ⟨dn (by omega), dn (by omega), dn (by omega), up (by omega), List.mem_cons_self .., off (up (by omega)) (up (by omega)), off (up (by omega)) (up (by omega)), up (by omega), List.mem_cons_self .., off (up (by omega)) (up (by omega)), off (up (by omega)) (up (by omega)), off (dn (by omega)) (up (by omega)), off (up (by omega)) (up (by omega))⟩
structure SepM (z t o i j l r : Addr) : Prop where
  s : ZipSep2 z t o i j [i, l] [j, r]
  il : l ≠ i
  jr : r ≠ j
  iz : i ≠ z
  jz : j ≠ z
theorem turn_zipM {P : Program} {w : World} {K : PySem.W.Frag} {elts : List Expr} {kk : Nat} {tpos : Pos} {l r z t o i j : Addr} (D : SepM z t o i j l r) :
    Turn P w K (.Tuple elts kk tpos) (ItzM K l r) [z, t, o, i, j] z (fun k h => IsZip h z t o .none ∧ IsTupOf2 h t (.ref i) (.ref j) ∧ (∃ y1 y2, IsTupOf2 h o y1 y2) ∧ h.IsTupleIter i l k ∧ h.IsListIter j r k) where
  mem := List.mem_cons_self ..
  obj := fun k h st c hc => by
    obtain ⟨st1, st2, ⟨y1, y2, st3⟩, ⟨oi, gi, _, di⟩, ⟨oj, gj, _, dj⟩⟩ := st
    have hc' : c = z ∨ c = t ∨ c = o ∨ c = i ∨ c = j := by simpa using hc
    rcases hc' with rfl | rfl | rfl | rfl | rfl
    · exact ⟨_, st1, fun _ e => nomatch e⟩
    · exact ⟨_, st2, fun _ e => nomatch e⟩
    · exact ⟨_, st3, fun _ e => nomatch e⟩
    · exact ⟨oi, gi, fun _ e => by rw [di] at e; cases e⟩
    · exact ⟨oj, gj, fun _ e => by rw [dj] at e; cases e⟩
  keep := fun k h h' st q => by
    obtain ⟨st1, st2, ⟨y1, y2, st3⟩, st4, st5⟩ := st
    exact ⟨q z (by simp) _ st1, q t (by simp) _ st2, ⟨y1, y2, q o (by simp) _ st3⟩, st4.at fun ob e => q i (by simp) ob e, st5.at fun ob e => q j (by simp) ob e⟩
  item := by
    intro X hP hw hK hc k pins s σ H E I fresh st go
    subst hP hw hK
    obtain ⟨st1, st2, ⟨y1, y2, st3⟩, st4, st5⟩ := st
    obtain ⟨us, vs, y, w0, su, sv, gy, gw⟩ := go
    obtain ⟨its, rel, ti, _⟩ := I.tuple su
    obtain ⟨jts, rel2, tj, _⟩ := I.list sv
    obtain ⟨p, hp, rp⟩ := rel.get gy
    obtain ⟨p2, hp2, rp2⟩ := rel2.get gw
    have below : z < s.heap.objs.size := Heap.lt_size st1
    have bi : i < s.heap.objs.size := let ⟨_, e, _⟩ := st4; Heap.lt_size e
    have bj : j < s.heap.objs.size := let ⟨_, e, _⟩ := st5; Heap.lt_size e
    have hd := I.ok.hd hc
    have d1 := Draws.tuple (prog := X.prog) (w := X.w) (A := X.A.in1) hd i l D.il its.toArray
    have d2 := Draws.list (prog := X.prog) (w := X.w) (A := X.A.in1) hd j r D.jr jts.toArray
    refine wpAny_pyNext_zipD2_item D.s d1 d2 st1 st2 st3 ⟨st4, ti⟩ ⟨st5, tj.isList⟩
      (by have := (List.getElem?_eq_some_iff.mp hp).1; simpa using this) (by have := (List.getElem?_eq_some_iff.mp hp2).1; simpa using this) fun x1 x2 h1 tk1 e1 e2 n1 n2 n3 n4 n5 n6 up => ?_
    obtain rfl : p = x1 := by have e1 : its.toArray[k]? = some x1 := e1; rw [List.getElem?_toArray, hp] at e1; exact Option.some.inj e1
    obtain rfl : p2 = x2 := by have e2 : jts.toArray[k]? = some x2 := e2; rw [List.getElem?_toArray, hp2] at e2; exact Option.some.inj e2
    refine ⟨_, rfl, wpAny_letOwnedTupleGo_zip (s := { s with heap := h1, toks := tk1 }) n1 fun h2 m1 sb => ?_⟩
    have pair : h2.get? s.heap.objs.size = some { cls := .type "tuple", data := .seq #[p, p2] } := (sb.2 _ (Nat.ne_of_gt below)).trans n5
    have both : ∀ c ob, c ∉ [z, t, o, i, j] → s.heap.get? c = some ob → h2.get? c = some ob := fun c ob out e => by
      have a1 : c ≠ z := fun q => out (by simp [q])
      have a2 : c ≠ o := fun q => out (by simp [q])
      have a3 : c ≠ i := fun q => out (by simp [q])
      have a4 : c ≠ j := fun q => out (by simp [q])
      exact (sb.2 c a1).trans (up c ob a1 a2 a3 a4 e)
    have J := I.turnedNew (t' := tk1) (ch := [z, t, o, i, j]) (ob := .tup [y, w0]) both fresh (Nat.le_refl _)
      ⟨by show 2 ≤ sizeLine; decide, [p, p2], .cons rp (.cons rp2 .nil), ⟨_, pair, rfl, _, rfl⟩⟩
    refine ⟨.ref s.heap.objs.size, _, J, rfl, ⟨_, y, w0, rfl, I.hok.fresh (Nat.le_refl _), rfl, fun q hq => by rw [I.tuple_inj hq su]; exact gy, fun q hq => by rw [I.list_inj hq sv]; exact gw⟩, ⟨m1, ?_, ⟨p, p2, ?_⟩, ?_, ?_⟩, fun c hc' => ?_⟩
    · exact (sb.2 _ D.s.TIz).trans (up _ _ D.s.TIz D.s.TITO D.s.TIi1 D.s.TIi2 st2)
    · exact (sb.2 _ D.s.TOz).trans n2
    · exact n3.1.at fun ob e => (sb.2 _ D.iz).trans e
    · exact n4.1.at fun ob e => (sb.2 _ D.jz).trans e
    · have lt : c < s.heap.objs.size := by
        have hc2 : c = z ∨ c = t ∨ c = o ∨ c = i ∨ c = j := by simpa using hc'
        rcases hc2 with rfl | rfl | rfl | rfl | rfl
        · exact below
        · exact Heap.lt_size st2
        · exact Heap.lt_size st3
        · exact bi
        · exact bj
      rw [upd_ne (Nat.ne_of_lt lt)]
      exact (fresh c hc').1
  done := by
    intro X hP hw hK hc k pins s σ H E I fresh st go
    subst hP hw hK
    obtain ⟨st1, st2, ⟨y1, y2, st3⟩, st4, st5⟩ := st
    obtain ⟨us, vs, su, sv, le1, le2, fin⟩ := go
    obtain ⟨its, rel, ti, _⟩ := I.tuple su
    obtain ⟨jts, rel2, tj, _⟩ := I.list sv
    have hd := I.ok.hd hc
    have k1 := rel.length
    have k2 := rel2.length
    have d1 := Draws.tuple (prog := X.prog) (w := X.w) (A := X.A.in1) hd i l D.il its.toArray
    have d2 := Draws.list (prog := X.prog) (w := X.w) (A := X.A.in1) hd j r D.jr jts.toArray
    refine wpAny_pyNext_zipD2_end (i := k) D.s d1 d2 st1 st2 st3 ⟨st4, ti⟩ ⟨st5, tj.isList⟩ (by simp; omega) (by simp; omega) (by simp; omega) fun h1 tk1 up => ⟨rfl, I.turnedL (t' := tk1) (ch := [z, t, o, i, j]) (fun c ob out e => ?_) fresh⟩
    exact up c ob (fun q => out (by simp [q])) (fun q => out (by simp [q])) (fun q => out (by simp [q])) (fun q => out (by simp [q])) e
  self := fun A k s Q E st q => wpAny_pyIter_zip st.1 q
theorem walk_zipM {K : PySem.W.Frag} {l r : Addr} {us vs : List V} : Walk (ItzM K l r) (min us.length vs.length) (fun H => SqT K H l us ∧ SqL K H r vs) (YPair (fun k => us[k]?) (fun k => vs[k]?)) := by
  refine ⟨fun k _ lt g => ⟨us, vs, us[k]'(by omega), vs[k]'(by omega), g.1, g.2, by rw [List.getElem?_eq_getElem], by rw [List.getElem?_eq_getElem]⟩, fun _ g => ⟨us, vs, g.1, g.2, by omega, by omega, by omega⟩, fun k H out H' _ g y => ?_⟩
  obtain ⟨T, y1, y2, q1, q2, q3, q4, q5⟩ := y
  exact ⟨T, y1, y2, q1, q2, q3, q4 us g.1, q5 vs g.2⟩
def zipC (K : PySem.W.Frag) (l r : Addr) (H1 : Hp) (R : L2.It → Hp → Prop) : Prop := ∃ xs ys, (((SqT K H1 l xs ∧ SqT K H1 r ys) ∧ R (ItzT K l r) H1) ∨ ((SqT K H1 l xs ∧ SqL K H1 r ys) ∧ R (ItzM K l r) H1))
/-- zip of a tuple and a tuple or a list -/
def iZipB (K : PySem.W.Frag) (ta : TA) : TI := fun σ H R => ta σ H fun vs H1 => ∃ l r, vs = [.ref l, .ref r] ∧ zipC K l r H1 R
theorem pi_zipB {X : Cx} {e e2 : Expr} {ta : TA} {p pos tpos : Pos} {elts : List Expr} {kk : Nat} (hg : Gl X "zip") (hm : X.mg "zip" = none) (ha : PA X [e, e2] ta)
    (hs : starEach [e, e2] X.env = (false, eval e X.env) :: starEach [e2] X.env := by rfl) (hpl : (backTo pos (starEach [e2] X.env)).any (·.1) = false := by rfl) :
    PI X (.Tuple elts kk tpos) (.Call (.Name "zip" p) [e, e2] [] pos) (iZipB X.K ta) := by
  refine ⟨fun pins s σ H R I h => ?_⟩
  refine Call_ (ld_blt I hg hm PyProof.Rows.boot_zip (PyProof.Rows.callWith_type1 (thn (ha.run pos pins s σ H _ I h) fun us s1 ⟨vs, H1, J, rel, q⟩ => ?_) hs hpl))
  obtain ⟨l, r, rfl, xs, ys, q⟩ := q
  cases rel with
  | cons rl rel =>
  cases rel with
  | cons rr rel =>
  cases rel
  cases rl
  cases rr
  generalize hc : s1.heap.objs.size = c
  have news : ∀ b, b ∈ [c + 4, c + 2, c + 3, c, c + 1] → FpOk X pins H1 b := fun b hb => by
    have lo : s1.heap.objs.size ≤ b := by
      rw [hc]
      have hb2 : b = c + 4 ∨ b = c + 2 ∨ b = c + 3 ∨ b = c ∨ b = c + 1 := by simpa using hb
      rcases hb2 with e | e | e | e | e
      · exact e ▸ Nat.le_add_right _ _
      · exact e ▸ Nat.le_add_right _ _
      · exact e ▸ Nat.le_add_right _ _
      · exact e ▸ Nat.le_refl _
      · exact e ▸ Nat.le_add_right _ _
    exact J.fpOk lo (J.hok.fresh lo)
  rcases q with ⟨⟨ql, qr⟩, q⟩ | ⟨⟨ql, qr⟩, q⟩
  · obtain ⟨its, _, p1, _⟩ := J.tuple ql
    obtain ⟨jts, _, p2, _⟩ := J.tuple qr
    obtain ⟨_, g1, _⟩ := id p1
    obtain ⟨_, g2, _⟩ := id p2
    refine zip_begins2 (begins_tuple l its.toArray) (begins_tuple r jts.toArray) p1 p2 fun h2 n1 n2 n3 n4 n5 _ up => wpAny_pyIter_zip n1 ?_
    have J2 : Inv X pins σ H1 { s1 with heap := h2 } := J.kept (t' := s1.toks) up
    rw [hc] at n1 n2 n3 n4 n5
    have D := PySem.W.ktu_apart c l r (hc ▸ Heap.lt_size g1) (hc ▸ Heap.lt_size g2)
    rw [← hc] at D n1 n2 n3 n4 n5 news
    exact ⟨_, _, _, _, H1, rfl, J2, turn_zipT D, ⟨n1, n2, ⟨_, _, n3⟩, ⟨_, n4, rfl, rfl⟩, ⟨_, n5, rfl, rfl⟩⟩, news, q⟩
  · obtain ⟨its, _, p1, _⟩ := J.tuple ql
    obtain ⟨jts, _, p2, _⟩ := J.list qr
    obtain ⟨_, g1, _⟩ := id p1
    refine zip_begins2 (begins_tuple l its.toArray) (begins_list r jts.toArray) p1 p2.isList fun h2 n1 n2 n3 n4 n5 _ up => wpAny_pyIter_zip n1 ?_
    have J2 : Inv X pins σ H1 { s1 with heap := h2 } := J.kept (t' := s1.toks) up
    have b1 : l < s1.heap.objs.size := Heap.lt_size g1
    have b2 : r < s1.heap.objs.size := p2.lt
    have D : SepM (s1.heap.objs.size + 4) (s1.heap.objs.size + 2) (s1.heap.objs.size + 3) s1.heap.objs.size (s1.heap.objs.size + 1) l r :=
      ⟨sepM b1 b2, Nat.ne_of_lt b1, Nat.ne_of_lt (Nat.lt_succ_of_lt b2), Nat.ne_of_lt (Nat.lt_add_of_pos_right (by decide)), Nat.ne_of_lt (Nat.add_lt_add_left (by decide) _)⟩
    rw [← hc] at news
    exact ⟨_, _, _, _, H1, rfl, J2, turn_zipM D, ⟨n1, n2, ⟨_, _, n3⟩, ⟨_, n4, rfl, rfl⟩, ⟨_, n5, rfl, rfl⟩⟩, news, q⟩
/-- one way to walk both -/
theorem zipB_core {K : PySem.W.Frag} {H0 H : Hp} {l r : Addr} {us vs : List V} {R : L2.It → Hp → Prop} (e : Same H0 H) (hl : SqT K H0 l us) (hr : SqT K H0 r vs ∨ SqL K H0 r vs)
    (k : ∀ J G, Walk J (min us.length vs.length) G (YPair (fun i => us[i]?) (fun i => vs[i]?)) → (∀ H', Same H0 H' → G H') → R J H) :
    zipC K l r H R := by
  rcases hr with hr | hr
  · exact ⟨us, vs, .inl ⟨⟨e.seqT hl, e.seqT hr⟩, k _ _ walk_zipT fun H' e' => ⟨e'.seqT hl, e'.seqT hr⟩⟩⟩
  · exact ⟨us, vs, .inr ⟨⟨e.seqT hl, e.seq hr⟩, k _ _ walk_zipM fun H' e' => ⟨e'.seqT hl, e'.seq hr⟩⟩⟩
/-! ### rows of numbers in their order -/
theorem toks_row (a : List Nat) : PySem.W.keyToksAll ((nI a).map PyData.int) = match a with
    | [] => [.inl 0]
    | x :: a => .inl 1 :: .inl ((x : Nat) : Int) :: PySem.W.keyToksAll ((nI a).map PyData.int) := by
  cases a with
  | nil => rfl
  | cons x a => rfl
theorem lt_row (a b : List Nat) : PySem.W.dataLt (rowD a) (rowD b) = rlt a b := by
  unfold rowD
  rw [PySem.W.dataLt_tuple]
  induction a generalizing b with
  | nil =>
    cases b with
    | nil => rfl
    | cons y b => rfl
  | cons x a ih =>
    cases b with
    | nil => rfl
    | cons y b =>
      rw [toks_row (x :: a), toks_row (y :: b)]
      dsimp only
      rw [PyProof.Rows.lex_self (O := PyProof.Rows.itemOrd), PyProof.Rows.lex_cons (O := PyProof.Rows.itemOrd), ih b]
      show (decide ((x : Int) < (y : Int)) || (!decide ((y : Int) < (x : Int)) && rlt a b)) = (decide (x < y) || (!decide (y < x) && rlt a b))
      have e1 : decide ((x : Int) < (y : Int)) = decide (x < y) := decide_eq_decide.mpr (by omega)
      have e2 : decide ((y : Int) < (x : Int)) = decide (y < x) := decide_eq_decide.mpr (by omega)
      rw [e1, e2]
theorem alike_ints2 : ∀ a b : List Int, PySem.W.alikeAll (a.map PyData.int) (b.map PyData.int) = true
  | [], _ => by simp [PySem.W.alikeAll]
  | _ :: _, [] => by simp [PySem.W.alikeAll]
  | x :: a, y :: b => by
    simp only [List.map_cons, PySem.W.alikeAll, PySem.W.alike, Bool.true_and]
    exact alike_ints2 a b
theorem alike_row (a b : List Nat) : PySem.W.alike (rowD a) (rowD b) = true := by
  unfold rowD
  simp only [PySem.W.alike]
  exact alike_ints2 _ _
theorem depth_row (a : List Nat) : (rowD a).depth = 1 := by
  unfold rowD
  simp only [PyData.depth]
  rw [depth_ints]
/-- t > u of rows -/
def rGtR (K : PySem.W.Frag) : R2 := fun x y H Q => ∃ a b : List Nat, Dp K H x (rowD a) ∧ Dp K H y (rowD b) ∧ Q (.bl (rlt b a)) H
theorem op_gtR {X : Cx} (hu : X.A.units + 65 < cLine) : OpR X (compareOp .Gt) (rGtR X.K) := by
  intro pins s σ H x y v u Q I rx ry h
  obtain ⟨a, b, hd, he, q⟩ := h
  obtain ⟨as, r1⟩ := Dp.reads I _ x v hd rx
  obtain ⟨bs, r2⟩ := Dp.reads I _ y u he ry
  refine PySem.W.gt_data r1 r2 (alike_row a b) (fun z => by cases z) (by rw [depth_row, depth_row]; omega) ⟨.bl _, H, I, rfl, ?_⟩
  rw [lt_row]
  exact q
theorem minD_rows (a : List Nat) (as : List (List Nat)) : PySem.W.minD (rowD a) (as.map rowD) = rowD (minR a as) := by
  unfold PySem.W.minD Gm.minR
  induction as generalizing a with
  | nil => rfl
  | cons y as ih =>
    simp only [List.map_cons, List.foldl_cons]
    rw [lt_row]
    cases rlt y a with
    | true => exact ih y
    | false => exact ih a
theorem depth_rows : ∀ as : List (List Nat), PyData.depthAll (as.map rowD) ≤ 1
  | [] => by simp [PyData.depthAll]
  | a :: as => by
    have := depth_rows as
    simp only [List.map_cons, PyData.depthAll, depth_row]
    omega
/-- min of a list of rows -/
def rMinR (K : PySem.W.Frag) : List V → Hp → VK → Prop := fun vs H Q => ∃ (p : Addr) (ys : List V) (a : List Nat) (as : List (List Nat)), vs = [.ref p] ∧ SqL K H p ys ∧ DpAll K H ys ((a :: as).map rowD) ∧ ∀ v, Dp K H v (rowD (minR a as)) → Q v H
theorem cr_minR {X : Cx} (hc : X.calm = true) (hu : X.A.units + 65 < cLine) : CallR X (.builtin "min") (rMinR X.K) := by
  intro pins s σ H vs us Q I r h
  obtain ⟨p, ys, a, as, rfl, hs, ha, q⟩ := h
  obtain ⟨its, rel, pl, _⟩ := I.list hs
  rw [Vals.ref1 r]
  obtain ⟨bs, hr⟩ := Dp.readsAll I _ ys its ha rel
  refine PySem.W.min_list_data (x := rowD a) (xs := as.map rowD) (I.ok.hd hc) pl.isList (by simpa using hr) ⟨fun d hd e he => ?_, fun d hd z => ?_⟩ (by have := depth_rows (a :: as); simp only [List.map_cons] at this; omega) fun k v h2 tk cs hv hR up => ?_
  · have hd : d ∈ (a :: as).map rowD := hd
    have he : e ∈ (a :: as).map rowD := he
    obtain ⟨d, _, rfl⟩ := List.mem_map.mp hd
    obtain ⟨e, _, rfl⟩ := List.mem_map.mp he
    exact alike_row d e
  · have hd : d ∈ (a :: as).map rowD := hd
    obtain ⟨d, _, rfl⟩ := List.mem_map.mp hd
    cases z
  · have hv' : its[k]? = some v := by simpa using hv
    have hk : k < ys.length := by
      have := (List.getElem?_eq_some_iff.mp hv').1
      have := rel.length
      omega
    obtain ⟨u, hu1, hu2⟩ := rel.get (List.getElem?_eq_getElem hk)
    rw [hv'] at hu1
    obtain rfl := Option.some.inj hu1
    obtain ⟨d, hd1, hd2⟩ := ha.getV (List.getElem?_eq_getElem hk)
    obtain ⟨ds, hd3⟩ := Dp.reads I d _ v hd2 hu2
    have e := (reads_det (fun b o g _ => up b o g) hd3 hR).1
    rw [minD_rows] at e
    rw [← e] at hd2
    exact ⟨ys[k], H, I.kept up, hu2, q _ hd2⟩
end Ws
/-! ## F45 -/
/-! tuples without a dict of their own: how they are made, their methods -/
namespace Ws
open PySem PySem.Spec PyProof.Rows L2
/-- at a stands a tuple of xs that has no dict of its own -/
def SqP (K : PySem.W.Frag) (H : Hp) (a : Addr) (xs : List V) : Prop := (∃ o : Obj, H a = some (.frz o (.tup xs)) ∧ o.dict = none) ∨ (SqT K H a xs ∧ ∃ o : Obj, K.lookup a = some o ∧ o.cls = .type "tuple" ∧ o.dict = none)
theorem SqP.sq {K : PySem.W.Frag} {H : Hp} {a : Addr} {xs : List V} (h : SqP K H a xs) : SqT K H a xs := by
  rcases h with ⟨o, h, _⟩ | ⟨h, _⟩
  · exact .inl (.inr ⟨o, h⟩)
  · exact h
theorem SqP.new {K : PySem.W.Frag} {H : Hp} {a : Addr} {xs : List V} {o : Obj} (h : o.dict = none) : SqP K (upd H a (.frz o (.tup xs))) a xs := .inl ⟨o, upd_same, h⟩
theorem SqP.same {K : PySem.W.Frag} {H H' : Hp} {a : Addr} {xs : List V} (h : SqP K H a xs) (e : Same H H') : SqP K H' a xs := by
  rcases h with ⟨o, h, d⟩ | ⟨h, k⟩
  · exact .inl ⟨o, e _ _ h, d⟩
  · exact .inr ⟨e.seqT h, k⟩
theorem SqP.kp {K : PySem.W.Frag} {H0 H H' : Hp} {a : Addr} {xs : List V} (h : SqP K H a xs) (e : Kp H0 H H') : SqP K H' a xs := by
  rcases h with ⟨o, h, d⟩ | ⟨h, k⟩
  · exact .inl ⟨o, e _ _ h (.inr (.inr ⟨_, _, rfl⟩)), d⟩
  · exact .inr ⟨seqTK e h, k⟩
theorem SqP.sbt {K : PySem.W.Frag} {H H' : Hp} {a l b : Addr} {xs : List V} (h : SqP K H b xs) (e : Sbt a l H H') (na : NoT H a) (nl : NoT H l) : SqP K H' b xs := by
  rcases h with ⟨o, h, d⟩ | ⟨h, k⟩
  · exact .inl ⟨o, e _ _ h (fun z => na.frz _ _ (by rw [← z]; exact h)) (fun z => nl.frz _ _ (by rw [← z]; exact h)), d⟩
  · exact .inr ⟨seqTN e na nl h, k⟩
section
variable {X : Cx}
theorem frz_ok {P : Program} {w : World} {H : Hp} {h : Heap} {a : Addr} {xs : List V} {its : List Value} {o : Obj} (hz : xs.length ≤ sizeLine) (r : Vals xs its) (ho : h.get? a = some o) (ht : IsTup h a its.toArray) : ObjOk P w H h a (.frz o (.tup xs)) := ⟨ho, hz, its, r, ht⟩
/-- (a, b, ..) -/
def tTupF (t : TA) : TE := fun σ H Q => t σ H fun xs H1 => xs.length ≤ sizeLine ∧ ∀ p (o : Obj), H1 p = none → o.dict = none → Q (.ref p) (upd H1 p (.frz o (.tup xs)))
theorem pe_tupF {es : List Expr} {t : TA} {x1} {pos : Pos} (ha : PA X es t) : PE X (.Tuple es x1 pos) (tTupF t) := ⟨fun pins s σ H Q I hq => wpAny_Tuple_spliced (thn (ha.run pos pins s σ H _ I hq) fun us s1 ⟨xs, H1, I1, r, z, q⟩ => ⟨by rw [← r.length]; exact z, by
  have fresh : H1 s1.heap.objs.size = none := I1.hok.fresh (Nat.le_refl _)
  have at_ := Heap.get?_push_size s1.heap (o := ({ cls := .type "tuple", data := .seq us.toArray } : Obj)) rfl
  exact ⟨.ref s1.heap.objs.size, _, I1.laid (t' := s1.toks) (fun b u e => Heap.get?_push_of_some _ e) (Nat.le_refl _) (frz_ok z r at_ ⟨_, at_, rfl, _, rfl⟩), rfl, q _ _ fresh rfl⟩⟩)⟩
/-- tuple(xs), xs a list; tuple(t) is t -/
def rTupF (K : PySem.W.Frag) : List V → Hp → VK → Prop := fun xs H Q => ∃ p ys, xs = [.ref p] ∧ ((SqL K H p ys ∧ ∀ l (o : Obj), H l = none → o.dict = none → Q (.ref l) (upd H l (.frz o (.tup ys)))) ∨ (SqT K H p ys ∧ Q (.ref p) H))
theorem call_tupleF : CallR X (.type "tuple") (rTupF X.K) := by
  intro pins s σ H xs us Q I r h
  obtain ⟨p, ys, rfl, h⟩ := h
  obtain ⟨u, rfl, rx⟩ := vals1 r
  cases rx
  rcases h with ⟨hq, q⟩ | ⟨hq, q⟩
  · obtain ⟨its, r', pl, hz⟩ := I.list hq
    have hlen := r'.length
    refine call_tuple_list pl.isList (fun hp kp => ?_) (by rw [List.size_toArray, ← hlen]; exact hz)
    have I1 : Inv X pins σ H { s with heap := hp } := I.kept (t' := s.toks) kp
    have at_ := Heap.get?_push_size hp (o := ({ cls := .type "tuple", data := .seq its.toArray } : Obj)) rfl
    exact ⟨.ref hp.objs.size, _, I1.laid (t' := s.toks) (fun b o e => Heap.get?_push_of_some _ e) (Nat.le_refl _) (frz_ok hz r' at_ ⟨_, at_, rfl, _, rfl⟩), rfl, q _ _ (I1.hok.fresh (Nat.le_refl _)) rfl⟩
  · obtain ⟨its, r', pl, hz⟩ := I.tuple hq
    exact call_tuple_same pl ⟨.ref p, H, I, rfl, q⟩
/-- t + u -/
def rCatF (K : PySem.W.Frag) : R2 := fun x y H Q => ∃ a b xs ys, x = .ref a ∧ y = .ref b ∧ SqT K H a xs ∧ SqT K H b ys ∧ xs.length + ys.length ≤ sizeLine ∧
  (xs = [] → Q (.ref b) H) ∧ (xs ≠ [] → ys = [] → Q (.ref a) H) ∧ (xs ≠ [] → ys ≠ [] → ∀ p (o : Obj), H p = none → o.dict = none → Q (.ref p) (upd H p (.frz o (.tup (xs ++ ys)))))
theorem op_catF : OpR X (binaryOp .Add) (rCatF X.K) := by
  intro pins s σ H x y v u Q I rx ry h
  obtain ⟨a, b, xs, ys, rfl, rfl, ha, hb, hz, q0, q1, q2⟩ := h
  obtain ⟨its, r1, p1, _⟩ := I.tuple ha
  obtain ⟨its2, r2, p2, _⟩ := I.tuple hb
  cases rx
  cases ry
  by_cases hx : xs = []
  · subst hx
    cases r1
    exact cat_tup0 p1 p2 ⟨.ref b, H, I, rfl, q0 rfl⟩
  · refine HT.cat_tup p1 p2 (fun z => hx (r1.nil_iff.mp z)) (fun z => ⟨.ref a, H, I, rfl, q1 hx (r2.nil_iff.mp z)⟩) (fun z => ?_) (by rw [← r1.length, ← r2.length]; exact hz)
    exact ⟨.ref s.heap.objs.size, _, I.laid (t' := s.toks) (o := .frz ({ cls := .type "tuple", data := .seq (its ++ its2).toArray } : Obj) (.tup (xs ++ ys))) (fun b ob q => Heap.get?_push_of_some _ q) (Nat.le_refl _) (frz_ok (its := its ++ its2) (by rw [List.length_append]; exact hz) (r1.append r2) (Heap.get?_push_size _ rfl) (IsTup.new _ _)), rfl, q2 hx (fun w => z (r2.nil_iff.mpr w)) _ _ (I.hok.fresh (Nat.le_refl _)) rfl⟩
/-- t[lo:hi]: the whole of it is t itself -/
def rSlF (K : PySem.W.Frag) : V → Option Int → Option Int → Hp → VK → Prop := fun x lo hi H Q => ∃ a xs, x = .ref a ∧ SqT K H a xs ∧
  (HT.sIx xs.length 0 lo = 0 ∧ HT.sIx xs.length xs.length hi = xs.length → Q (.ref a) H) ∧ (¬ (HT.sIx xs.length 0 lo = 0 ∧ HT.sIx xs.length xs.length hi = xs.length) → ∀ p (o : Obj), H p = none → o.dict = none → Q (.ref p) (upd H p (.frz o (.tup (cutV xs lo hi)))))
theorem sl_tupF : SlR X (rSlF X.K) := by
  intro pins s σ H x v vl vu lo hi sl Q I rx hs pl pu h
  obtain ⟨a, xs, rfl, hx, q1, q2⟩ := h
  obtain ⟨its, r, ht, hz⟩ := I.tuple hx
  have hlen : xs.length = its.toArray.size := by rw [List.size_toArray]; exact r.length
  cases rx
  by_cases hw : HT.sIx xs.length 0 lo = 0 ∧ HT.sIx xs.length xs.length hi = xs.length
  · exact ⟨"tuple", _, PyProof.Rows.slot_tuple_getitem.lookup, ht.typeIs, getItem_tuple_whole ht hs pl pu (by rw [← hlen]; exact hw) ⟨.ref a, H, I, rfl, q1 hw⟩⟩
  · refine ⟨"tuple", _, PyProof.Rows.slot_tuple_getitem.lookup, ht.typeIs, HT.getItem_tuple_cut ht hs pl pu (by rw [← hlen]; exact hw) ?_ (by rw [← hlen]; exact hz)⟩
    rw [← hlen]
    exact ⟨.ref s.heap.objs.size, _, I.laid (t' := s.toks) (o := .frz ({ cls := .type "tuple", data := .seq ((its.drop (HT.sIx xs.length 0 lo)).take (HT.sIx xs.length xs.length hi - HT.sIx xs.length 0 lo)).toArray } : Obj) (.tup (cutV xs lo hi))) (fun b ob q => Heap.get?_push_of_some _ q) (Nat.le_refl _) (frz_ok (Nat.le_trans (cutV_length xs lo hi) hz) ((r.drop (HT.sIx xs.length 0 lo)).take (HT.sIx xs.length xs.length hi - HT.sIx xs.length 0 lo)) (Heap.get?_push_size _ rfl) (IsTup.new _ _)), rfl, q2 hw _ _ (I.hok.fresh (Nat.le_refl _)) rfl⟩
/-- t.name(e, ..), t a tuple without a dict -/
def tBMT (K : PySem.W.Frag) (r : V → List V → Hp → VK → Prop) (to : TE) (t : TA) : TE := fun σ H Q => to σ H fun x H1 => (∃ p xs, x = .ref p ∧ SqP K H1 p xs) ∧ t σ H1 fun xs H2 => r x xs H2 Q
theorem SqP.is {pins : List (Addr × Obj)} {σ : L2.St} {H : Hp} {s : Shared} {p : Addr} {xs : List V} (I : Inv X pins σ H s) (h : SqP X.K H p xs) : s.TypeIs (.ref p) "tuple" ∧ ∃ ob, s.heap.get? p = some ob ∧ ob.dict = none := by
  rcases h with ⟨o, h, d⟩ | ⟨_, o, hk, hc, hd⟩
  · obtain ⟨ho, hz, its, r, ht⟩ := I.hok p _ h
    exact ⟨ht.typeIs, o, ho, d⟩
  · exact ⟨⟨o, I.kIn p o hk, hc⟩, o, I.kIn p o hk, hd⟩
theorem pe_bmT {ob e : Expr} {es : List Expr} {to : TE} {t : TA} {nm : Str} {ap cp : Pos} {id : String} {r : V → List V → Hp → VK → Prop} (pa : PlainAttrs "tuple") (slot : Slot "tuple" nm id) (ty : typeOf (.builtin id) = pure (.type "method_descriptor")) (hm : MtR X id r) (ho : PE X ob to) (ha : PA X (e :: es) t)
    (b0 : attributeBase ob nm X.env (eval ob X.env) = eval ob X.env := by rfl) (few : ((backTo cp (starEach (e :: es) X.env)).all (fun x => !x.1) && (backToKw cp (keywordEach [] X.env)).all (fun x => x.1.isSome) && decide ((e :: es).length + ([] : List Keyword).length + (if ([] : List Keyword).isEmpty then 0 else 1) < 30)) = true := by rfl)
    (ln : (ap.endLine == cp.line) = true := by rfl) (st : starEach (e :: es) X.env = (false, eval e X.env) :: starEach es X.env := by rfl) (pl : (backTo cp (starEach es X.env)).any (·.1) = false := by rfl) :
    PE X (.Call (.Attribute ob nm ap) (e :: es) [] cp) (tBMT X.K r to t) := by
  refine ⟨fun pins s σ H Q I h => wpAny_Call_method_late b0 few ln rfl (thn (ho.run pins s σ H _ I h) fun v s1 ⟨x, H1, I1, r1, ⟨p, xs, ex, hp⟩, q1⟩ => ?_)⟩
  subst ex
  cases r1
  obtain ⟨h1, o, ho, hd⟩ := hp.is I1
  refine ⟨"tuple", id, pa, slot, ty, h1, fun a e => by cases e; exact ⟨o, ho, hd⟩, ?_⟩
  have got := ha.run cp pins s1 σ H1 _ I1 q1
  rw [st] at got ⊢
  refine Calls.callWith_builtin (by show (false || (backTo cp (starEach es X.env)).any (·.1)) = false; rw [pl]; rfl) (Calls.evalArgs_plain (thn got fun us s2 ⟨vs, H2, I2, r2, q2⟩ => hm pins s2 σ H2 (.ref p) vs (.ref p) us Q I2 rfl r2 q2))
end
end Ws
/-! ## Q45 -/
/-! data whose tuples have no dict of their own -/
namespace Ws
open PySem PySem.Spec PyProof.Rows L2
mutual
def Dq (K : PySem.W.Frag) (H : Hp) : PyData → V → Prop
  | .none, v => v = .non
  | .bool b, v => v = .bl b
  | .int i, v => v = .int i
  | .str x, v => v = .str x
  | .tuple ds, v => ∃ a xs, v = .ref a ∧ SqP K H a xs ∧ DqA K H ds xs
  | .list _, _ => False
  | .dict _, _ => False
def DqA (K : PySem.W.Frag) (H : Hp) : List PyData → List V → Prop
  | [], ys => ys = []
  | d :: ds, ys => ∃ z zs, ys = z :: zs ∧ Dq K H d z ∧ DqA K H ds zs
end
section
variable {K : PySem.W.Frag} {H H' : Hp}
mutual
theorem Dq.dp : ∀ (d : PyData) (v : V), Dq K H d v → Dp K H v d
  | .none, _, h => by simp only [Dq] at h; subst h; exact .non
  | .bool b, _, h => by simp only [Dq] at h; subst h; exact .bl b
  | .int i, _, h => by simp only [Dq] at h; subst h; exact .int i
  | .str x, _, h => by simp only [Dq] at h; subst h; exact .str x
  | .tuple ds, _, h => by
    simp only [Dq] at h
    obtain ⟨a, xs, rfl, hs, ha⟩ := h
    exact .tup hs.sq (DqA.dp ds xs ha)
  | .list _, _, h => by simp only [Dq] at h
  | .dict _, _, h => by simp only [Dq] at h
theorem DqA.dp : ∀ (ds : List PyData) (ys : List V), DqA K H ds ys → DpAll K H ys ds
  | [], _, h => by simp only [DqA] at h; subst h; exact .nil
  | d :: ds, _, h => by
    simp only [DqA] at h
    obtain ⟨z, zs, rfl, h1, h2⟩ := h
    exact .cons (Dq.dp d z h1) (DqA.dp ds zs h2)
end
mutual
theorem Dq.step (st : ∀ a xs, SqP K H a xs → SqP K H' a xs) : ∀ (d : PyData) (v : V), Dq K H d v → Dq K H' d v
  | .none, _, h => by simp only [Dq] at h ⊢; exact h
  | .bool b, _, h => by simp only [Dq] at h ⊢; exact h
  | .int i, _, h => by simp only [Dq] at h ⊢; exact h
  | .str x, _, h => by simp only [Dq] at h ⊢; exact h
  | .tuple ds, _, h => by
    simp only [Dq] at h ⊢
    obtain ⟨a, xs, rfl, hs, ha⟩ := h
    exact ⟨a, xs, rfl, st a xs hs, DqA.step st ds xs ha⟩
  | .list _, _, h => by simp only [Dq] at h
  | .dict _, _, h => by simp only [Dq] at h
theorem DqA.step (st : ∀ a xs, SqP K H a xs → SqP K H' a xs) : ∀ (ds : List PyData) (ys : List V), DqA K H ds ys → DqA K H' ds ys
  | [], _, h => by simp only [DqA] at h ⊢; exact h
  | d :: ds, _, h => by
    simp only [DqA] at h ⊢
    obtain ⟨z, zs, rfl, h1, h2⟩ := h
    exact ⟨z, zs, rfl, Dq.step st d z h1, DqA.step st ds zs h2⟩
end
mutual
theorem Dq.flat : ∀ (d : PyData) (v : V), Dq K H d v → noList d = true
  | .none, _, _ => rfl
  | .bool _, _, _ => rfl
  | .int _, _, _ => rfl
  | .str _, _, _ => rfl
  | .tuple ds, _, h => by
    simp only [Dq] at h
    obtain ⟨a, xs, rfl, hs, ha⟩ := h
    simp only [noList]
    exact DqA.flat ds xs ha
  | .list _, _, h => by simp only [Dq] at h
  | .dict _, _, h => by simp only [Dq] at h
theorem DqA.flat : ∀ (ds : List PyData) (ys : List V), DqA K H ds ys → noListAll ds = true
  | [], _, _ => rfl
  | d :: ds, _, h => by
    simp only [DqA] at h
    obtain ⟨z, zs, rfl, h1, h2⟩ := h
    simp only [noListAll, Bool.and_eq_true]
    exact ⟨Dq.flat d z h1, DqA.flat ds zs h2⟩
end
theorem Dq.to {d : PyData} {v : V} (h : Dq K H d v) (e : Same H H') : Dq K H' d v := Dq.step (fun _ _ q => q.same e) d v h
theorem DqA.to {d : List PyData} {v : List V} (h : DqA K H d v) (e : Same H H') : DqA K H' d v := DqA.step (fun _ _ q => q.same e) d v h
theorem Dq.new {d : PyData} {v : V} {p : Addr} {o : HO} (h : Dq K H d v) (e : H p = none) : Dq K (upd H p o) d v := h.to (Same.new e)
theorem DqA.new {d : List PyData} {v : List V} {p : Addr} {o : HO} (h : DqA K H d v) (e : H p = none) : DqA K (upd H p o) d v := h.to (Same.new e)
theorem Dq.sbt {a l : Addr} {d : PyData} {v : V} (h : Dq K H d v) (e : Sbt a l H H') (na : NoT H a) (nl : NoT H l) : Dq K H' d v := Dq.step (fun _ _ q => q.sbt e na nl) d v h
theorem DqA.sbt {a l : Addr} {d : List PyData} {v : List V} (h : DqA K H d v) (e : Sbt a l H H') (na : NoT H a) (nl : NoT H l) : DqA K H' d v := DqA.step (fun _ _ q => q.sbt e na nl) d v h
theorem Dq.st {a l c : Addr} {n : Nat} {d : PyData} {v : V} (h : Dq K H d v) (e : Sbt a l H H') (s : LSt H a l c n) : Dq K H' d v := h.sbt e s.noA s.noL
theorem DqA.st {a l c : Addr} {n : Nat} {d : List PyData} {v : List V} (h : DqA K H d v) (e : Sbt a l H H') (s : LSt H a l c n) : DqA K H' d v := h.sbt e s.noA s.noL
/-- a list that changes -/
theorem Dq.lst {p : Addr} {xs : List V} {o : HO} {d : PyData} {v : V} (h : Dq K H d v) (hp : H p = some (.lst xs)) : Dq K (upd H p o) d v := h.sbt (a := p) (l := p) (Sbt.refl H).a (.lst hp) (.lst hp)
theorem DqA.lst {p : Addr} {xs : List V} {o : HO} {d : List PyData} {v : List V} (h : DqA K H d v) (hp : H p = some (.lst xs)) : DqA K (upd H p o) d v := h.sbt (a := p) (l := p) (Sbt.refl H).a (.lst hp) (.lst hp)
theorem Dq.tup_inv {v : V} {ds : List PyData} (h : Dq K H (.tuple ds) v) : ∃ a xs, v = .ref a ∧ SqP K H a xs ∧ DqA K H ds xs := by simpa only [Dq] using h
theorem Dq.tup {a : Addr} {xs : List V} {ds : List PyData} (h : SqP K H a xs) (ha : DqA K H ds xs) : Dq K H (.tuple ds) (.ref a) := by
  simp only [Dq]
  exact ⟨a, xs, rfl, h, ha⟩
theorem Dq.int_ {i : Int} : Dq K H (.int i) (.int i) := by simp only [Dq]
theorem Dq.str_ {x : Str} : Dq K H (.str x) (.str x) := by simp only [Dq]
theorem Dq.bl_ {b : Bool} : Dq K H (.bool b) (.bl b) := by simp only [Dq]
theorem Dq.non_ : Dq K H .none .non := by simp only [Dq]
theorem Dq.int_inv {i : Int} {v : V} (h : Dq K H (.int i) v) : v = .int i := by simpa only [Dq] using h
theorem Dq.str_inv {x : Str} {v : V} (h : Dq K H (.str x) v) : v = .str x := by simpa only [Dq] using h
theorem DqA.nil_ : DqA K H [] [] := by simp only [DqA]
theorem DqA.cons_ {d : PyData} {ds : List PyData} {z : V} {zs : List V} (h : Dq K H d z) (r : DqA K H ds zs) : DqA K H (d :: ds) (z :: zs) := by
  simp only [DqA]
  exact ⟨z, zs, rfl, h, r⟩
theorem DqA.one_ {d : PyData} {z : V} (h : Dq K H d z) : DqA K H [d] [z] := .cons_ h .nil_
theorem DqA.cons_inv {d : PyData} {ds : List PyData} {ys : List V} (h : DqA K H (d :: ds) ys) : ∃ z zs, ys = z :: zs ∧ Dq K H d z ∧ DqA K H ds zs := by simpa only [DqA] using h
theorem DqA.nil_inv {ys : List V} (h : DqA K H [] ys) : ys = [] := by simpa only [DqA] using h
theorem DqA.two {d e : PyData} {ys : List V} (h : DqA K H [d, e] ys) : ∃ y z, ys = [y, z] ∧ Dq K H d y ∧ Dq K H e z := by
  obtain ⟨y, zs, rfl, h1, h2⟩ := h.cons_inv
  obtain ⟨z, zs, rfl, h3, h4⟩ := h2.cons_inv
  obtain rfl := h4.nil_inv
  exact ⟨y, z, rfl, h1, h3⟩
theorem DqA.three {d e f : PyData} {ys : List V} (h : DqA K H [d, e, f] ys) : ∃ x y z, ys = [x, y, z] ∧ Dq K H d x ∧ Dq K H e y ∧ Dq K H f z := by
  obtain ⟨x, zs, rfl, h1, h2⟩ := h.cons_inv
  obtain ⟨y, z, rfl, h3, h4⟩ := h2.two
  exact ⟨x, y, z, rfl, h1, h3, h4⟩
theorem DqA.len {ds : List PyData} {ys : List V} (h : DqA K H ds ys) : ys.length = ds.length := (DqA.dp ds ys h).length
theorem DqA.app : ∀ {ds es : List PyData} {ys zs : List V}, DqA K H ds ys → DqA K H es zs → DqA K H (ds ++ es) (ys ++ zs)
  | [], _, _, _, h, h' => by obtain rfl := h.nil_inv; exact h'
  | d :: ds, _, _, _, h, h' => by
    obtain ⟨z, zs, rfl, h1, h2⟩ := h.cons_inv
    exact .cons_ h1 (h2.app h')
theorem DqA.tk : ∀ {ds : List PyData} {ys : List V} (n : Nat), DqA K H ds ys → DqA K H (ds.take n) (ys.take n)
  | [], _, n, h => by obtain rfl := h.nil_inv; simp; exact .nil_
  | d :: ds, _, 0, h => .nil_
  | d :: ds, _, n + 1, h => by
    obtain ⟨z, zs, rfl, h1, h2⟩ := h.cons_inv
    exact .cons_ h1 (h2.tk n)
theorem DqA.dr : ∀ {ds : List PyData} {ys : List V} (n : Nat), DqA K H ds ys → DqA K H (ds.drop n) (ys.drop n)
  | [], _, n, h => by obtain rfl := h.nil_inv; simp; exact .nil_
  | d :: ds, _, 0, h => h
  | d :: ds, _, n + 1, h => by
    obtain ⟨z, zs, rfl, h1, h2⟩ := h.cons_inv
    exact h2.dr n
theorem DqA.at_ : ∀ {ds : List PyData} {ys : List V} {i : Nat} {z : V}, DqA K H ds ys → ys[i]? = some z → ∃ d, ds[i]? = some d ∧ Dq K H d z
  | [], _, i, z, h, e => by obtain rfl := h.nil_inv; simp at e
  | d :: ds, _, 0, z, h, e => by
    obtain ⟨z', zs, rfl, h1, h2⟩ := h.cons_inv
    have : z' = z := by simpa using e
    subst this
    exact ⟨d, rfl, h1⟩
  | d :: ds, _, i + 1, z, h, e => by
    obtain ⟨z', zs, rfl, h1, h2⟩ := h.cons_inv
    obtain ⟨d', a, b⟩ := h2.at_ (i := i) (z := z) (by simpa using e)
    exact ⟨d', by simpa using a, b⟩
theorem DqA.get : ∀ {ds : List PyData} {ys : List V} {i : Nat} {d : PyData}, DqA K H ds ys → ds[i]? = some d → ∃ z, ys[i]? = some z ∧ Dq K H d z
  | [], _, i, d, h, e => by simp at e
  | d' :: ds, _, 0, d, h, e => by
    obtain ⟨z', zs, rfl, h1, h2⟩ := h.cons_inv
    have : d' = d := by simpa using e
    subst this
    exact ⟨z', rfl, h1⟩
  | d' :: ds, _, i + 1, d, h, e => by
    obtain ⟨z', zs, rfl, h1, h2⟩ := h.cons_inv
    obtain ⟨z, a, b⟩ := h2.get (i := i) (d := d) (by simpa using e)
    exact ⟨z, by simpa using a, b⟩
theorem DqA.of_all : ∀ {ds : List PyData} {ys : List V}, ys.length = ds.length → (∀ (j : Nat) (y : V) (d : PyData), ys[j]? = some y → ds[j]? = some d → Dq K H d y) → DqA K H ds ys
  | [], [], _, _ => .nil_
  | [], _ :: _, h, _ => by simp at h
  | _ :: _, [], h, _ => by simp at h
  | d :: ds, y :: ys, h, k => .cons_ (k 0 y d rfl rfl) (DqA.of_all (by simpa using h) fun j z e h1 h2 => k (j + 1) z e (by simpa using h1) (by simpa using h2))
theorem DqA.ints (ns : List Int) : DqA K H (ns.map PyData.int) (ns.map V.int) := by
  induction ns with
  | nil => exact .nil_
  | cons n ns ih => exact .cons_ .int_ ih
theorem DqA.ints_inv : ∀ {ns : List Int} {ys : List V}, DqA K H (ns.map PyData.int) ys → ys = ns.map V.int
  | [], _, h => h.nil_inv
  | n :: ns, _, h => by
    obtain ⟨z, zs, rfl, h1, h2⟩ := h.cons_inv
    rw [h1.int_inv, h2.ints_inv]
    rfl
theorem Dq.row_inv {v : V} {ns : List Nat} (h : Dq K H (rowD ns) v) : ∃ a, v = .ref a ∧ SqP K H a ((nI ns).map V.int) := by
  obtain ⟨a, xs, rfl, hs, ha⟩ := h.tup_inv
  rw [ha.ints_inv] at hs
  exact ⟨a, rfl, hs⟩
theorem Dq.row {a : Addr} {ns : List Nat} (h : SqP K H a ((nI ns).map V.int)) : Dq K H (rowD ns) (.ref a) := .tup h (DqA.ints _)
theorem q_view {α : Type} {f : α → PyData} {xs : List α} {v : V} (h : Dq K H (.tuple (xs.map f)) v) : ∃ p zs, v = .ref p ∧ SqP K H p zs ∧ zs.length = xs.length ∧ (∀ (i : Nat) z, zs[i]? = some z → ∃ x, xs[i]? = some x ∧ Dq K H (f x) z) ∧ DqA K H (xs.map f) zs := by
  obtain ⟨p, zs, rfl, hs, ha⟩ := h.tup_inv
  have hl := ha.len
  rw [List.length_map] at hl
  refine ⟨p, zs, rfl, hs, hl, fun i z hz => ?_, ha⟩
  obtain ⟨d, h1, h2⟩ := ha.at_ hz
  rw [List.getElem?_map] at h1
  cases e : xs[i]? with
  | none => rw [e] at h1; cases h1
  | some x =>
    rw [e] at h1
    cases h1
    exact ⟨x, rfl, h2⟩
end
end Ws
/-! ## E45a -/
namespace Ws
open PySem PySem.Spec PyProof.Rows L2 RZ Gm
local macro_rules | `(tactic| walk_at "nf") => `(tactic| dsimp only [tNext, tSeq, tDrop, tRet, tRetN, tIfS, tAsg, gName, gTup, gCons, gNil, tVar, tC, tOp, tUn, rI, rI0, rU, rEq, rNe, tTest, tChain, tAnd, tOr, tNot, tAndV, tOrV, tNotV, tIf, tCB, tCKw, tCons, tNil, tTup, tLst, tCa, tCallS, tB, rIxT, rIxL, rIxS, cxOf, Cx.nox, Cx.wish, Cx.blk, L2.start, tPar, tPar3, tNever, tYes, tBits, tRz, tBM, rAppend, tyV, tXf, suiteEnds, gSub, rSetL, tBreak, rMax, tDGet, sDPut, tSl, tNoPart, tPart, tDisp, tPairs, tDGet2, tDNewK])
local macro_rules | `(tactic| walk_at "sx") => `(tactic| simp only [wipe, List.cons.injEq, and_assoc, exists_and_left, and_true, List.map_cons, List.map_nil, List.length_cons, List.length_nil, List.cons_append, List.nil_append, List.append_nil, Nat.reduceAdd, Nat.reduceSub, List.replicate, List.getElem?_cons_zero, List.getElem?_cons_succ, List.set_cons_zero, List.set_cons_succ, Option.some.injEq, V.int.injEq, V.bl.injEq, V.ref.injEq, V.str.injEq, exists_eq_left', exists_eq_left, true_and, Bool.true_eq_false, Bool.false_eq_true, if_true, if_false])

theorem hu65 {A : Around} {k : Nat} (hr : Room k A) : A.units + 65 < cLine := by have := hr.un; omega
/-! ### grammars as data -/
def _root_.Gm.Itm.kd : Itm → Str
  | .L _ => "letter"
  | .X _ => "variable"
def _root_.Gm.Itm.no : Itm → Nat
  | .L n => n
  | .X n => n
def itD (t : Itm) : PyData := .tuple [.str t.kd, .int (t.no : Nat)]
def itsD (its : List Itm) : PyData := .tuple (its.map itD)
def ruD (r : Ru) : PyData := .tuple [.int (r.1 : Nat), itsD r.2]
def rulesD (rs : List Ru) : PyData := .tuple (rs.map ruD)
def grD (m : Nat) (rs : List Ru) : PyData := .tuple [.int (m : Nat), rulesD rs]
structure GOk (m : Nat) (rs : List Ru) : Prop where
  m1 : 1 ≤ m
  m2 : m ≤ 4
  l1 : 1 ≤ rs.length
  l2 : rs.length ≤ 8
  small : Small rs
  body : ∀ r ∈ rs, r.2.length ≤ 6
  lets : ∀ r ∈ rs, ∀ l ∈ Gm.ls r.2, l < m
theorem ks_lv : ¬(("letter" : Str) = "variable") ∧ ¬(("variable" : Str) = "letter") := by decide +kernel
theorem noList_it (t : Itm) : noList (itD t) = true := rfl
theorem noList_its (its : List Itm) : noList (itsD its) = true := noListAll_of fun x hx => by
  obtain ⟨t, _, rfl⟩ := List.mem_map.mp hx
  exact noList_it t
theorem noList_ru (r : Ru) : noList (ruD r) = true := by
  show (true && (noList (itsD r.2) && true)) = true
  rw [noList_its]
  rfl
theorem noList_rules (rs : List Ru) : noList (rulesD rs) = true := noListAll_of fun x hx => by
  obtain ⟨t, _, rfl⟩ := List.mem_map.mp hx
  exact noList_ru t
theorem noList_gr (m : Nat) (rs : List Ru) : noList (grD m rs) = true := by
  show (true && (noList (rulesD rs) && true)) = true
  rw [noList_rules]
  rfl
section
variable {K : PySem.W.Frag} {H : Hp} {v : V}
theorem it_v {t : Itm} (h : Dp K H v (itD t)) : ∃ p, v = .ref p ∧ SqT K H p [.str t.kd, .int (t.no : Nat)] := by
  obtain ⟨p, xs, rfl, hs, ha⟩ := h.tup_inv
  obtain ⟨x, y, rfl, h1, h2⟩ := ha.two
  cases h1
  cases h2
  exact ⟨p, rfl, hs⟩
theorem ru_v {r : Ru} (h : Dp K H v (ruD r)) : ∃ p u, v = .ref p ∧ SqT K H p [.int (r.1 : Nat), u] ∧ Dp K H u (itsD r.2) := by
  obtain ⟨p, xs, rfl, hs, ha⟩ := h.tup_inv
  obtain ⟨x, y, rfl, h1, h2⟩ := ha.two
  cases h1
  exact ⟨p, y, rfl, hs, h2⟩
theorem gr_v {m : Nat} {rs : List Ru} (h : Dp K H v (grD m rs)) : ∃ p u, v = .ref p ∧ SqT K H p [.int (m : Nat), u] ∧ Dp K H u (rulesD rs) := by
  obtain ⟨p, xs, rfl, hs, ha⟩ := h.tup_inv
  obtain ⟨x, y, rfl, h1, h2⟩ := ha.two
  cases h1
  exact ⟨p, y, rfl, hs, h2⟩
end
/-! ### wholesay.grammars: what is needed -/
def isItemD (m : Int) : PyData → Bool
  | .tuple [.str k, x] => if k = "letter" then isBt x 0 (m - 1) else (decide (k = "variable") && isBt x 0 3)
  | _ => false
def isRuleD (m : Int) : PyData → Bool
  | .tuple [h, .tuple its] => isBt h 0 3 && decide (its.length ≤ 6) && its.all (isItemD m)
  | _ => false
def firstBadR (m : Int) : Nat → List PyData → Option Nat
  | _, [] => none
  | i, d :: ds => if isRuleD m d then firstBadR m (i + 1) ds else some i
def gFault : PyData → Option PyData
  | .tuple [m, rows] => if isBt m 1 4 then (match rows with
      | .tuple ds => if 1 ≤ ds.length ∧ ds.length ≤ 8 then (firstBadR (iOf m) 0 ds).map fun i => intsD [1, (i : Nat)] else some (intsD [1])
      | _ => some (intsD [1])) else some (intsD [0])
  | _ => some (intsD [])
def isNatD : PyData → Bool
  | .int i => decide (0 ≤ i)
  | _ => false
def areUsesD (n : Nat) : PyData → Bool
  | .tuple ds => decide (ds.length = n) && ds.all isNatD
  | _ => false
theorem gOk_none {m : Nat} {rs : List Ru} (o : GOk m rs) : gFault (grD m rs) = none := by
  have h1 : isBt (.int (m : Nat)) 1 4 = true := by have := o.m1; have := o.m2; simp [isBt]; omega
  have hi : ∀ r ∈ rs, ∀ t ∈ r.2, isItemD m (itD t) = true := fun r hr t ht => by
    cases t with
    | L n =>
      have : n < m := o.lets r hr n (List.mem_filterMap.mpr ⟨_, ht, rfl⟩)
      show (if ("letter" : Str) = "letter" then isBt (.int (n : Nat)) 0 ((m : Nat) - 1) else (decide (("letter" : Str) = "variable") && isBt (.int (n : Nat)) 0 3)) = true
      rw [if_pos rfl]
      simp [isBt]
      omega
    | X n =>
      have : n < 4 := (o.small r hr).2 n (List.mem_filterMap.mpr ⟨_, ht, rfl⟩)
      show (if ("variable" : Str) = "letter" then isBt (.int (n : Nat)) 0 ((m : Nat) - 1) else (decide (("variable" : Str) = "variable") && isBt (.int (n : Nat)) 0 3)) = true
      rw [if_neg ks_lv.2]
      simp [isBt]
      omega
  have hr : ∀ r ∈ rs, isRuleD m (ruD r) = true := fun r hr => by
    have := (o.small r hr).1
    have := o.body r hr
    show (isBt (.int (r.1 : Nat)) 0 3 && decide ((r.2.map itD).length ≤ 6) && (r.2.map itD).all (isItemD m)) = true
    have h2 : isBt (.int (r.1 : Nat)) 0 3 = true := by simp [isBt]; omega
    rw [h2, List.length_map]
    simp only [Bool.true_and, Bool.and_eq_true, decide_eq_true_eq, List.all_eq_true]
    refine ⟨by omega, fun x hx => ?_⟩
    obtain ⟨t, ht, rfl⟩ := List.mem_map.mp hx
    exact hi r hr t ht
  have hf : ∀ (l : List Ru) (i : Nat), (∀ r ∈ l, r ∈ rs) → firstBadR m i (l.map ruD) = none := fun l => by
    induction l with
    | nil => intros; rfl
    | cons r l ih =>
      intro i h
      rw [List.map_cons]
      unfold firstBadR
      rw [if_pos (hr r (h r (List.mem_cons_self ..)))]
      exact ih (i + 1) fun x hx => h x (List.mem_cons_of_mem _ hx)
  show (if isBt (.int (m : Nat)) 1 4 then (if 1 ≤ (rs.map ruD).length ∧ (rs.map ruD).length ≤ 8 then (firstBadR m 0 (rs.map ruD)).map _ else _) else _) = none
  rw [if_pos h1, if_pos (by rw [List.length_map]; exact ⟨o.l1, o.l2⟩), hf rs 0 fun _ z => z]
  rfl
def spIsItem (K : PySem.W.Frag) : Sp := fun vs H Q _ => ∃ (v : V) (d : PyData) (m : Int), vs = [v, .int m] ∧ Dp K H v d ∧ Q (.bl (isItemD m d)) H
def spIsRule (K : PySem.W.Frag) : Sp := fun vs H Q _ => ∃ (v : V) (d : PyData) (m : Int), vs = [v, .int m] ∧ Dp K H v d ∧ ∀ H', Same H H' → Q (.bl (isRuleD m d)) H'
def spNeedGr (K : PySem.W.Frag) (BG : Addr) : Sp := fun vs H Q E => ∃ (v : V) (d : PyData), vs = [v] ∧ Dp K H v d ∧ (gFault d = none → ∀ H', Same H H' → Q v H') ∧ ∀ p, gFault d = some p → OutF K BG "place" p H E
def spVars (K : PySem.W.Frag) : Sp := fun vs H Q _ => ∃ (v : V) (r : Ru), vs = [v] ∧ Dp K H v (ruD r) ∧ r.2.length ≤ 1000 ∧ ∀ H' p, Same H H' → H p = none → H' p = some (.lst ((nI (xs r.2)).map V.int)) → Q (.ref p) H'
def spAreUses (K : PySem.W.Frag) : Sp := fun vs H Q _ => ∃ (rv uv : V) (rs : List Ru) (d : PyData), vs = [rv, uv] ∧ Dp K H rv (rulesD rs) ∧ Dp K H uv d ∧ rs.length ≤ 1000 ∧ ∀ H', Same H H' → Q (.bl (areUsesD rs.length d)) H'
abbrev s_is_item : Stmt := top 14
abbrev nm_is_item : List Str := ["value", "many"]
abbrev pr_is_item : List Str := ["value", "many"]
theorem sc_is_item : FnScope nm_is_item pr_is_item (defScope s_is_item) := ⟨rfl, rfl, rfl, by decide +kernel, rfl, by decide +kernel, by decide +kernel⟩
abbrev s_is_rule : Stmt := top 15
abbrev nm_is_rule : List Str := ["value", "many", "item"]
abbrev pr_is_rule : List Str := ["value", "many"]
theorem sc_is_rule : FnScope nm_is_rule pr_is_rule (defScope s_is_rule) := ⟨rfl, rfl, rfl, by decide +kernel, rfl, by decide +kernel, by decide +kernel⟩
abbrev s_need_grammar : Stmt := top 16
abbrev nm_need_grammar : List Str := ["value", "many", "rules", "at", "rule"]
abbrev pr_need_grammar : List Str := ["value"]
theorem sc_need_grammar : FnScope nm_need_grammar pr_need_grammar (defScope s_need_grammar) := ⟨rfl, rfl, rfl, by decide +kernel, rfl, by decide +kernel, by decide +kernel⟩
abbrev s_variables_of : Stmt := top 17
abbrev nm_variables_of : List Str := ["rule", "kind", "which"]
abbrev pr_variables_of : List Str := ["rule"]
theorem sc_variables_of : FnScope nm_variables_of pr_variables_of (defScope s_variables_of) := ⟨rfl, rfl, rfl, by decide +kernel, rfl, by decide +kernel, by decide +kernel⟩
abbrev s_are_uses : Stmt := top 18
abbrev nm_are_uses : List Str := ["rules", "uses", "use"]
abbrev pr_are_uses : List Str := ["rules", "uses"]
theorem sc_are_uses : FnScope nm_are_uses pr_are_uses (defScope s_are_uses) := ⟨rfl, rfl, rfl, by decide +kernel, rfl, by decide +kernel, by decide +kernel⟩
structure CsG (mg : Str → Option Value) : Prop where
  MOST_RULES : ∃ t, mg "MOST_RULES" = some (.int 8 t)
  MOST_ITEMS : ∃ t, mg "MOST_ITEMS" = some (.int 6 t)
  MOST_VARIABLE : ∃ t, mg "MOST_VARIABLE" = some (.int 3 t)
structure ErG (P : Program) (w : World) (K : PySem.W.Frag) (mg : Str → Option Value) (base : Heap) (BG BP : Addr) : Prop where
  BadGrammar : ErC P w K mg base "BadGrammar" "place" BG
  BadPaper : ErC P w K mg base "BadPaper" "word" BP
section
variable {P : Program} {w : World} {K : PySem.W.Frag} {mg : Str → Option Value} {base : Heap} {BG BP : Addr}
theorem ok_is_item (B : Bl mg) (C : CsG mg) (F1 : Df P w K mg base CX0 2 "is_between" pr_is_between (spIsBetween K)) (F2 : Df P w K mg base CX0 1 "is_tuple_of" pr_is_tuple_of (spIsTupleOf K)) (D : Dt K mg "is_item" s_is_item pr_is_item) : Df P w K mg base CX0 3 "is_item" pr_is_item (spIsItem K) := by
  refine D.ok sc_is_item (fun vs H Q E h => ?_) (fun f cdv A outer s H vs Q E hr h => ?_)
  · obtain ⟨v, d, m, rfl, _⟩ := h
    rfl
  · obtain ⟨v, d, m, rfl, hd, k⟩ := h
    refine ⟨_, (pss_cons (ps_if (PW.pt (pw_or (pt_not (pt_val (pe_f F2 (hr.mono (by decide)) pass0 (pa_cons (pv 0) (pa_cons pe_int pa_nil))))) (pw_or1 (pt_not (pt_val (pe_callB call_isi (by rfl) B.isinstance boot_isinstance (pa_cons (pe_ix ix_tup (pv 0) pe_int (fun _ _ => rfl)) (pa_cons (pe_bltn (v := .ty "str") (by rfl) B.str PyProof.Rows.boot_str rfl) pa_nil)))))))) (pss_one (ps_ret pe_bl)) pss_nil) (pss_cons (ps_if (pt_cmpR op_eq (pe_ix ix_tup (pv 0) pe_int (fun _ _ => rfl)) pe_str (nomark _)) (pss_one (ps_ret (pe_f F1 (hr.mono (by decide)) pass0 (pa_cons (pe_ix ix_tup (pv 0) pe_int (fun _ _ => rfl)) (pa_cons pe_int (pa_cons (pe_op op_sub (pv 1) pe_int) pa_nil)))))) pss_nil) (pss_one (ps_ret (pe_and (pe_cmpR op_eq (pe_ix ix_tup (pv 0) pe_int (fun _ _ => rfl)) pe_str (nomark _)) (pe_one (pe_f F1 (hr.mono (by decide)) pass0 (pa_cons (pe_ix ix_tup (pv 0) pe_int (fun _ _ => rfl)) (pa_cons pe_int (pa_cons (pe_glob (v := .int 3) rfl C.MOST_VARIABLE.choose_spec ⟨_, rfl⟩) pa_nil)))))))))), ?_⟩
    walk_at "nf"
    walk_at "sx"
    refine ⟨v, d, 2, rfl, hd, _, rfl, ?_⟩
    cases e0 : isTn d 2 with
    | false =>
      have ef : isItemD m d = false := by
        unfold isItemD
        split
        · simp [isTn] at e0
        · rfl
      rw [ef] at k
      exact iteT k
    | true =>
      obtain ⟨ds, rfl, hl⟩ := isTn_tup e0
      match ds, hl with
      | [c, x], _ =>
      obtain ⟨a, zs, rfl, hs, ha⟩ := hd.tup_inv
      obtain ⟨cv, xv, rfl, hc, hx⟩ := ha.two
      refine iteF ⟨a, rfl, _, hs, _, rfl, isi_str hc ⟨_, rfl, ?_⟩⟩
      cases hc with
      | str kk =>
        refine iteF ⟨a, rfl, _, hs, _, rfl, rfl, ?_⟩
        by_cases z : kk = "letter"
        · rw [decide_eq_true (by rw [z])]
          refine iteT ⟨a, rfl, _, hs, xv, rfl, xv, x, 0, m - 1, rfl, hx, ?_⟩
          have : isItemD m (.tuple [.str kk, x]) = isBt x 0 (m - 1) := by simp [isItemD, z]
          rw [← this]
          exact k
        · rw [decide_eq_false (fun e => z (V.str.inj e))]
          refine iteF ⟨a, rfl, _, hs, _, rfl, rfl, ?_⟩
          have e2 : isItemD m (.tuple [.str kk, x]) = (decide (kk = "variable") && isBt x 0 3) := by simp [isItemD, z]
          rw [e2] at k
          by_cases y : kk = "variable"
          · rw [decide_eq_true (by rw [y])]
            rw [decide_eq_true y, Bool.true_and] at k
            exact iteT ⟨a, rfl, _, hs, xv, rfl, xv, x, 0, 3, rfl, hx, k⟩
          · rw [decide_eq_false (fun e => y (V.str.inj e))]
            rw [decide_eq_false y, Bool.false_and] at k
            exact iteF k
      | _ => exact iteT (by simpa [isItemD] using k)
theorem ok_is_rule (B : Bl mg) (C : CsG mg) (F1 : Df P w K mg base CX0 2 "is_between" pr_is_between (spIsBetween K)) (F2 : Df P w K mg base CX0 1 "is_tuple_of" pr_is_tuple_of (spIsTupleOf K)) (F3 : Df P w K mg base CX0 3 "is_item" pr_is_item (spIsItem K)) (D : Dt K mg "is_rule" s_is_rule pr_is_rule) : Df P w K mg base CX0 4 "is_rule" pr_is_rule (spIsRule K) := by
  refine D.ok sc_is_rule (fun vs H Q E h => ?_) (fun f cdv A outer s H vs Q E hr h => ?_)
  · obtain ⟨v, d, m, rfl, _⟩ := h
    rfl
  · obtain ⟨v, d, m, rfl, hd, k⟩ := h
    refine ⟨_, (pss_cons (ps_if (PW.pt (pw_or (pt_not (pt_val (pe_f F2 (hr.mono (by decide)) pass0 (pa_cons (pv 0) (pa_cons pe_int pa_nil))))) (pw_or (pt_not (pt_val (pe_f F1 (hr.mono (by decide)) pass0 (pa_cons (pe_ix ix_tup (pv 0) pe_int (fun _ _ => rfl)) (pa_cons pe_int (pa_cons (pe_glob (v := .int 3) rfl C.MOST_VARIABLE.choose_spec ⟨_, rfl⟩) pa_nil)))))) (pw_or1 (pt_not (pt_val (pe_callB call_isi (by rfl) B.isinstance boot_isinstance (pa_cons (pe_ix ix_tup (pv 0) pe_int (fun _ _ => rfl)) (pa_cons (pe_bltn (v := .ty "tuple") (by rfl) B.tuple PyProof.Rows.boot_tuple rfl) pa_nil))))))))) (pss_one (ps_ret pe_bl)) pss_nil) (pss_one (ps_ret (pe_and (pe_cmpR op_le (pe_callB call_len_seq (by rfl) B.len PySem.boot_len (pa_cons (pe_ix ix_tup (pv 0) pe_int (fun _ _ => rfl)) pa_nil)) (pe_glob (v := .int 6) rfl C.MOST_ITEMS.choose_spec ⟨_, rfl⟩) (nomark _)) (pe_one (pe_callB (cr_all rfl) (by rfl) B.all boot_all (pa_cons (pe_lc (own := [("item", 2)]) (g := gName 2) (tt := tYes) (by rfl) sc_is_rule.nd (pi_tup (pe_ix ix_tup (pv 0) pe_int (fun _ _ => rfl))) (blkOk_by (own := [("item", 2)]) (N := nm_is_rule) (sc := defScope s_is_rule) (by decide +kernel)) (fun _ _ _ _ _ => pg_name (i := 2) sc_is_rule.nd rfl (Or.inl rfl)) (fun _ _ _ _ _ => pts_nil) (fun _ _ _ _ _ => (pe_f F3 (hr.mono (by decide)) pass0 (pa_cons (pv 2) (pa_cons (pv 1) pa_nil))))) pa_nil))))))), ?_⟩
    walk_at "nf"
    walk_at "sx"
    have no : (isRuleD m d = false) → Q (.bl false) H := fun e => by
      have := k H (Same.refl _)
      rwa [e] at this
    refine ⟨v, d, 2, rfl, hd, _, rfl, ?_⟩
    cases e0 : isTn d 2 with
    | false =>
      refine iteT (no ?_)
      unfold isRuleD
      split
      · simp [isTn] at e0
      · rfl
    | true =>
      obtain ⟨ds, rfl, hl⟩ := isTn_tup e0
      match ds, hl with
      | [c, x], _ =>
      obtain ⟨a, zs, rfl, hs, ha⟩ := hd.tup_inv
      obtain ⟨cv, xv, rfl, hc, hx⟩ := ha.two
      refine iteF ⟨a, rfl, _, hs, _, rfl, cv, c, 0, 3, rfl, hc, _, rfl, ?_⟩
      cases e1 : isBt c 0 3 with
      | false =>
        refine iteT (no ?_)
        cases x <;> simp [isRuleD, e1]
      | true =>
        refine iteF ⟨a, rfl, _, hs, _, rfl, isi_tuple hx ⟨_, rfl, ?_⟩⟩
        cases x with
        | tuple its =>
          obtain ⟨b, ws, rfl, hs2, ha2⟩ := hx.tup_inv
          have hl2 := ha2.length
          refine iteF ⟨a, rfl, _, hs, _, rfl, b, rfl, _, .inr hs2, ?_⟩
          by_cases c6 : its.length ≤ 6
          · rw [decide_eq_true (by rw [hl2]; omega)]
            refine iteT ⟨_, rfl, a, _, 1, _, rfl, rfl, hs, rfl, b, rfl, ⟨_, hs2⟩, fun L hL => lcS (walk_tup (K := K) (a := b) (xs := ws)) hL (by rw [hl2]; exact slt (by omega)) (fun i y => y = V.bl (isItemD m (its.getD i .none))) (fun H1 e => Same.seqT e hs2) (fun i x H1 H2 Q1 hi1 e y q => ?_) (fun H1 ys e hy hn hr => ?_)⟩
            · obtain ⟨rfl, hx⟩ := y
              obtain ⟨d, hd1, hd2⟩ := ha2.getV hx
              walk_at "nf"
              walk_at "sx"
              exact ⟨x, d, m, rfl, hd2.to e, q _ _ (by simp [hd1]) (Same.refl _)⟩
            · refine ⟨_, _, rfl, .of (by rw [hy]; exact congrArg (fun z => some (HO.lst z)) (vals_bl hn hr)), ?_⟩
              have e2 : (((List.range ws.length).map fun i => isItemD m (its.getD i .none)).all id) = isRuleD m (.tuple [c, .tuple its]) := by
                rw [hl2]
                simp only [isRuleD, e1, Bool.true_and, decide_eq_true c6, List.all_map]
                rw [Bool.eq_iff_iff]
                simp only [List.all_eq_true, List.mem_range, Function.comp, id]
                constructor
                · intro h x hx
                  obtain ⟨i, hi, rfl⟩ := List.mem_iff_getElem.mp hx
                  have := h i hi
                  simpa [hi] using this
                · intro h i hi
                  have := h its[i] (List.getElem_mem hi)
                  simpa [hi] using this
              rw [e2]
              exact k _ e
          · rw [decide_eq_false (by rw [hl2]; omega)]
            refine iteF (no ?_)
            simp [isRuleD, c6]
        | _ => exact iteT (no rfl)
theorem ok_need_gr (B : Bl mg) (C : CsG mg) (T : ErG P w K mg base BG BP) (F1 : Df P w K mg base CX0 2 "is_between" pr_is_between (spIsBetween K)) (F2 : Df P w K mg base CX0 1 "is_tuple_of" pr_is_tuple_of (spIsTupleOf K)) (F3 : Df P w K mg base CX0 4 "is_rule" pr_is_rule (spIsRule K))
    (D : Dt K mg "need_grammar" s_need_grammar pr_need_grammar) : Df P w K mg base (L2.CX P w) 5 "need_grammar" pr_need_grammar (spNeedGr K BG) := by
  refine D.okX sc_need_grammar (fun vs H Q E h => ?_) (fun f cdv A outer s H vs Q E hr h => ?_)
  · obtain ⟨v, d, rfl, _⟩ := h
    rfl
  · obtain ⟨v, d, rfl, hd, k1, k2⟩ := h
    refine ⟨_, (pss_cons (ps_if (pt_not (pt_val (pe_f F2 (hr.mono (by decide)) pass0 (pa_cons (pv 0) (pa_cons pe_int pa_nil))))) (pss_one (ps_rz rfl T.BadGrammar (hr.mono (by decide)) (takes_of rfl rfl rfl rfl) (by rfl) (pe_tup pa_nil))) pss_nil) (pss_cons (ps_asg (pv 0) (pg_tup rfl (pgs_cons (pg_name (i := 1) sc_need_grammar.nd rfl (Or.inl rfl)) (pgs_cons (pg_name (i := 2) sc_need_grammar.nd rfl (Or.inl rfl)) pgs_nil)))) (pss_cons (ps_if (pt_not (pt_val (pe_f F1 (hr.mono (by decide)) pass0 (pa_cons (pv 1) (pa_cons pe_int (pa_cons pe_int pa_nil)))))) (pss_one (ps_rz rfl T.BadGrammar (hr.mono (by decide)) (takes_of rfl rfl rfl rfl) (by rfl) (pe_tup (pa_cons pe_int pa_nil)))) pss_nil) (pss_cons (ps_if (PW.pt (pw_or (pt_not (pt_val (pe_callB call_isi (by rfl) B.isinstance boot_isinstance (pa_cons (pv 2) (pa_cons (pe_bltn (v := .ty "tuple") (by rfl) B.tuple PyProof.Rows.boot_tuple rfl) pa_nil))))) (pw_or1 (pt_not (pt_chain op_le op_le pe_int (pe_callB call_len_seq (by rfl) B.len PySem.boot_len (pa_cons (pv 2) pa_nil)) (pe_glob (v := .int 8) rfl C.MOST_RULES.choose_spec ⟨_, rfl⟩)))))) (pss_one (ps_rz rfl T.BadGrammar (hr.mono (by decide)) (takes_of rfl rfl rfl rfl) (by rfl) (pe_tup (pa_cons pe_int pa_nil)))) pss_nil) (pss_cons (ps_for (passes_of rfl) rfl (pi_enumT (by rfl) B.enumerate (pa_cons (pv 2) pa_nil)) (pg_tup rfl (pgs_cons (pg_name (i := 3) sc_need_grammar.nd rfl (Or.inl rfl)) (pgs_cons (pg_name (i := 4) sc_need_grammar.nd rfl (Or.inl rfl)) pgs_nil))) (pss_one (ps_if (pt_not (pt_val (pe_f F3 (hr.mono (by decide)) pass0 (pa_cons (pv 4) (pa_cons (pv 1) pa_nil))))) (pss_one (ps_rz rfl T.BadGrammar (hr.mono (by decide)) (takes_of rfl rfl rfl rfl) (by rfl) (pe_tup (pa_cons pe_int (pa_cons (pv 3) pa_nil))))) pss_nil))) (pss_one (ps_ret (pv 0)))))))), ?_⟩
    walk_at "nf"
    walk_at "sx"
    have out : ∀ (p : PyData), gFault d = some p → ∀ {σ : L2.St} {H1 : Hp} {u : V}, Same H H1 → Dp K H1 u p → rzQ BG "place" (fun cls d x H => E cls d H) σ u H1 := fun p e _ _ _ s1 hu => rz_f (k2 p e) s1 hu
    have bad : ∀ (xs : List Int), gFault d = some (intsD xs) → ∀ {σ : L2.St} {H1 : Hp} {p : Addr}, Same H H1 → H1 p = none → rzQ BG "place" (fun cls d x H => E cls d H) σ (V.ref p) (upd H1 p (.tup (xs.map V.int))) := fun xs e _ _ _ s1 hp =>
      out _ e (s1.then_new hp) (.tup (.of upd_same) (DpAll.ints xs))
    refine ⟨v, d, 2, rfl, hd, _, rfl, ?_⟩
    cases e0 : isTn d 2 with
    | false =>
      have ef : gFault d = some (intsD []) := by
        unfold gFault
        split
        · simp [isTn] at e0
        · rfl
      exact iteT ⟨by decide, fun p hp => bad [] ef (Same.refl _) hp⟩
    | true =>
      obtain ⟨ds, rfl, hl⟩ := isTn_tup e0
      match ds, hl with
      | [c, rows], _ =>
      obtain ⟨a, xs, rfl, hs, ha⟩ := hd.tup_inv
      obtain ⟨cv, rv, rfl, hc, hrw⟩ := ha.two
      refine iteF ⟨a, rfl, _, hs, rfl, cv, [rv], rfl, rv, [], rfl, rfl, cv, c, 1, 4, rfl, hc, _, rfl, ?_⟩
      cases e1 : isBt c 1 4 with
      | false =>
        have ef : gFault (.tuple [c, rows]) = some (intsD [0]) := by simp [gFault, e1, intsD]
        exact iteT ⟨by decide, fun p hp => bad [0] ef (Same.refl _) hp⟩
      | true =>
        refine iteF (isi_tuple hrw ⟨_, rfl, ?_⟩)
        cases rows with
        | tuple ds =>
          obtain ⟨b, zs, rfl, hs2, ha2⟩ := hrw.tup_inv
          have hl2 := ha2.length
          have no : ¬(1 ≤ ds.length ∧ ds.length ≤ 8) → gFault (.tuple [c, .tuple ds]) = some (intsD [1]) := fun z => by simp [gFault, e1, intsD]; omega
          refine iteF ⟨b, rfl, _, .inr hs2, ?_⟩
          by_cases c1 : 1 ≤ ds.length
          · rw [decide_eq_true (by rw [hl2]; omega)]
            refine iteT ?_
            by_cases c8 : ds.length ≤ 8
            · rw [decide_eq_true (by rw [hl2]; omega)]
              refine iteF ?_
              obtain ⟨n, rfl⟩ : ∃ n, c = .int n := by
                cases c with
                | int n => exact ⟨n, rfl⟩
                | _ => cases e1
              have hc2 := hc.int_inv
              subst hc2
              have ef2 : gFault (.tuple [.int n, .tuple ds]) = (firstBadR n 0 ds).map fun i => intsD [1, (i : Nat)] := by
                simp [gFault, e1, intsD, iOf]; omega
              refine ⟨_, rfl, b, zs, rfl, hs2, for_it (walk_enumT (xs := zs)) (fun i σ H' => Same H H' ∧ (∃ v4 v5, σ = [some (.ref a), some (.int n), some (.ref b), v4, v5]) ∧ firstBadR n 0 ds = firstBadR n i (ds.drop i)) ⟨Same.refl _, ⟨_, _, rfl⟩, rfl⟩ (fun i σ H' _ p => p.1.seqT hs2) (fun i x σ H1 H2 hi p y => ?_) (fun σ H1 p => ?_)⟩
              · obtain ⟨s1, ⟨v4, v5, rfl⟩, fb⟩ := p
                obtain ⟨T, x1, x2, rfl, hT, rfl, h1, h2⟩ := y
                obtain rfl : V.int (i : Nat) = x1 := Option.some.inj h1
                obtain ⟨d2, hd1, hd2⟩ := ha2.getV h2
                have s2 : Same H1 (upd H1 T (.tup [V.int (i : Nat), x2])) := Same.new hT
                have hi2 : i < ds.length := by rw [← hl2]; exact hi
                have dr : ds.drop i = d2 :: ds.drop (i + 1) := by
                  rw [List.drop_eq_getElem_cons hi2]
                  rw [List.getElem?_eq_getElem hi2] at hd1
                  rw [Option.some.inj hd1]
                walk_at "nf"
                refine ⟨T, _, rfl, .of upd_same, rfl, ?_⟩
                walk_at "sx"
                refine ⟨x2, d2, n, rfl, (hd2.to s1).to s2, fun H3 s3 => ⟨_, rfl, ?_⟩⟩
                have s4 := (s1.trans s2).trans s3
                cases e5 : isRuleD n d2 with
                | false =>
                  refine iteT ⟨by decide, fun p hp => bad [1, (i : Nat)] ?_ s4 hp⟩
                  rw [ef2, fb, dr]
                  simp [firstBadR, e5]
                | true =>
                  refine iteF ⟨s4, ⟨_, rfl⟩, ?_⟩
                  rw [fb, dr]
                  simp [firstBadR, e5]
              · obtain ⟨s1, ⟨v4, v5, rfl⟩, fb⟩ := p
                walk_at "nf"
                refine ⟨_, rfl, k1 ?_ _ s1⟩
                rw [ef2, fb, hl2, List.drop_length]
                rfl
            · rw [decide_eq_false (by rw [hl2]; omega)]
              exact iteT ⟨by decide, fun p hp => bad [1] (no (by omega)) (Same.refl _) hp⟩
          · rw [decide_eq_false (by rw [hl2]; omega)]
            exact iteF ⟨by decide, fun p hp => bad [1] (no (by omega)) (Same.refl _) hp⟩
        | _ =>
          refine iteT ⟨by decide, fun p hp => bad [1] ?_ (Same.refl _) hp⟩
          simp [gFault, e1, intsD]
def isX : Itm → Bool
  | .X _ => true
  | .L _ => false
theorem xs_filter (its : List Itm) : xs its = ((List.range its.length).filter fun i => isX (its.getD i (.L 0))).map fun i => (its.getD i (.L 0)).no := by
  have e := filter_get its (.L 0) isX
  have e2 := congrArg (List.map Itm.no) e
  rw [List.map_map] at e2
  rw [show ((List.range its.length).filter fun i => isX (its.getD i (.L 0))).map (fun i => (its.getD i (.L 0)).no) = ((List.range its.length).filter fun i => isX (its.getD i (.L 0))).map (Itm.no ∘ fun i => its.getD i (.L 0)) from rfl, e2]
  clear e e2
  induction its with
  | nil => rfl
  | cons t r ih =>
    cases t with
    | L n => exact ih
    | X n => exact congrArg (n :: ·) ih
theorem kd_var (t : Itm) : (decide (t.kd = Str.ofString "variable")) = isX t := by
  cases t with
  | L n => exact decide_eq_false fun z => ks_lv.1 z
  | X n => exact decide_eq_true rfl
theorem ok_vars (B : Bl mg) (D : Dt K mg "variables_of" s_variables_of pr_variables_of) : Df P w K mg base CX0 1 "variables_of" pr_variables_of (spVars K) := by
  refine D.ok sc_variables_of (fun vs H Q E h => ?_) (fun f cdv A outer s H vs Q E hr h => ?_)
  · obtain ⟨v, r, rfl, _⟩ := h
    rfl
  · obtain ⟨v, r, rfl, hd, hz, k⟩ := h
    obtain ⟨p, u, rfl, hs, hu⟩ := ru_v hd
    obtain ⟨b, zs, rfl, hb, hl, hat, _⟩ := tup_view hu
    refine ⟨_, (pss_one (ps_ret (pe_lc (own := [("kind", 1), ("which", 2)]) (g := gTup K 2 (gCons (gName 1) (gCons (gName 2) gNil))) (tt := _) (by rfl) sc_variables_of.nd (pi_tup (pe_ix ix_tup (pv 0) pe_int (fun _ _ => rfl))) (blkOk_by (own := [("kind", 1), ("which", 2)]) (N := nm_variables_of) (sc := defScope s_variables_of) (by decide +kernel)) (fun _ _ _ _ _ => pg_tup rfl (pgs_cons (pg_name (i := 1) sc_variables_of.nd rfl (Or.inl rfl)) (pgs_cons (pg_name (i := 2) sc_variables_of.nd rfl (Or.inl rfl)) pgs_nil))) (fun _ _ _ _ _ => (pts_one (pt_cmpR op_eq (pv 1) pe_str (nomark _)))) (fun _ _ _ _ _ => (pv 2))))), ?_⟩
    walk_at "nf"
    walk_at "sx"
    refine ⟨_, rfl, p, _, 1, _, rfl, rfl, hs, rfl, b, rfl, ⟨_, hb⟩, fun D hD => lcF (walk_tup (K := K) (a := b) (xs := zs)) hD (by rw [hl]; exact slt (by omega)) (fun i => isX (r.2.getD i (.L 0))) (fun i y H => y = .int ((r.2.getD i (.L 0)).no : Nat)) (fun i y H H' e n q => q) (fun H1 e => Same.seqT e hb) (fun i x H1 H2 Q1 Q0 hi e y q1 q0 => ?_) (fun H1 ys e hD1 g => ?_)⟩
    · obtain ⟨rfl, hx1⟩ := y
      obtain ⟨t, ht, hdt⟩ := hat i x hx1
      obtain ⟨p1, rfl, hs1⟩ := it_v (hdt.to e)
      have et : r.2.getD i (.L 0) = t := by rw [List.getD_eq_getElem?_getD, ht]; rfl
      rw [et] at q1 q0
      walk_at "nf"
      refine ⟨p1, _, rfl, hs1, rfl, ?_⟩
      walk_at "sx"
      rw [kd_var]
      refine ⟨rfl, ?_⟩
      cases c : isX t with
      | true => exact iteT (q1 c _ _ rfl (Same.refl _))
      | false => exact iteF (q0 c _ (Same.refl _))
    · have ev := g.vals (fun i => V.int ((r.2.getD i (.L 0)).no : Nat)) (fun i y h => h)
      refine k _ D e hD ?_
      rw [hD1, ev, hl, xs_filter, nI, List.map_map, List.map_map]
      rfl
theorem ok_are_uses (B : Bl mg) (F1 : Df P w K mg base CX0 1 "is_integer" pr_is_integer (spIsInteger K)) (F2 : Df P w K mg base CX0 1 "is_tuple_of" pr_is_tuple_of (spIsTupleOf K)) (D : Dt K mg "are_uses" s_are_uses pr_are_uses) : Df P w K mg base CX0 2 "are_uses" pr_are_uses (spAreUses K) := by
  refine D.ok sc_are_uses (fun vs H Q E h => ?_) (fun f cdv A outer s H vs Q E hr h => ?_)
  · obtain ⟨rv, uv, rs, d, rfl, _⟩ := h
    rfl
  · obtain ⟨rv, uv, rs, d, rfl, hd, hu, hz, k⟩ := h
    obtain ⟨p, zs, rfl, hs, hl, hat, _⟩ := tup_view hd
    refine ⟨_, (pss_one (ps_ret (pe_and (pe_f F2 (hr.mono (by decide)) pass0 (pa_cons (pv 1) (pa_cons (pe_callB call_len_seq (by rfl) B.len PySem.boot_len (pa_cons (pv 0) pa_nil)) pa_nil))) (pe_one (pe_callB (cr_all rfl) (by rfl) B.all boot_all (pa_cons (pe_lc (own := [("use", 2)]) (g := gName 2) (tt := tYes) (by rfl) sc_are_uses.nd (pi_tup (pv 1)) (blkOk_by (own := [("use", 2)]) (N := nm_are_uses) (sc := defScope s_are_uses) (by decide +kernel)) (fun _ _ _ _ _ => pg_name (i := 2) sc_are_uses.nd rfl (Or.inl rfl)) (fun _ _ _ _ _ => pts_nil) (fun _ _ _ _ _ => (pe_and (pe_f F1 (hr.mono (by decide)) pass0 (pa_cons (pv 2) pa_nil)) (pe_one (pe_cmpR op_ge (pv 2) pe_int (nomark _)))))) pa_nil)))))), ?_⟩
    walk_at "nf"
    walk_at "sx"
    refine ⟨zs, .inr hs, uv, d, _, rfl, hu, _, rfl, ?_⟩
    rw [hl]
    cases e0 : isTn d rs.length with
    | false =>
      refine iteF ?_
      have e : areUsesD rs.length d = false := by
        cases d with
        | tuple ds =>
          have : ¬ ds.length = rs.length := by simp [isTn] at e0; omega
          simp [areUsesD, this]
        | _ => rfl
      have := k H (Same.refl _)
      rwa [e] at this
    | true =>
      obtain ⟨ds, rfl, hdl⟩ := isTn_tup e0
      have hdl2 : ds.length = rs.length := by omega
      obtain ⟨b, ws, rfl, hb, ha⟩ := hu.tup_inv
      have hlw := ha.length
      refine iteT ⟨_, rfl, b, rfl, ⟨_, hb⟩, fun L hL => lcS (walk_tup (K := K) (a := b) (xs := ws)) hL (by rw [hlw]; exact slt (by omega)) (fun i y => y = V.bl (isNatD (ds.getD i .none))) (fun H1 e => Same.seqT e hb) (fun i x H1 H2 Q1 hi1 e y q => ?_) (fun H1 ys e hy hn hr => ?_)⟩
      · obtain ⟨rfl, hx⟩ := y
        obtain ⟨d, hd1, hd2⟩ := ha.getV hx
        have ed : ds.getD i .none = d := by rw [List.getD_eq_getElem?_getD, hd1]; rfl
        rw [ed] at q
        walk_at "nf"
        walk_at "sx"
        refine ⟨x, d, rfl, hd2.to e, _, rfl, ?_⟩
        cases hd2 with
        | int i => exact iteT ⟨i, rfl, q _ _ rfl (Same.refl _)⟩
        | _ => exact iteF (q _ _ rfl (Same.refl _))
      · refine ⟨_, _, rfl, .of (by rw [hy]; exact congrArg (fun z => some (HO.lst z)) (vals_bl hn hr)), ?_⟩
        have e2 : (((List.range ws.length).map fun i => isNatD (ds.getD i .none)).all id) = areUsesD rs.length (.tuple ds) := by
          rw [hlw]
          simp only [areUsesD, hdl2, decide_true, Bool.true_and, List.all_map]
          rw [← hdl2, Bool.eq_iff_iff]
          simp only [List.all_eq_true, List.mem_range, Function.comp, id]
          constructor
          · intro h x hx
            obtain ⟨i, hi, rfl⟩ := List.mem_iff_getElem.mp hx
            have := h i hi
            simpa [hi] using this
          · intro h i hi
            have := h ds[i] (List.getElem_mem hi)
            simpa [hi] using this
        rw [e2]
        exact k _ e
end
end Ws
/-! ## E46b -/
namespace Ws
open PySem PySem.Spec PyProof.Rows L2 RZ Gm
local macro_rules | `(tactic| walk_at "nf") => `(tactic| dsimp only [tNext, tSeq, tDrop, tRet, tRetN, tIfS, tAsg, gName, gTup, gCons, gNil, tVar, tC, tOp, tUn, rI, rI0, rU, rEq, rNe, tTest, tChain, tAnd, tOr, tNot, tAndV, tOrV, tNotV, tIf, tCB, tCKw, tCons, tNil, tTup, tLst, tCa, tCallS, tB, rIxT, rIxL, rIxS, cxOf, Cx.nox, Cx.wish, Cx.blk, L2.start, tPar, tPar3, tNever, tYes, tBits, tRz, tBM, rAppend, tyV, tXf, suiteEnds, gSub, rSetL, tBreak, rMax, tDGet, sDPut, tSl, tNoPart, tPart, tDisp, tPairs, tDGet2, tDNewK, tAugS, ipI, rGetL, tDIn, tDNotIn, tBM0, rPop])
local macro_rules | `(tactic| walk_at "sx") => `(tactic| simp only [wipe, List.cons.injEq, and_assoc, exists_and_left, and_true, List.map_cons, List.map_nil, List.length_cons, List.length_nil, List.cons_append, List.nil_append, List.append_nil, Nat.reduceAdd, Nat.reduceSub, List.replicate, List.getElem?_cons_zero, List.getElem?_cons_succ, List.set_cons_zero, List.set_cons_succ, Option.some.injEq, V.int.injEq, V.bl.injEq, V.ref.injEq, V.str.injEq, exists_eq_left', exists_eq_left, true_and, Bool.true_eq_false, Bool.false_eq_true, if_true, if_false])

/-! ### balanced -/
theorem lefts_app (v : Nat) : ∀ (ps : List (Ru × Nat)) (p : Ru × Nat) (s : Int), lefts v (ps ++ [p]) s = lefts v ps s + (p.2 : Int) * ((xs p.1.2).count v : Nat) - (if p.1.1 = v then (p.2 : Int) else 0)
  | [], p, s => rfl
  | q :: ps, p, s => lefts_app v ps p _
theorem lets_app (l : Nat) : ∀ (ps : List (Ru × Nat)) (p : Ru × Nat) (s : Int), lets l (ps ++ [p]) s = lets l ps s + (p.2 : Int) * ((Gm.ls p.1.2).count l : Nat)
  | [], p, s => rfl
  | q :: ps, p, s => lets_app l ps p _
def mk4 (M : Nat → Int) : List V := [.int (M 0), .int (M 1), .int (M 2), .int (M 3)]
def upM (v : Nat) (x : Int) (M : Nat → Int) : Nat → Int := fun w => if w = v then x else M w
theorem mk4_at {M : Nat → Int} {v : Nat} (h : v < 4) : atI (mk4 M) (v : Int) = some (.int (M v)) := atI_nat (by
  match v, h with
  | 0, _ => rfl
  | 1, _ => rfl
  | 2, _ => rfl
  | 3, _ => rfl)
theorem mk4_set {M : Nat → Int} {v : Nat} {x : Int} (h : v < 4) : (mk4 M).set v (.int x) = mk4 (upM v x M) := by
  match v, h with
  | 0, _ => rfl
  | 1, _ => rfl
  | 2, _ => rfl
  | 3, _ => rfl
theorem mk4_ix {M : Nat → Int} {v : Nat} (h : v < 4) : ixN (mk4 M).length (v : Int) = some v := by
  unfold ixN
  rw [if_pos (by omega), if_pos (by show (v : Int) < 4; omega), Int.toNat_natCast]
theorem ps_at {rs : List Ru} {u : List Nat} {i : Nat} {r : Ru} {n : Nat} (h1 : rs[i]? = some r) (h2 : u[i]? = some n) : (psOf rs u)[i]? = some (r, n) := by
  unfold psOf
  rw [List.getElem?_zip_eq_some]
  exact ⟨h1, h2⟩
theorem take_at {α : Type} {l : List α} {i : Nat} {x : α} (h : l[i]? = some x) : l.take (i + 1) = l.take i ++ [x] := by
  obtain ⟨hi, e⟩ := List.getElem?_eq_some_iff.mp h
  rw [List.take_succ_eq_append_getElem hi, e]
theorem balB_mk (rs : List Ru) (u : List Nat) : (!([lefts 0 (psOf rs u) 1, lefts 1 (psOf rs u) 0, lefts 2 (psOf rs u) 0, lefts 3 (psOf rs u) 0] : List Int).any fun n => n != 0) = balB rs u := by
  unfold balB
  simp only [List.any_cons, List.any_nil, Bool.or_false, show List.range 4 = [0, 1, 2, 3] from rfl, List.all_cons, List.all_nil, Bool.and_true, if_true, show ¬((1 : Nat) = 0) by decide, show ¬((2 : Nat) = 0) by decide, show ¬((3 : Nat) = 0) by decide, if_false, bne]
  simp only [Bool.not_or, Bool.not_not, Bool.not_bne]
  rfl
def spBal (K : PySem.W.Frag) : Sp := fun vs H Q _ => ∃ (rv uv : V) (m : Nat) (rs : List Ru) (u : List Nat), vs = [rv, uv] ∧ Dp K H rv (rulesD rs) ∧ Dp K H uv (rowD u) ∧ GOk m rs ∧ u.length = rs.length ∧ ∀ H', Same H H' → Q (.bl (balB rs u)) H'
def spCon (K : PySem.W.Frag) : Sp := fun vs H Q _ => ∃ (rv : V) (b a : Addr) (m : Nat) (rs : List Ru) (u A : List Nat), vs = [rv, .ref b, .ref a] ∧ Dp K H rv (rulesD rs) ∧ (SqT K H b ((nI u).map V.int) ∨ SqL K H b ((nI u).map V.int)) ∧ SqL K H a ((nI A).map V.int) ∧ (∀ v ∈ A, v < 4) ∧ A.length ≤ 10000 ∧ GOk m rs ∧ u.length = rs.length ∧ ∀ H', Same H H' → Q (.bl (conB rs u (metN (psOf rs u) 4 A))) H'
abbrev s_are_balanced : Stmt := top 19
abbrev nm_are_balanced : List Str := ["rules", "uses", "made", "rule", "use", "variable"]
abbrev pr_are_balanced : List Str := ["rules", "uses"]
theorem sc_are_balanced : FnScope nm_are_balanced pr_are_balanced (defScope s_are_balanced) := ⟨rfl, rfl, rfl, by decide +kernel, rfl, by decide +kernel, by decide +kernel⟩
abbrev s_are_connected : Stmt := top 20
abbrev nm_are_connected : List Str := ["rules", "uses", "variables", "variable", "reached", "waiting", "rule", "use", "each"]
abbrev pr_are_connected : List Str := ["rules", "uses", "variables"]
theorem sc_are_connected : FnScope nm_are_connected pr_are_connected (defScope s_are_connected) := ⟨rfl, rfl, rfl, by decide +kernel, rfl, by decide +kernel, by decide +kernel⟩
section
variable {P : Program} {w : World} {K : PySem.W.Frag} {mg : Str → Option Value} {base : Heap} {BG BP : Addr}
theorem ok_bal (B : Bl mg) (F1 : Df P w K mg base CX0 1 "variables_of" pr_variables_of (spVars K)) (D : Dt K mg "are_balanced" s_are_balanced pr_are_balanced) : Df P w K mg base CX0 2 "are_balanced" pr_are_balanced (spBal K) := by
  refine D.ok sc_are_balanced (fun vs H Q E h => ?_) (fun f cdv A outer s H vs Q E hr h => ?_)
  · obtain ⟨rv, uv, m, rs, u, rfl, _⟩ := h
    rfl
  · obtain ⟨rv, uv, m, rs, u, rfl, hd, hu, o, hul, k⟩ := h
    obtain ⟨a, zs, rfl, hs, hl, hat, _⟩ := tup_view hd
    obtain ⟨b, rfl, hb⟩ := row_view hu
    have lu : ((nI u).map V.int).length = u.length := by rw [List.length_map, nI_length]
    refine ⟨_, (pss_cons (ps_set (i := 2) sc_are_balanced.nd rfl (Or.inl rfl) (pe_lst (pa_cons pe_int (pa_cons pe_int (pa_cons pe_int (pa_cons pe_int pa_nil)))))) (pss_cons (ps_for PassesOwn.never rfl (pi_zipA (by rfl) B.zip (pa_cons (pv 0) (pa_cons (pv 1) pa_nil))) (pg_tup rfl (pgs_cons (pg_name (i := 3) sc_are_balanced.nd rfl (Or.inl rfl)) (pgs_cons (pg_name (i := 4) sc_are_balanced.nd rfl (Or.inl rfl)) pgs_nil))) (pss_cons (ps_augS (pv 2) (pe_ix ix_tup (pv 3) pe_int (fun _ _ => rfl)) get_list (pv 4) ip_sub set_list) (pss_one (ps_for PassesOwn.never rfl (pi_list (pe_f F1 (hr.mono (by decide)) pass0 (pa_cons (pv 3) pa_nil))) (pg_name (i := 5) sc_are_balanced.nd rfl (Or.inl rfl)) (pss_one (ps_augS (pv 2) (pv 5) get_list (pv 4) ip_add set_list)))))) (pss_one (ps_ret (pe_not (pe_callB (cr_anyI rfl) (by rfl) B.any boot_any (pa_cons (pv 2) pa_nil))))))), ?_⟩
    walk_at "nf"
    walk_at "sx"
    refine ⟨by decide, fun q hq => ?_⟩
    have s0 : Same H (upd H q (HO.lst [V.int 1, V.int 0, V.int 0, V.int 0])) := Same.new hq
    let Z : Nat → Nat → Int := fun i v => lefts v ((psOf rs u).take i) (if v = 0 then 1 else 0)
    refine ⟨_, rfl, _, rfl, a, b, _, _, rfl, .inr ⟨s0.seqT hs, s0.seqT hb, for_it walk_zipT (fun i σ H' => Same H H' ∧ H' q = some (.lst (mk4 (Z i))) ∧ ∃ v3 v4 v5, σ = [some (.ref a), some (.ref b), some (.ref q), v3, v4, v5]) ⟨s0, upd_same, _, _, _, rfl⟩ (fun i σ H' _ p => ⟨p.1.seqT hs, p.1.seqT hb⟩) (fun i x σ H1 H2 hi p y => ?_) (fun σ H1 p => ?_)⟩⟩
    · obtain ⟨s1, hq1, v3, v4, v5, rfl⟩ := p
      obtain ⟨T, x1, x2, rfl, hT, rfl, h1, h2⟩ := y
      obtain ⟨r, hr1, hdr⟩ := hat i x1 h1
      obtain ⟨n, hn1, rfl⟩ := nI_get h2
      have hrm := List.mem_of_getElem? hr1
      have s2 : Same H1 (upd H1 T (.tup [x1, V.int (n : Nat)])) := Same.new hT
      obtain ⟨p1, u1, rfl, hs1, hd1⟩ := ru_v ((hdr.to s1).to s2)
      have h4 := (o.small r hrm).1
      have hq2 : upd H1 T (.tup [V.ref p1, V.int (n : Nat)]) q = some (.lst (mk4 (Z i))) := s2 _ _ hq1
      have nq : ∀ {H3 : Hp} {x : HO}, Same H1 H3 → Same H (upd H3 q x) := fun {H3 x} e => (s1.trans e).mut hq
      walk_at "nf"
      refine ⟨T, _, rfl, .of upd_same, rfl, ?_⟩
      walk_at "sx"
      refine ⟨_, hs1, _, rfl, _, (r.1 : Int), rfl, .of hq2, by omega, _, mk4_at h4, _, rfl, _, (r.1 : Int), rfl, hq2, r.1, mk4_ix h4, ?_⟩
      rw [mk4_set h4]
      have hs3 : Same H (upd (upd H1 T (.tup [V.ref p1, V.int (n : Nat)])) q (.lst (mk4 (upM r.1 (Z i r.1 - n) (Z i))))) := nq s2
      have hd3 : Dp K (upd (upd H1 T (.tup [V.ref p1, V.int (n : Nat)])) q (.lst (mk4 (upM r.1 (Z i r.1 - n) (Z i))))) (.ref p1) (ruD r) := keepL hq2 (noList_ru r) ((hdr.to s1).to s2)
      refine ⟨_, rfl, _, r, rfl, hd3, by have := o.body r hrm; omega, fun H4 p e4 hp0 hp4 => ⟨p, rfl, ⟨_, .of hp4⟩, ?_⟩⟩
      have hq4 : H4 q = some (.lst (mk4 (upM r.1 (Z i r.1 - n) (Z i)))) := e4 _ _ upd_same
      have npq : p ≠ q := fun z => by rw [z, upd_same] at hp0; cases hp0
      refine for_it walk_list (fun j σ H' => Same H H' ∧ H' p = some (.lst ((nI (xs r.2)).map V.int)) ∧ H' q = some (.lst (mk4 fun v => upM r.1 (Z i r.1 - n) (Z i) v + n * (((xs r.2).take j).count v : Nat))) ∧ ∃ v5, σ = [some (.ref a), some (.ref b), some (.ref q), some (.ref p1), some (.int (n : Nat)), v5]) ⟨hs3.trans e4, hp4, ?_, _, rfl⟩ (fun j σ H' _ p => .of p.2.1) (fun j x σ H5 H6 hj p y => ?_) (fun σ H5 p => ?_)
      · rw [hq4]
        simp
      · obtain ⟨s5, hp5, hq5, v5, rfl⟩ := p
        obtain ⟨rfl, hx⟩ := y
        obtain ⟨v, hv, rfl⟩ := nI_get hx
        have hv4 := (o.small r hrm).2 v (List.mem_of_getElem? hv)
        walk_at "nf"
        walk_at "sx"
        refine ⟨_, .of hq5, by omega, _, mk4_at hv4, _, rfl, _, hq5, v, mk4_ix hv4, ?_⟩
        rw [mk4_set hv4]
        refine ⟨s5.mut hq, by rw [upd_ne npq]; exact hp5, ?_⟩
        rw [upd_same]
        refine ⟨congrArg (fun M => some (HO.lst (mk4 M))) (funext fun z => ?_), _, rfl⟩
        unfold upM
        rw [take_at hv, List.count_append]
        by_cases c : z = v
        · subst c
          simp [Int.mul_add, Int.add_assoc]
        · have c2 : ¬ v = z := fun e => c e.symm
          simp [c, c2, List.count_cons]
      · obtain ⟨s5, hp5, hq5, v5, rfl⟩ := p
        refine ⟨s5, ?_, _, _, _, rfl⟩
        rw [hq5]
        refine congrArg (fun M => some (HO.lst (mk4 M))) (funext fun z => ?_)
        have et : (nI (xs r.2)).length = (xs r.2).length := nI_length _
        show upM r.1 (Z i r.1 - n) (Z i) z + n * (((xs r.2).take ((nI (xs r.2)).map V.int).length).count z : Nat) = lefts z ((psOf rs u).take (i + 1)) _
        rw [List.length_map, et, List.take_length, take_at (ps_at hr1 hn1), lefts_app]
        unfold upM
        by_cases c : z = r.1
        · subst c
          simp [Z]
          omega
        · have c2 : ¬ r.1 = z := fun e => c e.symm
          simp [c, c2, Z]
    · obtain ⟨s1, hq1, v3, v4, v5, rfl⟩ := p
      walk_at "nf"
      have hm : min zs.length ((nI u).map V.int).length = rs.length := by rw [hl, lu, hul, Nat.min_self]
      rw [hm] at hq1
      have ez : mk4 (Z rs.length) = ([lefts 0 (psOf rs u) 1, lefts 1 (psOf rs u) 0, lefts 2 (psOf rs u) 0, lefts 3 (psOf rs u) 0] : List Int).map V.int := by
        have : (psOf rs u).take rs.length = psOf rs u := List.take_of_length_le (by unfold psOf; rw [List.length_zip]; omega)
        simp only [mk4, Z, this]
        rfl
      rw [ez] at hq1
      refine ⟨_, rfl, _, _, rfl, .of hq1, _, rfl, ?_⟩
      rw [balB_mk]
      exact k _ s1
/-! ### connected -/
def dkR (R : List Nat) : List (Key × V) := R.map fun (n : Nat) => ((.inl (n : Int) : Key), V.bl true)
theorem dkR_in {R : List Nat} (v : Nat) : valV (dkR R) (.inl (v : Int) : Key) = if v ∈ R then some (.bl true) else none := by
  induction R with
  | nil => rfl
  | cons n R ih =>
    by_cases c : n = v
    · subst c
      simp [dkR, valV]
    · have c2 : ¬ v = n := fun e => c e.symm
      have e : valV (dkR (n :: R)) (.inl (v : Int) : Key) = valV (dkR R) (.inl (v : Int) : Key) := by
        have : ¬ ((n : Int) = (v : Int)) := by omega
        simp [dkR, valV, List.find?, this]
      rw [e, ih]
      simp [c2]
theorem dg_R {H : Hp} {d : Addr} {R : List Nat} (h : H d = some (.dK (dkR R))) (v : Nat) : DGet H d (.int (v : Nat)) (if v ∈ R then some (.bl true) else none) := by
  have := DGet.k (k := (.inl (v : Int) : Key)) h
  rwa [dkR_in] at this
theorem dp_R {H : Hp} {d : Addr} {R : List Nat} (h : H d = some (.dK (dkR R))) (v : Nat) (n : v ∉ R) (hl : R.length < sizeLine) : DPut H d (.int (v : Nat)) (.bl true) (upd H d (.dK (dkR (R ++ [v])))) := by
  have e : putK (dkR R) (.inl (v : Int) : Key) (.bl true) = dkR (R ++ [v]) := by
    have e : ((dkR R).any fun kv => decide (kv.1 = (.inl (v : Int) : Key))) = false := by
      rw [Bool.eq_false_iff]
      intro z
      obtain ⟨kv, h1, h2⟩ := List.any_eq_true.mp z
      obtain ⟨x, hx, rfl⟩ := List.mem_map.mp h1
      have h3 : (.inl (x : Int) : Key) = .inl (v : Int) := of_decide_eq_true h2
      have h4 := Sum.inl.inj h3
      have : x = v := by omega
      exact n (this ▸ hx)
    unfold putK
    rw [e]
    simp [dkR]
  rw [← e]
  exact DPut.k (k := (.inl (v : Int) : Key)) h (by simpa [dkR] using hl)
structure Cst (A : List Nat) (rs : List Ru) (u : List Nat) (R W : List Nat) (ex : Nat → Prop) : Prop where
  sub : ∀ y ∈ W, y ∈ R
  zero : ∀ y ∈ A, y ∈ R
  reach : ∀ y ∈ R, Reach rs (gOf u) A y
  nd : R.Nodup
  lt : ∀ y ∈ R, y < 4
  cl : ∀ y ∈ R, y ∉ W → ex y ∨ ∀ p ∈ psOf rs u, 0 < p.2 → p.1.1 = y → ∀ z ∈ xs p.1.2, z ∈ R
theorem Cst.len {A : List Nat} {rs : List Ru} {u R W : List Nat} {ex : Nat → Prop} (c : Cst A rs u R W ex) : R.length ≤ 4 := by
  have := List.Nodup.length_le_of_subset c.nd (l₂ := List.range 4) fun y hy => List.mem_range.mpr (c.lt y hy)
  simpa using this
theorem Cst.add {A : List Nat} {rs : List Ru} {u R W : List Nat} {ex : Nat → Prop} (c : Cst A rs u R W ex) {z : Nat} (n : z ∉ R) (h4 : z < 4) (hr : Reach rs (gOf u) A z) : Cst A rs u (R ++ [z]) (W ++ [z]) ex := by
  refine ⟨fun y hy => ?_, fun y hy => List.mem_append.mpr (.inl (c.zero y hy)), fun y hy => ?_, ?_, fun y hy => ?_, fun y hy hw => ?_⟩
  · rcases List.mem_append.mp hy with m | m
    · exact List.mem_append.mpr (.inl (c.sub y m))
    · exact List.mem_append.mpr (.inr m)
  · rcases List.mem_append.mp hy with m | m
    · exact c.reach y m
    · rw [List.mem_singleton.mp m]; exact hr
  · rw [List.nodup_append]
    refine ⟨c.nd, by simp, fun a ha b hb e => ?_⟩
    rw [List.mem_singleton.mp hb] at e
    rw [e] at ha
    exact n ha
  · rcases List.mem_append.mp hy with m | m
    · exact c.lt y m
    · rw [List.mem_singleton.mp m]; exact h4
  · rcases List.mem_append.mp hy with m | m
    · rcases c.cl y m (fun q => hw (List.mem_append.mpr (.inl q))) with q | q
      · exact .inl q
      · exact .inr fun p hp h1 h2 x hx => List.mem_append.mpr (.inl (q p hp h1 h2 x hx))
    · exact absurd (List.mem_append.mpr (.inr m)) hw
theorem Cst.pop {A : List Nat} {rs : List Ru} {u R W : List Nat} (c : Cst A rs u R W fun _ => False) {v : Nat} (hv : W[W.length - 1]? = some v) : Cst A rs u R W.dropLast (fun y => y = v) ∧ v ∈ R := by
  have hne : W ≠ [] := fun z => by rw [z] at hv; cases hv
  have hlast : W.getLast hne = v := by
    have e : W[W.length - 1]? = some (W.getLast hne) := by rw [← List.getLast?_eq_getElem?, List.getLast?_eq_some_getLast hne]
    rw [e] at hv
    exact Option.some.inj hv
  have e : W.dropLast ++ [v] = W := by rw [← hlast]; exact List.dropLast_concat_getLast hne
  have hmem : v ∈ W := by rw [← e]; exact List.mem_append.mpr (.inr (List.mem_singleton.mpr rfl))
  refine ⟨⟨fun y hy => c.sub y (List.dropLast_subset _ hy), c.zero, c.reach, c.nd, c.lt, fun y hy hw => ?_⟩, c.sub v hmem⟩
  by_cases z : y = v
  · exact .inl z
  · rcases c.cl y hy (fun q => by
      rw [← e] at q
      rcases List.mem_append.mp q with q | q
      · exact hw q
      · exact z (List.mem_singleton.mp q)) with q | q
    · exact q.elim
    · exact .inr q
theorem Cst.done {A : List Nat} {rs : List Ru} {u R : List Nat} (hl : u.length = rs.length) (c : Cst A rs u R [] fun _ => False) (v : Nat) : v ∈ R ↔ Reach rs (gOf u) A v :=
  ⟨c.reach v, closed_all hl c.zero fun p hp h1 h2 => (c.cl _ h2 (by simp)).elim False.elim fun q => q p hp h1 rfl⟩
theorem conB_congr {rs : List Ru} {u f g : List Nat} (h : ∀ v, v ∈ f ↔ v ∈ g) : conB rs u f = conB rs u g := by
  unfold conB
  congr 1
  funext p
  have : f.contains p.1.1 = g.contains p.1.1 := by
    rw [Bool.eq_iff_iff]
    simpa using h p.1.1
  rw [this]
theorem conB_range (rs : List Ru) (u R : List Nat) (h : u.length = rs.length) : (((List.range rs.length).map fun i => (u.getD i 0 == 0 || R.contains (rs.getD i (0, [])).1)).all id) = conB rs u R := by
  unfold conB psOf
  induction rs generalizing u with
  | nil => cases u <;> rfl
  | cons r rs ih =>
    cases u with
    | nil => simp at h
    | cons n u =>
      have := ih u (by simpa using h)
      rw [List.length_cons, List.range_succ_eq_map, List.map_cons, List.all_cons, List.map_map, List.zip_cons_cons, List.all_cons, ← this]
      rfl
def hlen : Option HO → Nat
  | some (.dK kvs) => kvs.length
  | some (.lst xs) => xs.length
  | _ => 0
theorem dkR_len (R : List Nat) : (dkR R).length = R.length := by simp [dkR]
theorem nIv_len (R : List Nat) : ((nI R).map V.int).length = R.length := by rw [List.length_map, nI_length]
theorem nIv_last {W : List Nat} {v : Nat} (h : W[W.length - 1]? = some v) : ((nI W).map V.int)[((nI W).map V.int).length - 1]? = some (.int (v : Nat)) := by
  rw [nIv_len]
  simp [nI, h]
theorem nIv_drop (W : List Nat) : ((nI W).map V.int).dropLast = (nI W.dropLast).map V.int := by simp [nI, List.map_dropLast]
theorem nIv_app (W : List Nat) (z : Nat) : (nI W).map V.int ++ [V.int (z : Nat)] = (nI (W ++ [z])).map V.int := by simp [nI]
theorem Cst.whole {A : List Nat} {rs : List Ru} {u R W : List Nat} {v : Nat} (c : Cst A rs u R W fun y => y = v) (h : ∀ p ∈ psOf rs u, 0 < p.2 → p.1.1 = v → ∀ z ∈ xs p.1.2, z ∈ R) : Cst A rs u R W fun _ => False :=
  ⟨c.sub, c.zero, c.reach, c.nd, c.lt, fun y hy hw => (c.cl y hy hw).elim (fun e => .inr (e ▸ h)) .inr⟩
theorem putR {R : List Nat} {n : Nat} : putK (dkR R) (.inl (n : Int) : Key) (.bl true) = dkR (if n ∈ R then R else R ++ [n]) := by
  by_cases c : n ∈ R
  · rw [if_pos c]
    have e : ((dkR R).any fun kv => decide (kv.1 = (.inl (n : Int) : Key))) = true := by
      refine List.any_eq_true.mpr ⟨_, List.mem_map.mpr ⟨n, c, rfl⟩, ?_⟩
      simp
    unfold putK
    rw [e]
    show (dkR R).map _ = dkR R
    unfold dkR
    rw [List.map_map]
    refine List.map_congr_left fun m _ => ?_
    show (if _ then _ else _) = _
    split
    · rename_i q
      rfl
    · rfl
  · rw [if_neg c]
    have e : ((dkR R).any fun kv => decide (kv.1 = (.inl (n : Int) : Key))) = false := by
      rw [Bool.eq_false_iff]
      intro z
      obtain ⟨kv, h1, h2⟩ := List.any_eq_true.mp z
      obtain ⟨x, hx, rfl⟩ := List.mem_map.mp h1
      have h3 : (.inl (x : Int) : Key) = .inl (n : Int) := of_decide_eq_true h2
      have h4 := Sum.inl.inj h3
      have : x = n := by omega
      exact c (this ▸ hx)
    unfold putK
    rw [e]
    simp [dkR]
theorem nodup4 {R : List Nat} (nd : R.Nodup) (lt : ∀ y ∈ R, y < 4) : R.length ≤ 4 := by
  have := List.Nodup.length_le_of_subset nd (l₂ := List.range 4) fun y hy => List.mem_range.mpr (lt y hy)
  simpa using this
theorem ok_con (B : Bl mg) (F1 : Df P w K mg base CX0 1 "variables_of" pr_variables_of (spVars K)) (D : Dt K mg "are_connected" s_are_connected pr_are_connected) : Df P w K mg base CX0 2 "are_connected" pr_are_connected (spCon K) := by
  refine D.ok sc_are_connected (fun vs H Q E h => ?_) (fun f cdv A outer s H vs Q E hr h => ?_)
  · obtain ⟨rv, b, a, m, rs, u, AA, rfl, _⟩ := h
    rfl
  · obtain ⟨rv, b, av, m, rs, u, AA, rfl, hd, hb, hav, hA4, hAl, o, hul, k⟩ := h
    obtain ⟨a, zs, rfl, hs, hl, hat, _⟩ := tup_view hd
    have lu : ((nI u).map V.int).length = u.length := by rw [List.length_map, nI_length]
    refine ⟨_, (pss_cons (ps_set (i := 4) sc_are_connected.nd rfl (Or.inr rfl) (pe_dc (own := [("variable", 3)]) (g := gName 3) (tt := tYes) (by rfl) sc_are_connected.nd (pi_list (pv 2)) (blkOk_by (own := [("variable", 3)]) (N := nm_are_connected) (sc := defScope s_are_connected) (by decide +kernel)) (fun _ _ _ _ _ => pg_name (i := 3) sc_are_connected.nd rfl (Or.inl rfl)) (fun _ _ _ _ _ => pts_nil) (fun _ _ _ _ _ => (pv 3)) (fun _ _ _ _ _ => pe_bl))) (pss_cons (ps_set (i := 5) sc_are_connected.nd rfl (Or.inl rfl) (pe_callTy (call_list_dK rfl) (by rfl) B.list PyProof.Rows.boot_list (pa_cons (pv 4) pa_nil))) (pss_cons (ps_while PassesOwn.never (pt_truth (pv 5) (by intro _; rfl)) (pss_cons (ps_set (i := 3) sc_are_connected.nd rfl (Or.inl rfl) (pe_bm0 PySem.F.plainAttrs_list PySem.F.slot_list_pop PySem.F.type_list_pop mt_pop (pv 5))) (pss_one (ps_for PassesOwn.never rfl (pi_zipB (by rfl) B.zip (pa_cons (pv 0) (pa_cons (pv 1) pa_nil))) (pg_tup rfl (pgs_cons (pg_name (i := 6) sc_are_connected.nd rfl (Or.inl rfl)) (pgs_cons (pg_name (i := 7) sc_are_connected.nd rfl (Or.inl rfl)) pgs_nil))) (pss_one (ps_if (PW.pt (pw_and (pt_cmpR op_gt (pv 7) pe_int (nomark _)) (pw_and1 (pt_cmpR op_eq (pe_ix (show IxR _ (rIxT K) from ix_tup) (pv 6) pe_int (fun _ _ => rfl)) (pv 3) (nomark _))))) (pss_one (ps_for PassesOwn.never rfl (pi_list (pe_f F1 (hr.mono (by decide)) pass0 (pa_cons (pv 6) pa_nil))) (pg_name (i := 8) sc_are_connected.nd rfl (Or.inl rfl)) (pss_one (ps_if (pt_cmp (pc_dnotin (hu_of hr) (pv 8) (pv 4))) (pss_cons (ps_dput (hu_of hr) (pv 4) (pv 8) pe_bl rfl) (pss_one (ps_expr (pe_bm PySem.F.plainAttrs_list PySem.F.slot_list_append PySem.F.type_list_append mt_append (pv 5) (pa_cons (pv 8) pa_nil))))) pss_nil)))) pss_nil)))))) (pss_one (ps_ret (pe_callB (cr_all rfl) (by rfl) B.all boot_all (pa_cons (pe_lc (own := [("rule", 6), ("use", 7)]) (g := gTup K 2 (gCons (gName 6) (gCons (gName 7) gNil))) (tt := tYes) (by rfl) sc_are_connected.nd (pi_zipB (by rfl) B.zip (pa_cons (pv 0) (pa_cons (pv 1) pa_nil))) (blkOk_by (own := [("rule", 6), ("use", 7)]) (N := nm_are_connected) (sc := defScope s_are_connected) (by decide +kernel)) (fun _ _ _ _ _ => pg_tup rfl (pgs_cons (pg_name (i := 6) sc_are_connected.nd rfl (Or.inl rfl)) (pgs_cons (pg_name (i := 7) sc_are_connected.nd rfl (Or.inl rfl)) pgs_nil))) (fun _ _ _ _ _ => pts_nil) (fun _ _ _ _ _ => (pe_or (pe_cmpR op_eq (pv 7) pe_int (nomark _)) (pe_one (pe_cmp (pc_din (hu_of hr) (pe_ix (show IxR _ (rIxT K) from ix_tup) (pv 6) pe_int (fun _ _ => rfl)) (pv 4)) rfl))))) pa_nil))))))), ?_⟩
    walk_at "nf"
    walk_at "sx"
    have dcp : ∀ d, H d = none → Same H (upd H d (.dK [])) := fun d hd => Same.new hd
    refine ⟨_, rfl, av, rfl, ⟨_, hav⟩, fun d hd0 => dc_walk walk_list (fun i H' => Same H H' ∧ ∃ R, H' d = some (.dK (dkR R)) ∧ R.Nodup ∧ ∀ v, v ∈ R ↔ v ∈ AA.take i) ⟨Same.new hd0, [], upd_same, .nil, by simp⟩ (fun i H' _ p => p.1.seq hav) (fun i x Ha Hb hi p y => ?_) (fun H1 p => ?_)⟩
    · obtain ⟨s1, R, h1, nd, me⟩ := p
      obtain ⟨rfl, hx⟩ := y
      obtain ⟨n, hn, rfl⟩ := nI_get hx
      have lt4 : ∀ y ∈ R, y < 4 := fun y hy => hA4 y (List.mem_of_mem_take ((me y).mp hy))
      walk_at "nf"
      walk_at "sx"
      refine ⟨_, (.inl (n : Int) : Key), rfl, h1, by rw [dkR_len]; exact slt (by have := nodup4 nd lt4; omega), s1.mut hd0, (if n ∈ R then R else R ++ [n]), by rw [upd_same, putR], ?_, fun v => ?_⟩
      · split
        · exact nd
        · rename_i c
          rw [List.nodup_append]
          refine ⟨nd, by simp, fun a ha b hb e => ?_⟩
          rw [List.mem_singleton.mp hb] at e
          exact c (e ▸ ha)
      · rw [take_at hn, List.mem_append, List.mem_singleton, ← me v]
        split
        · rename_i c
          constructor
          · exact .inl
          · rintro (q | rfl)
            · exact q
            · exact c
        · rw [List.mem_append, List.mem_singleton]
    · obtain ⟨s1, R0, h1, nd0, me0⟩ := p
      have me0 : ∀ v, v ∈ R0 ↔ v ∈ AA := fun v => by rw [me0 v, nIv_len, List.take_length]
      have lt0 : ∀ y ∈ R0, y < 4 := fun y hy => hA4 y ((me0 y).mp hy)
      have l0 := nodup4 nd0 lt0
      have ek : (dkR R0).map (fun kv => kV kv.1) = (nI R0).map V.int := by
        unfold dkR nI
        rw [List.map_map, List.map_map]
        rfl
      refine ⟨d, _, rfl, h1, fun w hw0 => ?_⟩
      have nwd : w ≠ d := fun z => by rw [z, h1] at hw0; cases hw0
      have hwH : H w = none := by
        cases e : H w with
        | none => rfl
        | some o => rw [s1 _ _ e] at hw0; cases hw0
      refine while_by (fun σ H' => ∃ R W v3 v6 v7 v8, σ = [some (.ref a), some (.ref b), some (.ref av), v3, some (.ref d), some (.ref w), v6, v7, v8] ∧ Same H H' ∧ H' d = some (.dK (dkR R)) ∧ H' w = some (.lst ((nI W).map V.int)) ∧ 2 * (4 - R.length) + W.length ≤ 8 ∧ Cst AA rs u R W fun _ => False)
        (fun _ H' => 2 * (4 - hlen (H' d)) + hlen (H' w)) ⟨R0, R0, _, _, _, _, rfl, s1.then_new hw0, by rw [upd_ne (Ne.symm nwd)]; exact h1, by rw [upd_same, ek], by omega, ⟨fun y hy => hy, fun y hy => (me0 y).mpr hy, fun y hy => .base ((me0 y).mp hy), nd0, lt0, fun y hy hn => absurd hy hn⟩⟩ (fun σ H' p => ?_) (fun σ H' Q Q' hq ⟨v, h, kk, t, q⟩ => ⟨v, h, kk, t, hq _ _ q⟩)
      obtain ⟨R, W, v3, v6, v7, v8, rfl, s2, hd2, hw2, le7, c⟩ := p
      refine ⟨_, rfl, !((nI W).map V.int).isEmpty, .inl ⟨_, .of hw2, rfl⟩, ?_⟩
      cases W with
      | nil =>
        refine iteF ?_
        have hcon := conB_congr (rs := rs) (u := u) fun v => (c.done hul v).trans (met_iff hul o.small (A := AA) hA4 v).symm
        walk_at "nf"
        refine ⟨_, rfl, _, rfl, a, b, rfl, zipB_core s2 hs hb fun J G wk hG => fun L hL => lcS wk hL (by rw [hl, lu, hul, Nat.min_self]; exact slt (by have := o.l2; omega)) (fun i y => y = V.bl (u.getD i 0 == 0 || R.contains (rs.getD i (0, [])).1)) (fun H1 e => hG _ (s2.trans e)) (fun i x H1 H2 Q1 hi1 e y q => ?_) (fun H1 ys e hy hn hr => ?_)⟩
        · obtain ⟨T, x1, x2, rfl, hT, rfl, h1', h2⟩ := y
          obtain ⟨r, hr1, hdr⟩ := hat i x1 h1'
          obtain ⟨n, hn1, rfl⟩ := nI_get h2
          have s3 : Same H1 (upd H1 T (.tup [x1, V.int (n : Nat)])) := Same.new hT
          obtain ⟨p1, u1, rfl, hs1, hd1⟩ := ru_v (((hdr.to s2).to e).to s3)
          have er : rs.getD i (0, []) = r := by rw [List.getD_eq_getElem?_getD, hr1]; rfl
          have en : u.getD i 0 = n := by rw [List.getD_eq_getElem?_getD, hn1]; rfl
          rw [er, en] at q
          walk_at "nf"
          refine ⟨T, _, rfl, .of upd_same, rfl, ?_⟩
          walk_at "sx"
          refine ⟨rfl, ?_⟩
          by_cases z : n = 0
          · subst z
            exact iteT (q _ _ (by simp) s3)
          · rw [decide_eq_false (by omega)]
            refine iteF ⟨_, hs1, _, rfl, _, dg_R (s3 _ _ (e _ _ hd2)) r.1, q _ _ ?_ s3⟩
            have e0 : (n == 0) = false := by simpa using z
            rw [e0, Bool.false_or]
            by_cases c2 : r.1 ∈ R
            · simp [c2]
            · simp [c2]
        · refine ⟨_, _, rfl, .of (by rw [hy]; exact congrArg (fun z => some (HO.lst z)) (vals_bl hn hr)), ?_⟩
          have hm : min zs.length ((nI u).map V.int).length = rs.length := by rw [hl, lu, hul, Nat.min_self]
          rw [hm, conB_range rs u R hul, hcon]
          exact k _ (s2.trans e)
      | cons y0 W0 =>
        refine iteT ?_
        generalize hWe : y0 :: W0 = W at c hw2 le7
        obtain ⟨v, hv⟩ : ∃ v, W[W.length - 1]? = some v := by
          subst hWe
          exact ⟨_, List.getElem?_eq_getElem (by simp)⟩
        obtain ⟨cp, hvR⟩ := c.pop hv
        have e1 : hlen (H' d) = R.length := by rw [hd2]; exact dkR_len R
        have e2 : hlen (H' w) = W.length := by rw [hw2]; exact nIv_len W
        have hWp : 0 < W.length := by subst hWe; simp
        have ndw : d ≠ w := Ne.symm nwd
        walk_at "nf"
        walk_at "sx"
        refine ⟨.inl ⟨_, .of hw2⟩, _, hw2, _, nIv_last hv, ?_⟩
        rw [nIv_drop]
        have s3 : Same H (upd H' w (.lst ((nI W.dropLast).map V.int))) := s2.mut hwH
        have hm : min zs.length ((nI u).map V.int).length = rs.length := by rw [hl, lu, hul, Nat.min_self]
        have hdl : W.dropLast.length = W.length - 1 := List.length_dropLast
        have cl := cp.len
        refine ⟨_, rfl, _, rfl, a, b, rfl, zipB_core s3 hs hb fun J G wk hG => for_it wk (fun i σ H6 => ∃ R2 W2 v6 v7 v8, σ = [some (.ref a), some (.ref b), some (.ref av), some (.int (v : Nat)), some (.ref d), some (.ref w), v6, v7, v8] ∧ Same H H6 ∧ H6 d = some (.dK (dkR R2)) ∧ H6 w = some (.lst ((nI W2).map V.int)) ∧ Cst AA rs u R2 W2 (fun y => y = v) ∧ v ∈ R2 ∧ 2 * (4 - R2.length) + W2.length < 2 * (4 - R.length) + W.length ∧ ∀ p ∈ (psOf rs u).take i, 0 < p.2 → p.1.1 = v → ∀ z ∈ xs p.1.2, z ∈ R2)
          ⟨R, W.dropLast, _, _, _, rfl, s3, by rw [upd_ne ndw]; exact hd2, upd_same, cp, hvR, by omega, fun p hp => by simp at hp⟩ (fun i σ H6 _ p => by obtain ⟨R2, W2, v6, v7, v8, _, s6, _⟩ := p; exact hG _ s6) (fun i x σ H6 H7 hi p y => ?_) (fun σ H6 p => ?_)⟩
        · obtain ⟨R2, W2, v6, v7, v8, rfl, s6, hd6, hw6, c6, vR6, ms6, pr6⟩ := p
          obtain ⟨T, x1, x2, rfl, hT, rfl, h1', h2⟩ := y
          obtain ⟨r, hr1, hdr⟩ := hat i x1 h1'
          obtain ⟨n, hn1, rfl⟩ := nI_get h2
          have hrm := List.mem_of_getElem? hr1
          have s7 : Same H6 (upd H6 T (.tup [x1, V.int (n : Nat)])) := Same.new hT
          obtain ⟨p1, u1, rfl, hs1, hd1⟩ := ru_v ((hdr.to s6).to s7)
          have hps := take_at (ps_at hr1 hn1)
          have en : gOf u i = n := by unfold gOf; rw [List.getD_eq_getElem?_getD, hn1]; rfl
          have skip : ¬(0 < n ∧ r.1 = v) → ∀ p ∈ (psOf rs u).take (i + 1), 0 < p.2 → p.1.1 = v → ∀ z ∈ xs p.1.2, z ∈ R2 := fun no p hp h1 h2 => by
            rw [hps] at hp
            rcases List.mem_append.mp hp with m | m
            · exact pr6 p m h1 h2
            · rw [List.mem_singleton.mp m] at h1 h2
              exact absurd ⟨h1, h2⟩ no
          walk_at "nf"
          refine ⟨T, _, rfl, .of upd_same, rfl, ?_⟩
          walk_at "sx"
          by_cases n0 : 0 < n
          · rw [decide_eq_true (by omega)]
            refine iteT ⟨_, hs1, _, rfl, rfl, ?_⟩
            by_cases rv : r.1 = v
            · rw [decide_eq_true (by rw [rv])]
              refine iteT ⟨_, rfl, _, r, rfl, (hdr.to s6).to s7, by have := o.body r hrm; omega, fun H8 p e8 hp0 hp8 => ⟨p, rfl, ⟨_, .of hp8⟩, ?_⟩⟩
              have hps8 : ∀ {x : Addr} {ob : HO}, (upd H6 T (.tup [V.ref p1, V.int (n : Nat)])) x = some ob → p ≠ x := fun {x ob} hx z => by rw [z, hx] at hp0; cases hp0
              have npd := hps8 (s7 _ _ hd6)
              have npw := hps8 (s7 _ _ hw6)
              refine for_it walk_list (fun j σ H9 => ∃ R3 W3 v8, σ = [some (.ref a), some (.ref b), some (.ref av), some (.int (v : Nat)), some (.ref d), some (.ref w), some (.ref p1), some (.int (n : Nat)), v8] ∧ Same H H9 ∧ H9 d = some (.dK (dkR R3)) ∧ H9 w = some (.lst ((nI W3).map V.int)) ∧ H9 p = some (.lst ((nI (xs r.2)).map V.int)) ∧ Cst AA rs u R3 W3 (fun y => y = v) ∧ v ∈ R3 ∧ 2 * (4 - R3.length) + W3.length < 2 * (4 - R.length) + W.length ∧ (∀ p ∈ (psOf rs u).take i, 0 < p.2 → p.1.1 = v → ∀ z ∈ xs p.1.2, z ∈ R3) ∧ ∀ z ∈ (xs r.2).take j, z ∈ R3)
                ⟨R2, W2, _, rfl, (s6.trans s7).trans e8, e8 _ _ (s7 _ _ hd6), e8 _ _ (s7 _ _ hw6), hp8, c6, vR6, ms6, pr6, fun z hz => by simp at hz⟩ (fun j σ H9 _ p => by obtain ⟨R3, W3, v8, _, _, _, _, h, _⟩ := p; exact .of h) (fun j x σ H9 H10 hj p y => ?_) (fun σ H9 p => ?_)
              · obtain ⟨R3, W3, v8, rfl, s9, hd9, hw9, hp9, c9, vR9, ms9, pr9, tk9⟩ := p
                obtain ⟨rfl, hx⟩ := y
                obtain ⟨z, hz, rfl⟩ := nI_get hx
                have hzm := List.mem_of_getElem? hz
                have hz4 := (o.small r hrm).2 z hzm
                have l9 := c9.len
                walk_at "nf"
                walk_at "sx"
                refine ⟨_, dg_R hd9 z, ?_⟩
                by_cases zR : z ∈ R3
                · rw [if_pos zR]
                  refine iteF ⟨s9, R3, hd9, W3, hw9, hp9, c9, vR9, ms9, pr9, fun y hy => ?_⟩
                  rw [take_at hz] at hy
                  rcases List.mem_append.mp hy with m | m
                  · exact tk9 y m
                  · rw [List.mem_singleton.mp m]; exact zR
                · rw [if_neg zR]
                  have hr : Reach rs (gOf u) AA z := .step hr1 (by rw [en]; exact n0) (by rw [rv]; exact c9.reach v vR9) hzm
                  have c10 := c9.add zR hz4 hr
                  have l10 := c10.len
                  rw [List.length_append] at l10
                  have l10 : R3.length + 1 ≤ 4 := l10
                  refine iteT ⟨_, dp_R hd9 z zR (by have h0 : 4 < sizeLine := by decide
                                                    omega), ?_⟩
                  have hw10 : (upd H10 d (.dK (dkR (R3 ++ [z])))) w = some (.lst ((nI W3).map V.int)) := by rw [upd_ne nwd]; exact hw9
                  have s11 : Same H (upd (upd H10 d (.dK (dkR (R3 ++ [z])))) w (.lst ((nI W3).map V.int ++ [V.int (z : Nat)]))) := (s9.mut hd0).mut hwH
                  refine ⟨.inl ⟨_, .of hw10⟩, _, hw10, by rw [nIv_len]; have h0 : 10 < sizeLine := (by decide); omega, s11, R3 ++ [z], by rw [upd_ne ndw, upd_same], W3 ++ [z], by rw [upd_same, nIv_app], by rw [upd_ne npw, upd_ne npd]; exact hp9, c10, List.mem_append.mpr (.inl vR9), by rw [List.length_append, List.length_append, List.length_singleton]; omega, fun q hq h1 h2 y hy => List.mem_append.mpr (.inl (pr9 q hq h1 h2 y hy)), fun y hy => ?_⟩
                  rw [take_at hz] at hy
                  rcases List.mem_append.mp hy with m | m
                  · exact List.mem_append.mpr (.inl (tk9 y m))
                  · exact List.mem_append.mpr (.inr m)
              · obtain ⟨R3, W3, v8, rfl, s9, hd9, hw9, hp9, c9, vR9, ms9, pr9, tk9⟩ := p
                refine ⟨R3, W3, _, _, _, rfl, s9, hd9, hw9, c9, vR9, ms9, fun q hq h1 h2 z hz => ?_⟩
                rw [hps] at hq
                rcases List.mem_append.mp hq with m | m
                · exact pr9 q m h1 h2 z hz
                · rw [List.mem_singleton.mp m] at hz
                  refine tk9 z ?_
                  rw [nIv_len, List.take_length]
                  exact hz
            · rw [decide_eq_false (show ¬ (V.int (r.1 : Nat) = V.int (v : Nat)) from fun z => rv (by have := V.int.inj z; omega))]
              exact iteF ⟨s6.trans s7, R2, s7 _ _ hd6, W2, s7 _ _ hw6, c6, vR6, ms6, skip fun z => rv z.2⟩
          · rw [decide_eq_false (by omega)]
            exact iteF ⟨s6.trans s7, R2, s7 _ _ hd6, W2, s7 _ _ hw6, c6, vR6, ms6, skip fun z => n0 z.1⟩
        · obtain ⟨R2, W2, v6, v7, v8, rfl, s6, hd6, hw6, c6, vR6, ms6, pr6⟩ := p
          rw [hm, show (psOf rs u).take rs.length = psOf rs u from List.take_of_length_le (by unfold psOf; rw [List.length_zip]; omega)] at pr6
          refine ⟨⟨R2, W2, _, _, _, _, rfl, s6, hd6, hw6, by omega, c6.whole pr6⟩, ?_⟩
          rw [e1, e2, hd6, hw6]
          show 2 * (4 - (dkR R2).length) + ((nI W2).map V.int).length < _
          rw [dkR_len, nIv_len]
          exact ms6
end
end Ws
/-! ## E46c -/
namespace Ws
open PySem PySem.Spec PyProof.Rows L2 RZ Gm
local macro_rules | `(tactic| walk_at "nf") => `(tactic| dsimp only [tNext, tSeq, tDrop, tRet, tRetN, tIfS, tAsg, gName, gTup, gCons, gNil, tVar, tC, tOp, tUn, rI, rI0, rU, rEq, rNe, tTest, tChain, tAnd, tOr, tNot, tAndV, tOrV, tNotV, tIf, tCB, tCKw, tCons, tNil, tTup, tLst, tCa, tCallS, tB, rIxT, rIxL, rIxS, cxOf, Cx.nox, Cx.wish, Cx.blk, L2.start, tPar, tPar3, tNever, tYes, tBits, tRz, tBM, rAppend, tyV, tXf, suiteEnds, gSub, rSetL, tBreak, rMax, tDGet, sDPut, tSl, tNoPart, tPart, tDisp, tPairs, tDGet2, tDNewK, tAugS, ipI, rGetL, tDIn, tDNotIn, tBM0, rPop, tBMT, tTupF])
local macro_rules | `(tactic| walk_at "sx") => `(tactic| simp only [wipe, List.cons.injEq, and_assoc, exists_and_left, and_true, List.map_cons, List.map_nil, List.length_cons, List.length_nil, List.cons_append, List.nil_append, List.append_nil, Nat.reduceAdd, Nat.reduceSub, List.replicate, List.getElem?_cons_zero, List.getElem?_cons_succ, List.set_cons_zero, List.set_cons_succ, Option.some.injEq, V.int.injEq, V.bl.injEq, V.ref.injEq, V.str.injEq, exists_eq_left', exists_eq_left, true_and, Bool.true_eq_false, Bool.false_eq_true, if_true, if_false])

/-! ### grammars whose tuples have no dict -/
section
variable {K : PySem.W.Frag} {H : Hp} {v : V}
theorem it_q {t : Itm} (h : Dq K H (itD t) v) : ∃ p, v = .ref p ∧ SqP K H p [.str t.kd, .int (t.no : Nat)] := by
  obtain ⟨p, xs, rfl, hs, ha⟩ := h.tup_inv
  obtain ⟨x, y, rfl, h1, h2⟩ := ha.two
  obtain rfl := h1.str_inv
  obtain rfl := h2.int_inv
  exact ⟨p, rfl, hs⟩
theorem ru_q {r : Ru} (h : Dq K H (ruD r) v) : ∃ p u, v = .ref p ∧ SqP K H p [.int (r.1 : Nat), u] ∧ Dq K H (itsD r.2) u := by
  obtain ⟨p, xs, rfl, hs, ha⟩ := h.tup_inv
  obtain ⟨x, y, rfl, h1, h2⟩ := ha.two
  obtain rfl := h1.int_inv
  exact ⟨p, y, rfl, hs, h2⟩
theorem gr_q {m : Nat} {rs : List Ru} (h : Dq K H (grD m rs) v) : ∃ p u, v = .ref p ∧ SqP K H p [.int (m : Nat), u] ∧ Dq K H (rulesD rs) u := by
  obtain ⟨p, xs, rfl, hs, ha⟩ := h.tup_inv
  obtain ⟨x, y, rfl, h1, h2⟩ := ha.two
  obtain rfl := h1.int_inv
  exact ⟨p, y, rfl, hs, h2⟩
end
/-! ### uses, letters -/
theorem uses_of {n : Nat} {d : PyData} (h : areUsesD n d = true) : ∃ u : List Nat, d = rowD u ∧ u.length = n := by
  cases d with
  | tuple ds =>
    have h2 : decide (ds.length = n) && ds.all isNatD := h
    simp only [Bool.and_eq_true, decide_eq_true_eq, List.all_eq_true] at h2
    obtain ⟨hl, ha⟩ := h2
    clear h
    suffices ∃ u : List Nat, ds = (nI u).map PyData.int by
      obtain ⟨u, rfl⟩ := this
      exact ⟨u, rfl, by rw [← hl, List.length_map, nI_length]⟩
    clear hl
    induction ds with
    | nil => exact ⟨[], rfl⟩
    | cons d ds ih =>
      obtain ⟨u, rfl⟩ := ih fun x hx => ha x (List.mem_cons_of_mem _ hx)
      have := ha d (List.mem_cons_self ..)
      cases d with
      | int i =>
        have hi : 0 ≤ i := of_decide_eq_true this
        obtain ⟨k, rfl⟩ : ∃ k : Nat, i = (k : Nat) := ⟨i.toNat, by omega⟩
        exact ⟨k :: u, rfl⟩
      | _ => cases this
  | _ => cases h
theorem rowD_inj {u v : List Nat} (h : rowD u = rowD v) : u = v := by
  have e := PyData.tuple.inj h
  have e2 := List.map_inj_right (f := PyData.int) (fun x y z => PyData.int.inj z) |>.mp e
  exact List.map_inj_right (f := fun (n : Nat) => (n : Int)) (fun x y z => by omega) |>.mp e2
theorem areUses_row {n : Nat} {u : List Nat} (h : u.length = n) : areUsesD n (rowD u) = true := by
  show (decide (((nI u).map PyData.int).length = n) && ((nI u).map PyData.int).all isNatD) = true
  rw [List.length_map, nI_length, decide_eq_true h, Bool.true_and, List.all_eq_true]
  intro x hx
  obtain ⟨i, hi, rfl⟩ := List.mem_map.mp hx
  obtain ⟨k, _, rfl⟩ := List.mem_map.mp hi
  show decide ((0 : Int) ≤ (k : Nat)) = true
  exact decide_eq_true (by omega)
def letsD (m : Nat) (rs : List Ru) (u : List Nat) : PyData := .tuple ((List.range m).map fun l => .int (lets l (psOf rs u) 0))
def spIsUses (K : PySem.W.Frag) (BG : Addr) : Sp := fun vs H Q E => ∃ (gv uv : V) (gd d : PyData), vs = [gv, uv] ∧ Dp K H gv gd ∧ Dp K H uv d ∧
  ((∃ p, gFault gd = some p ∧ OutF K BG "place" p H E) ∨ ∃ m rs, gd = grD m rs ∧ GOk m rs ∧ (areUsesD rs.length d = false → ∀ H', Same H H' → Q (.bl false) H') ∧ ∀ u, d = rowD u → u.length = rs.length → ∀ H', Same H H' → Q (.bl (useB rs u)) H')
abbrev s_is_uses : Stmt := top 21
abbrev nm_is_uses : List Str := ["grammar", "uses", "rules"]
abbrev pr_is_uses : List Str := ["grammar", "uses"]
theorem sc_is_uses : FnScope nm_is_uses pr_is_uses (defScope s_is_uses) := ⟨rfl, rfl, rfl, by decide +kernel, rfl, by decide +kernel, by decide +kernel⟩
section
variable {P : Program} {w : World} {K : PySem.W.Frag} {mg : Str → Option Value} {base : Heap} {BG BP : Addr}
theorem ok_is_uses (F1 : Df P w K mg base (L2.CX P w) 5 "need_grammar" pr_need_grammar (spNeedGr K BG)) (F2 : Df P w K mg base CX0 2 "are_uses" pr_are_uses (spAreUses K)) (F3 : Df P w K mg base CX0 2 "are_balanced" pr_are_balanced (spBal K)) (F4 : Df P w K mg base CX0 2 "are_connected" pr_are_connected (spCon K))
    (D : Dt K mg "is_uses" s_is_uses pr_is_uses) : Df P w K mg base (L2.CX P w) 6 "is_uses" pr_is_uses (spIsUses K BG) := by
  refine D.okX sc_is_uses (fun vs H Q E h => ?_) (fun f cdv A outer s H vs Q E hr h => ?_)
  · obtain ⟨gv, uv, gd, d, rfl, _⟩ := h
    rfl
  · obtain ⟨gv, uv, gd, d, rfl, hg, hu, k⟩ := h
    refine ⟨_, (pss_cons (ps_set (i := 2) sc_is_uses.nd rfl (Or.inl rfl) (pe_ix ix_tup (pe_f (E := E) F1 (hr.mono (by decide)) (passes_call (takes_of rfl rfl rfl rfl) fun _ _ _ _ h => h) (pa_cons (pv 0) pa_nil)) pe_int (fun _ _ => rfl))) (pss_one (ps_ret (pe_and (pe_f F2 (hr.mono (by decide)) pass0 (pa_cons (pv 2) (pa_cons (pv 1) pa_nil))) (pe_and (pe_f F3 (hr.mono (by decide)) pass0 (pa_cons (pv 2) (pa_cons (pv 1) pa_nil))) (pe_one (pe_f F4 (hr.mono (by decide)) pass0 (pa_cons (pv 2) (pa_cons (pv 1) (pa_cons (pe_lst (pa_cons pe_int pa_nil)) pa_nil)))))))))), ?_⟩
    walk_at "nf"
    walk_at "sx"
    refine ⟨gv, gd, rfl, hg, fun e H1 s1 => ?_, fun p e => ?_⟩
    · rcases k with ⟨p, e2, _⟩ | ⟨m, rs, rfl, o, k0, k1⟩
      · rw [e] at e2; cases e2
      · obtain ⟨a, rv, rfl, hs, hrs⟩ := gr_v (hg.to s1)
        refine ⟨a, rfl, _, hs, rv, rfl, rv, uv, rs, d, rfl, hrs, hu.to s1, by have := o.l2; omega, fun H2 s2 => ⟨_, rfl, ?_⟩⟩
        cases e3 : areUsesD rs.length d with
        | false => exact iteF (k0 e3 _ (s1.trans s2))
        | true =>
          obtain ⟨u, rfl, hl⟩ := uses_of e3
          obtain ⟨ub, rfl, hub⟩ := row_view hu
          refine iteT ⟨rv, .ref ub, m, rs, u, rfl, hrs.to s2, (hu.to s1).to s2, o, hl, fun H3 s3 => ⟨_, rfl, ?_⟩⟩
          have s4 := (s1.trans s2).trans s3
          have kk := k1 u rfl hl
          unfold useB at kk
          cases e4 : balB rs u with
          | false =>
            rw [e4, Bool.false_and] at kk
            exact iteF (kk _ s4)
          | true =>
            rw [e4, Bool.true_and] at kk
            refine iteT ⟨by decide, fun q hq => ⟨rv, ub, q, m, rs, u, [0], rfl, ((hrs.to s2).to s3).to (Same.new hq), .inl ((s4.then_new hq).seqT hub), .of upd_same, by simp, by decide, o, hl, fun H5 s5 => kk _ ((s4.then_new hq).trans s5)⟩⟩
    · rcases k with ⟨p2, e2, ho⟩ | ⟨m, rs, rfl, o, k0, k1⟩
      · rw [e] at e2
        cases e2
        exact ho
      · rw [gOk_none o] at e; cases e
theorem eqv_it (t : Itm) (l : Nat) : PyData.eqv (itD t) (itD (.L l)) = decide (t = .L l) := by
  cases t with
  | L n =>
    show (((("letter" : Str) == "letter") && (((n : Nat) : Int) == ((l : Nat) : Int) && true))) = _
    by_cases c : n = l
    · subst c; simp
    · have : ¬ ((n : Int) = (l : Int)) := by omega
      simp [c, this]
  | X n =>
    show ((("variable" : Str) == "letter") && ((((n : Nat) : Int) == ((l : Nat) : Int)) && true)) = _
    have : (("variable" : Str) == "letter") = false := by decide +kernel
    rw [this, Bool.false_and]
    simp
theorem count_L (its : List Itm) (l : Nat) : ((its.map itD).countP fun z => PyData.eqv z (itD (.L l))) = (Gm.ls its).count l := by
  induction its with
  | nil => rfl
  | cons t r ih =>
    rw [List.map_cons, List.countP_cons, ih, eqv_it]
    cases t with
    | L n =>
      show _ = (n :: Gm.ls r).count l
      rw [List.count_cons]
      by_cases c : n = l
      · subst c; simp
      · simp [c]
    | X n =>
      show _ = (Gm.ls r).count l
      simp
theorem eqv_itX (t : Itm) (l : Nat) : PyData.eqv (itD t) (itD (.X l)) = decide (t = .X l) := by
  cases t with
  | X n =>
    show (((("variable" : Str) == "variable") && (((n : Nat) : Int) == ((l : Nat) : Int) && true))) = _
    by_cases c : n = l
    · subst c; simp
    · have : ¬ ((n : Int) = (l : Int)) := by omega
      simp [c, this]
  | L n =>
    show ((("letter" : Str) == "variable") && ((((n : Nat) : Int) == ((l : Nat) : Int)) && true)) = _
    have : (("letter" : Str) == "variable") = false := by decide +kernel
    rw [this, Bool.false_and]
    simp
theorem count_X (its : List Itm) (l : Nat) : ((its.map itD).countP fun z => PyData.eqv z (itD (.X l))) = (xs its).count l := by
  induction its with
  | nil => rfl
  | cons t r ih =>
    rw [List.map_cons, List.countP_cons, ih, eqv_itX]
    cases t with
    | X n =>
      show _ = (n :: xs r).count l
      rw [List.count_cons]
      by_cases c : n = l
      · subst c; simp
      · simp [c]
    | L n =>
      show _ = (xs r).count l
      simp
theorem kd_ok : ∀ t : Itm, PyData.strOk t.kd = true
  | .L _ => by show PyData.strOk ("letter" : Str) = true; decide +kernel
  | .X _ => by show PyData.strOk ("variable" : Str) = true; decide +kernel
theorem lay_its (its : List Itm) : SeqAt.shaped (itsD its) = true := by
  have h1 : ∀ l : List Itm, PyData.canLayAll0 (l.map itD) = true := fun l => by
    induction l with
    | nil => rfl
    | cons t r ih => simp only [List.map_cons, PyData.canLayAll0, ih, Bool.and_true]; simp only [itD, PyData.canLay0, PyData.canLayAll0, Bool.and_true]; exact kd_ok t
  have h2 : ∀ l : List Itm, PyData.depthAll (l.map itD) ≤ 1 := fun l => by
    induction l with
    | nil => exact Nat.zero_le _
    | cons t r ih =>
      show max (PyData.depth (itD t)) (PyData.depthAll (r.map itD)) ≤ 1
      have : PyData.depth (itD t) = 1 := rfl
      omega
  have d : (itsD its).depth ≤ 2 := by
    have := h2 its
    show PyData.depthAll (its.map itD) + 1 ≤ 2
    omega
  unfold SeqAt.shaped
  rw [show (itsD its).canLay0 = PyData.canLayAll0 (its.map itD) from rfl, h1 its, Bool.true_and]
  exact decide_eq_true (by omega)
theorem lets_range (rs : List Ru) (u : List Nat) (l : Nat) (h : u.length = rs.length) : ((List.range rs.length).map fun i => (u.getD i 0 : Int) * ((Gm.ls (rs.getD i (0, [])).2).count l : Nat)).sum = lets l (psOf rs u) 0 := by
  have gen : ∀ (rs : List Ru) (u : List Nat) (s : Int), u.length = rs.length → lets l (psOf rs u) s = s + ((List.range rs.length).map fun i => (u.getD i 0 : Int) * ((Gm.ls (rs.getD i (0, [])).2).count l : Nat)).sum := fun rs => by
    induction rs with
    | nil => intro u s h; cases u <;> simp [psOf, lets]
    | cons r rs ih =>
      intro u s h
      cases u with
      | nil => simp at h
      | cons n u =>
        have := ih u (s + (n : Int) * ((Gm.ls r.2).count l : Nat)) (by simpa using h)
        rw [show lets l (psOf (r :: rs) (n :: u)) s = lets l (psOf rs u) (s + (n : Int) * ((Gm.ls r.2).count l : Nat)) from rfl, this, List.length_cons, List.range_succ_eq_map, List.map_cons, List.sum_cons, List.map_map]
        simp [Function.comp_def]
        omega
  rw [gen rs u 0 h]
  omega
end
end Ws
/-! ## E46d -/
namespace Ws
open PySem PySem.Spec PyProof.Rows L2 RZ Gm
local macro_rules | `(tactic| walk_at "nf") => `(tactic| dsimp only [tNext, tSeq, tDrop, tRet, tRetN, tIfS, tAsg, gName, gTup, gCons, gNil, tVar, tC, tOp, tUn, rI, rI0, rU, rEq, rNe, tTest, tChain, tAnd, tOr, tNot, tAndV, tOrV, tNotV, tIf, tCB, tCKw, tCons, tNil, tTup, tLst, tCa, tCallS, tB, rIxT, rIxL, rIxS, cxOf, Cx.nox, Cx.wish, Cx.blk, L2.start, tPar, tPar3, tNever, tYes, tBits, tRz, tBM, rAppend, tyV, tXf, suiteEnds, gSub, rSetL, tBreak, rMax, tDGet, sDPut, tSl, tNoPart, tPart, tDisp, tPairs, tDGet2, tDNewK, tAugS, ipI, rGetL, tDIn, tDNotIn, tBM0, rPop, tBMT, tTupF])
local macro_rules | `(tactic| walk_at "sx") => `(tactic| simp only [wipe, List.cons.injEq, and_assoc, exists_and_left, and_true, List.map_cons, List.map_nil, List.length_cons, List.length_nil, List.cons_append, List.nil_append, List.append_nil, Nat.reduceAdd, Nat.reduceSub, List.replicate, List.getElem?_cons_zero, List.getElem?_cons_succ, List.set_cons_zero, List.set_cons_succ, Option.some.injEq, V.int.injEq, V.bl.injEq, V.ref.injEq, V.str.injEq, exists_eq_left', exists_eq_left, true_and, Bool.true_eq_false, Bool.false_eq_true, if_true, if_false])

/-! ### slices, sums of tuples without a dict -/
theorem cutV_from (xs : List V) (k : Nat) : cutV xs (some (k : Int)) none = xs.drop k := by
  unfold cutV
  rw [HT.sIx_nat, HT.sIx_none]
  by_cases h : k ≤ xs.length
  · rw [Nat.min_eq_left h, List.take_of_length_le (by rw [List.length_drop]; omega)]
  · rw [Nat.min_eq_right (by omega), List.drop_eq_nil_of_le (Nat.le_refl _), List.drop_eq_nil_of_le (by omega)]
    simp
theorem cutV_to (xs : List V) (k : Nat) : cutV xs none (some (k : Int)) = xs.take k := by
  unfold cutV
  rw [HT.sIx_nat, HT.sIx_none, List.drop_zero, Nat.sub_zero]
  by_cases h : k ≤ xs.length
  · rw [Nat.min_eq_left h]
  · rw [Nat.min_eq_right (by omega), List.take_of_length_le (Nat.le_refl _), List.take_of_length_le (by omega)]
section
variable {K : PySem.W.Frag} {H : Hp}
theorem catF_ok {a b : Addr} {xs ys : List V} {Q : VK} (h1 : SqP K H a xs) (h2 : SqP K H b ys) (hz : xs.length + ys.length ≤ 100000) (q : ∀ r H', Same H H' → SqP K H' r (xs ++ ys) → Q (.ref r) H') : rCatF K (.ref a) (.ref b) H Q := by
  refine ⟨a, b, xs, ys, rfl, rfl, h1.sq, h2.sq, by rw [sizeLine_eq]; omega, fun e => ?_, fun _ e => ?_, fun _ _ p o hp ho => q p _ (Same.new hp) (.new ho)⟩
  · subst e
    exact q b H (Same.refl _) h2
  · subst e
    exact q a H (Same.refl _) (by rw [List.append_nil]; exact h1)
theorem slF_ok {a : Addr} {xs : List V} {lo hi : Option Int} {Q : VK} (h1 : SqP K H a xs) (q : ∀ r H', Same H H' → SqP K H' r (cutV xs lo hi) → Q (.ref r) H') : rSlF K (.ref a) lo hi H Q := by
  refine ⟨a, xs, rfl, h1.sq, fun e => q a H (Same.refl _) ?_, fun _ p o hp ho => q p _ (Same.new hp) (.new ho)⟩
  have : cutV xs lo hi = xs := by
    unfold cutV
    rw [e.1, e.2]
    simp
  rw [this]
  exact h1
end
/-- a comprehension of data whose items draw -/
theorem lcQ {K : PySem.W.Frag} {J : L2.It} {n : Nat} {G : Hp → Prop} {Y : Nat → Hp → V → Hp → Prop} (w : Walk J n G Y) {g : TG} {te : TE} {vs : List Nat} {σ : L2.St} {H1 : Hp} {D : Addr} {Qd : Hp → Prop} {a l c : Addr} {m : Nat} (st : Nat) (hD : H1 D = none) (hn : n < sizeLine) (P : Nat → PyData → Prop)
    (hl : LSt H1 a l c m) (hG : ∀ H, Sbt a l H1 H → G H)
    (hs : ∀ i x H H' (Q : VK), i < n → Sbt a l H1 H → LSt H a l c (m + i * st) → Y i H x H' → (∀ y H4 d, P i d → Dq K H4 d y → Sbt a l H H4 → LSt H4 a l c (m + (i + 1) * st) → Q y H4) → g x (wipe σ vs) H' fun σ2 H2 => wipe σ2 vs = wipe σ vs ∧ te σ2 H2 Q)
    (hd : ∀ H ys ds, Sbt a l H1 H → LSt H a l c (m + n * st) → H D = some (.lst ys) → DqA K H ds ys → ds.length = n → (∀ i d, ds[i]? = some d → P i d) → Qd H) :
    ∃ W : Nat → Nat → Hp → Prop, (∃ m, W 0 m (upd H1 D (.lst []))) ∧ ∀ i m H, W i m H →
      (J.stop i H ∧ Qd H) ∨ (J.go i H ∧ ∃ Nx : Hp → Prop, (∀ H', Nx H' → ∃ m', m' < m ∧ W (i + 1) m' H') ∧ ∀ x H', J.yld i H x H' → g x (wipe σ vs) H' fun σ2 H2 => wipe σ2 vs = wipe σ vs ∧ tYes σ2 H2 fun b H3 =>
        if b = true then te σ2 H3 fun y H4 => ∃ acc, H4 D = some (.lst acc) ∧ acc.length < sizeLine ∧ Nx (upd H4 D (.lst (acc ++ [y]))) else Nx H3) := by
  obtain ⟨da, dl, dc⟩ := hl.off hD
  let Pv : Nat → Hp → Prop := fun i H => Sbt a l H1 H ∧ LSt H a l c (m + i * st) ∧ ∃ ys ds, H D = some (.lst ys) ∧ DqA K H ds ys ∧ ds.length = i ∧ ∀ j d, ds[j]? = some d → P j d
  refine lc_it w Pv ⟨(Sbt.refl H1).mut hD, by rw [Nat.zero_mul]; exact hl.new hD, [], [], upd_same, .nil_, rfl, fun j y h => by simp at h⟩ (fun i H _ p => hG H p.1) (fun i x H H' hi p y => ?_) (fun H p => ?_)
  · obtain ⟨s, sl, ys, ds, hy, ha, hlen, hr⟩ := p
    have q := hs i x H H' (fun y H4 => ∃ acc, H4 D = some (.lst acc) ∧ acc.length < sizeLine ∧ Pv (i + 1) (upd H4 D (.lst (acc ++ [y])))) hi s sl y (fun v H4 d r hv s4 sl4 => ?_)
    · have e : (fun σ2 H2 => wipe σ2 vs = wipe σ vs ∧ tYes σ2 H2 fun b H3 =>
        if b = true then te σ2 H3 fun y H4 => ∃ acc, H4 D = some (.lst acc) ∧ acc.length < sizeLine ∧ Pv (i + 1) (upd H4 D (.lst (acc ++ [y]))) else Pv (i + 1) H3) =
        (fun σ2 H2 => wipe σ2 vs = wipe σ vs ∧ te σ2 H2 fun y H4 => ∃ acc, H4 D = some (.lst acc) ∧ acc.length < sizeLine ∧ Pv (i + 1) (upd H4 D (.lst (acc ++ [y])))) := by
        funext σ2 H2
        simp only [tYes, if_true]
      rw [e]
      exact q
    · have hy4 := s4 _ _ hy da dl
      have ha4 := ha.st s4 sl
      refine ⟨ys, hy4, by rw [ha.len]; omega, (Sbt.trans s s4).mut hD, sl4.put da dl dc, ys ++ [v], ds ++ [d], upd_same, (ha4.lst hy4).app (.one_ (hv.lst hy4)), by simp [hlen], fun j z hz => ?_⟩
      by_cases hj : j < ds.length
      · rw [List.getElem?_append_left hj] at hz
        exact hr j z hz
      · rw [List.getElem?_append_right (by omega)] at hz
        have e : j = i := by
          have := (List.getElem?_eq_some_iff.mp hz).1
          simp at this
          omega
        subst e
        rw [hlen, Nat.sub_self] at hz
        simp at hz
        rw [← hz]
        exact r
  · obtain ⟨s, sl, ys, ds, hy, ha, hlen, hr⟩ := p
    exact hd H ys ds s sl hy ha hlen hr
theorem by_f {α : Type} {f : α → PyData} {P : α → Prop} {ds : List PyData} (h : ∀ (i : Nat) d, ds[i]? = some d → ∃ x, d = f x ∧ P x) : ∃ xs : List α, ds = xs.map f ∧ ∀ x ∈ xs, P x := by
  induction ds with
  | nil => exact ⟨[], rfl, by simp⟩
  | cons d ds ih =>
    obtain ⟨xs, rfl, hx⟩ := ih fun i z hi => h (i + 1) z (by simpa using hi)
    obtain ⟨x, rfl, hp⟩ := h 0 d rfl
    refine ⟨x :: xs, rfl, fun y hy => ?_⟩
    rcases List.mem_cons.mp hy with rfl | hy
    · exact hp
    · exact hx y hy
/-! ### what is drawn -/
def ItS (m : Nat) : Itm → Prop
  | .L k => k < m
  | .X k => k < 2
structure DGr (m : Nat) (rs : List Ru) : Prop where
  m1 : 1 ≤ m
  m2 : m ≤ 2
  l1 : 1 ≤ rs.length
  l2 : rs.length ≤ 4
  heads : ∀ r ∈ rs, r.1 < 2
  body : ∀ r ∈ rs, r.2.length ≤ 3
  items : ∀ r ∈ rs, ∀ t ∈ r.2, ItS m t
theorem DGr.ok {m : Nat} {rs : List Ru} (o : DGr m rs) : GOk m rs := by
  have := o.m1
  have := o.m2
  have := o.l1
  have := o.l2
  refine ⟨by omega, by omega, by omega, by omega, fun r hr => ⟨by have := o.heads r hr; omega, fun v hv => ?_⟩, fun r hr => by have := o.body r hr; omega, fun r hr v hv => ?_⟩
  · obtain ⟨t, ht, e⟩ := List.mem_filterMap.mp hv
    have := o.items r hr t ht
    cases t with
    | L k => cases e
    | X k => cases e; have : v < 2 := this; omega
  · obtain ⟨t, ht, e⟩ := List.mem_filterMap.mp hv
    have := o.items r hr t ht
    cases t with
    | X k => cases e
    | L k => cases e; exact this
def spItem (K : PySem.W.Frag) : Sp := fun vs H Q _ => ∃ (a l c : Addr) (n m : Nat), vs = [.ref a, .int (m : Nat)] ∧ LSt H a l c n ∧ n ≤ 900000 ∧ 1 ≤ m ∧ m ≤ 2 ∧ ∀ H' u t, Sbt a l H H' → LSt H' a l c (n + 2) → ItS m t → Dq K H' (itD t) u → Q u H'
def spGrammar (K : PySem.W.Frag) : Sp := fun vs H Q _ => ∃ (a l c : Addr) (n : Nat), vs = [.ref a, .int 4, .int 3] ∧ LSt H a l c n ∧ n ≤ 800000 ∧ ∀ H' u m rs, Sbt a l H H' → LSt H' a l c (n + 60) → DGr m rs → Dq K H' (grD m rs) u → Q u H'
def spSettled (K : PySem.W.Frag) : Sp := fun vs H Q _ => ∃ (iv wv : V) (its : List Itm) (wd : List Nat), vs = [iv, wv] ∧ Dq K H (itsD its) iv ∧ Dq K H (rowD wd) wv ∧ its.length ≤ 10000 ∧ wd.length ≤ 10000 ∧ ∀ H' u, Same H H' → Dq K H' (.tuple [itsD (cut its).1, rowD (wd ++ (cut its).2)]) u → Q u H'
def putD (rs : List Ru) (its : List Itm) (n : Nat) : PyData := match put rs its n with
  | some told => itsD told
  | none => .none
def spPut (K : PySem.W.Frag) : Sp := fun vs H Q _ => ∃ (rv iv : V) (rs : List Ru) (its : List Itm) (n : Nat), vs = [rv, iv, .int (n : Nat)] ∧ Dq K H (rulesD rs) rv ∧ Dq K H (itsD its) iv ∧ Led its ∧ n < rs.length ∧ its.length ≤ 10000 ∧ (∀ r ∈ rs, r.2.length ≤ 10) ∧ ∀ H' u, Same H H' → Dq K H' (putD rs its n) u → Q u H'
def spShortest (K : PySem.W.Frag) : Sp := fun vs H Q _ => ∃ (iv : V) (its : List Itm), vs = [iv] ∧ Dq K H (itsD its) iv ∧ its.length ≤ 10000 ∧ ∀ H', Same H H' → Q (.int ((xs its).length : Nat)) H'
def spCounted (K : PySem.W.Frag) : Sp := fun vs H Q _ => ∃ (wv : V) (m : Nat) (way : List Nat), vs = [.int (m : Nat), wv] ∧ Dq K H (rowD way) wv ∧ m ≤ 100 ∧ way.length ≤ 10000 ∧ ∀ H' u, Same H H' → Dq K H' (rowD (counted m way)) u → Q u H'
abbrev s__law_item : Stmt := top 29
abbrev nm__law_item : List Str := ["state", "letters_so"]
abbrev pr__law_item : List Str := ["state", "letters_so"]
theorem sc__law_item : FnScope nm__law_item pr__law_item (defScope s__law_item) := ⟨rfl, rfl, rfl, by decide +kernel, rfl, by decide +kernel, by decide +kernel⟩
abbrev s__law_grammar : Stmt := top 30
abbrev nm__law_grammar : List Str := ["state", "most", "long_so", "letters_so", "rules_so", "k", "body", "j"]
abbrev pr__law_grammar : List Str := ["state", "most", "long_so"]
theorem sc__law_grammar : FnScope nm__law_grammar pr__law_grammar (defScope s__law_grammar) := ⟨rfl, rfl, rfl, by decide +kernel, rfl, by decide +kernel, by decide +kernel⟩
abbrev s__law_settled : Stmt := top 31
abbrev nm__law_settled : List Str := ["items", "word", "at", "item"]
abbrev pr__law_settled : List Str := ["items", "word"]
theorem sc__law_settled : FnScope nm__law_settled pr__law_settled (defScope s__law_settled) := ⟨rfl, rfl, rfl, by decide +kernel, rfl, by decide +kernel, by decide +kernel⟩
abbrev s__law_put : Stmt := top 32
abbrev nm__law_put : List Str := ["rules_so", "items", "number"]
abbrev pr__law_put : List Str := ["rules_so", "items", "number"]
theorem sc__law_put : FnScope nm__law_put pr__law_put (defScope s__law_put) := ⟨rfl, rfl, rfl, by decide +kernel, rfl, by decide +kernel, by decide +kernel⟩
abbrev s__law_shortest : Stmt := top 34
abbrev nm__law_shortest : List Str := ["items", "item"]
abbrev pr__law_shortest : List Str := ["items"]
theorem sc__law_shortest : FnScope nm__law_shortest pr__law_shortest (defScope s__law_shortest) := ⟨rfl, rfl, rfl, by decide +kernel, rfl, by decide +kernel, by decide +kernel⟩
abbrev s__law_counted : Stmt := top 36
abbrev nm__law_counted : List Str := ["many_so", "way_so", "k"]
abbrev pr__law_counted : List Str := ["many_so", "way_so"]
theorem sc__law_counted : FnScope nm__law_counted pr__law_counted (defScope s__law_counted) := ⟨rfl, rfl, rfl, by decide +kernel, rfl, by decide +kernel, by decide +kernel⟩
section
variable {P : Program} {w : World} {K : PySem.W.Frag} {mg : Str → Option Value} {base : Heap}
theorem ok_item (F1 : Df P w K mg base CX0 2 "_law_draw" pr__law_draw spDrawW) (D : Dt K mg "_law_item" s__law_item pr__law_item) : Df P w K mg base CX0 3 "_law_item" pr__law_item (spItem K) := by
  refine D.ok sc__law_item (fun vs H Q E h => ?_) (fun f cdv A outer s H vs Q E hr h => ?_)
  · obtain ⟨a, l, c, n, m, rfl, _⟩ := h
    rfl
  · obtain ⟨a, l, c, n, m, rfl, hl, hn, m1, m2, k⟩ := h
    refine ⟨_, (pss_cons (ps_if (pt_cmpR op_lt (pe_f F1 (hr.mono (by decide)) pass0 (pa_cons (pv 0) (pa_cons pe_int pa_nil))) pe_int (nomark _)) (pss_one (ps_ret (pe_tupF (pa_cons pe_str (pa_cons (pe_f F1 (hr.mono (by decide)) pass0 (pa_cons (pv 0) (pa_cons (pv 1) pa_nil))) pa_nil))))) pss_nil) (pss_one (ps_ret (pe_tupF (pa_cons pe_str (pa_cons (pe_f F1 (hr.mono (by decide)) pass0 (pa_cons (pv 0) (pa_cons pe_int pa_nil))) pa_nil)))))), ?_⟩
    walk_at "nf"
    walk_at "sx"
    refine ⟨a, l, c, n, 5, rfl, hl, by omega, by decide, by decide, fun H1 r e1 s1 r1 r2 => ⟨r, rfl, ?_⟩⟩
    by_cases c3 : r < 3
    · rw [decide_eq_true c3]
      refine iteT ⟨a, l, c, _, m, rfl, s1, by omega, by omega, by omega, fun H2 z e2 s2 r3 r4 => ⟨by decide, fun p o hp ho => ?_⟩⟩
      obtain ⟨z, rfl⟩ : ∃ y : Nat, z = (y : Nat) := ⟨z.toNat, by omega⟩
      exact k _ _ (.L z) ((e1.trans e2).same (Same.new hp)) ((s2.new hp).mono (by omega)) (by show z < m; omega) (.tup (.new ho) (.cons_ .str_ (.one_ .int_)))
    · rw [decide_eq_false c3]
      refine iteF ⟨a, l, c, _, 2, rfl, s1, by omega, by decide, by decide, fun H2 z e2 s2 r3 r4 => ⟨by decide, fun p o hp ho => ?_⟩⟩
      obtain ⟨z, rfl⟩ : ∃ y : Nat, z = (y : Nat) := ⟨z.toNat, by omega⟩
      exact k _ _ (.X z) ((e1.trans e2).same (Same.new hp)) ((s2.new hp).mono (by omega)) (by show z < 2; omega) (.tup (.new ho) (.cons_ .str_ (.one_ .int_)))
def GInv (K : PySem.W.Frag) (H : Hp) (a l c q : Addr) (n mm k : Nat) (σ : L2.St) (H' : Hp) : Prop := ∃ (rs : List Ru) (ys : List V) (v5 v6 v7 : Option V), σ = [some (V.ref a), some (.int 4), some (.int 3), some (.int (mm : Nat)), some (.ref q), v5, v6, v7] ∧ Sbt a l H H' ∧ LSt H' a l c (n + 2 + 8 * k) ∧ H' q = some (.lst ys) ∧ DqA K H' (rs.map ruD) ys ∧ rs.length = k ∧
  (∀ r ∈ rs, r.1 < 2) ∧ (∀ r ∈ rs, r.2.length ≤ 3) ∧ ∀ r ∈ rs, ∀ t ∈ r.2, ItS mm t
theorem ok_grammar (B : Bl mg) (F1 : Df P w K mg base CX0 2 "_law_draw" pr__law_draw spDrawW) (F2 : Df P w K mg base CX0 3 "_law_item" pr__law_item (spItem K)) (D : Dt K mg "_law_grammar" s__law_grammar pr__law_grammar) : Df P w K mg base CX0 4 "_law_grammar" pr__law_grammar (spGrammar K) := by
  refine D.ok sc__law_grammar (fun vs H Q E h => ?_) (fun f cdv A outer s H vs Q E hr h => ?_)
  · obtain ⟨a, l, c, n, rfl, _⟩ := h
    rfl
  · obtain ⟨a, l, c, n, rfl, hl, hn, k⟩ := h
    refine ⟨_, (pss_cons (ps_asg (pe_tupF (pa_cons (pe_op op_add pe_int (pe_f F1 (hr.mono (by decide)) pass0 (pa_cons (pv 0) (pa_cons pe_int pa_nil)))) (pa_cons (pe_lst pa_nil) pa_nil))) (pg_tup rfl (pgs_cons (pg_name (i := 3) sc__law_grammar.nd rfl (Or.inr rfl)) (pgs_cons (pg_name (i := 4) sc__law_grammar.nd rfl (Or.inl rfl)) pgs_nil)))) (pss_cons (ps_for PassesOwn.never rfl (pi_range1 (by rfl) B.range (pa_cons (pe_op op_add pe_int (pe_f F1 (hr.mono (by decide)) pass0 (pa_cons (pv 0) (pa_cons (pv 1) pa_nil)))) pa_nil)) (pg_name (i := 5) sc__law_grammar.nd rfl (Or.inl rfl)) (pss_cons (ps_set (i := 6) sc__law_grammar.nd rfl (Or.inl rfl) (pe_callTy call_tupleF (by rfl) B.tuple PyProof.Rows.boot_tuple (pa_cons (pe_lc (own := [("j", 7)]) (g := gName 7) (tt := tYes) (by rfl) sc__law_grammar.nd (pi_range1 (by rfl) B.range (pa_cons (pe_f F1 (hr.mono (by decide)) pass0 (pa_cons (pv 0) (pa_cons (pe_op op_add (pv 2) pe_int) pa_nil))) pa_nil)) (blkOk_by (own := [("j", 7)]) (N := nm__law_grammar) (sc := defScope s__law_grammar) (by decide +kernel)) (fun _ _ _ _ _ => pg_name (i := 7) sc__law_grammar.nd rfl (Or.inl rfl)) (fun _ _ _ _ _ => pts_nil) (fun _ _ _ _ _ => (pe_f F2 (hr.mono (by decide)) pass0 (pa_cons (pv 0) (pa_cons (pv 3) pa_nil))))) pa_nil))) (pss_one (ps_expr (pe_bm PySem.F.plainAttrs_list PySem.F.slot_list_append PySem.F.type_list_append mt_append (pv 4) (pa_cons (pe_tupF (pa_cons (pe_ifExp (pt_cmpR op_eq (pv 5) pe_int (nomark _)) pe_int (pe_f F1 (hr.mono (by decide)) pass0 (pa_cons (pv 0) (pa_cons pe_int pa_nil)))) (pa_cons (pv 6) pa_nil))) pa_nil)))))) (pss_one (ps_ret (pe_tupF (pa_cons (pv 3) (pa_cons (pe_callTy call_tupleF (by rfl) B.tuple PyProof.Rows.boot_tuple (pa_cons (pv 4) pa_nil)) pa_nil))))))), ?_⟩
    walk_at "nf"
    walk_at "sx"
    refine ⟨a, l, c, n, 2, rfl, hl, by omega, by decide, by decide, fun H1 r e1 s1 r1 r2 => ⟨r, rfl, by decide, fun q hq => ⟨by decide, fun T o hT ho => ⟨_, .inl (.inr ⟨_, upd_same⟩), rfl, _, _, rfl, _, _, rfl, rfl, ?_⟩⟩⟩⟩
    obtain ⟨mm, em⟩ : ∃ mm : Nat, 1 + r = (mm : Int) := ⟨(1 + r).toNat, by omega⟩
    rw [em]
    have nTq : q ≠ T := fun z => by rw [← z, upd_same] at hT; cases hT
    have e2 : Sbt a l H (upd (upd H1 q (.lst [])) T (.frz o (.tup [V.int (mm : Nat), V.ref q]))) := (e1.same (Same.new hq)).same (Same.new hT)
    have s2 : LSt (upd (upd H1 q (.lst [])) T (.frz o (.tup [V.int (mm : Nat), V.ref q]))) a l c (n + 1) := (s1.new hq).new hT
    have q2 : (upd (upd H1 q (.lst [])) T (.frz o (.tup [V.int (mm : Nat), V.ref q]))) q = some (.lst []) := by rw [upd_ne nTq, upd_same]
    generalize (upd (upd H1 q (.lst [])) T (.frz o (.tup [V.int (mm : Nat), V.ref q]))) = G at e2 s2 q2
    obtain ⟨qa, ql, qc⟩ := s1.off hq
    have hq0 : H q = none := e1.free hq qa ql
    refine ⟨_, rfl, _, rfl, a, l, c, _, 4, rfl, s2, by omega, by decide, by decide, fun H2 z e3 s3 z1 z2 => ⟨1, z, rfl, rfl, _, rfl, by omega, by omega, ?_⟩⟩
    obtain ⟨cn, ec⟩ : ∃ cn : Nat, 1 + z = (cn : Int) := ⟨(1 + z).toNat, by omega⟩
    rw [ec, Int.toNat_natCast]
    refine for_it walk_range (GInv K H a l c q n mm) ⟨[], [], _, _, _, rfl, e2.trans e3, s3.mono (by omega), e3 _ _ q2 qa ql, .nil_, rfl, by simp, by simp, by simp⟩ (fun _ _ _ _ _ => trivial) (fun k x σ H3 H4 hk p y => ?_) (fun σ H3 p => ?_)
    · obtain ⟨rs, ys, v5, v6, v7, rfl, e4, s4, hq4, ha, hl4, P1, P2, P3⟩ := p
      obtain ⟨rfl, rfl⟩ := y
      walk_at "nf"
      refine ⟨_, rfl, _, rfl, 3, 1, rfl, rfl, a, l, c, _, 4, rfl, s4, by omega, by decide, by decide, fun H5 w e5 s5 w1 w2 => ⟨w, rfl, by omega, by omega, fun D hD => ?_⟩⟩
      obtain ⟨w, rfl⟩ : ∃ y : Nat, w = (y : Nat) := ⟨w.toNat, by omega⟩
      rw [Int.toNat_natCast]
      refine lcQ (K := K) walk_range 2 hD (slt (by omega)) (fun _ d => ∃ t, d = itD t ∧ ItS mm t) s5 (fun _ _ => trivial) (fun i x H6 H7 Q1 hi e6 s6 y q6 => ?_) (fun H6 zs ds e6 s6 hD6 ha6 hn6 hR => ?_)
      · obtain ⟨rfl, rfl⟩ := y
        walk_at "nf"
        walk_at "sx"
        exact ⟨a, l, c, _, mm, rfl, s6, by omega, by omega, by omega, fun H8 u t e8 s8 ht hu => q6 _ _ _ ⟨t, rfl, ht⟩ hu e8 (s8.mono (by omega))⟩
      · obtain ⟨its, rfl, hits⟩ := by_f hR
        rw [List.length_map] at hn6
        refine ⟨D, zs, rfl, .inl ⟨.of hD6, fun t o2 ht ho2 => ?_⟩⟩
        have hq6 : (upd H6 t (.frz o2 (.tup zs))) q = some (.lst ys) := Same.new ht _ _ (e6 _ _ (e5 _ _ hq4 qa ql) qa ql)
        have ha7 : DqA K (upd H6 t (.frz o2 (.tup zs))) (rs.map ruD) ys := ((ha.st e5 s4).st e6 s5).new ht
        have hb7 : Dq K (upd H6 t (.frz o2 (.tup zs))) (itsD its) (.ref t) := .tup (.new ho2) (ha6.new ht)
        have s7 := s6.new (o := .frz o2 (.tup zs)) ht
        have e7 : Sbt a l H (upd H6 t (.frz o2 (.tup zs))) := (((e4.trans e5).trans e6).same (Same.new ht))
        generalize (upd H6 t (.frz o2 (.tup zs))) = G7 at hq6 ha7 hb7 s7 e7
        have fin : ∀ (H8 : Hp) (hd : Nat), Sbt a l G7 H8 → LSt H8 a l c (n + 2 + 8 * k + 8) → hd < 2 → ∀ p2 (o3 : Obj), H8 p2 = none → o3.dict = none → GInv K H a l c q n mm (k + 1) [some (V.ref a), some (.int 4), some (.int 3), some (.int (mm : Nat)), some (.ref q), some (.int (0 + (k : Int))), some (.ref t), v7] (upd (upd H8 p2 (.frz o3 (.tup [V.int (hd : Nat), V.ref t]))) q (.lst (ys ++ [V.ref p2]))) := fun H8 hd e8 s8 hh p2 o3 hp2 ho3 => by
          have hq8 := e8 _ _ hq6 qa ql
          have hq9 : (upd H8 p2 (.frz o3 (.tup [V.int (hd : Nat), V.ref t]))) q = some (.lst ys) := Same.new hp2 _ _ hq8
          have hnew : Dq K (upd H8 p2 (.frz o3 (.tup [V.int (hd : Nat), V.ref t]))) (ruD (hd, its)) (.ref p2) := .tup (.new ho3) (.cons_ .int_ (.one_ ((hb7.st e8 s7).new hp2)))
          refine ⟨rs ++ [(hd, its)], ys ++ [.ref p2], _, _, _, rfl, ?_, ?_, upd_same, ?_, by simp [hl4], ?_, ?_, ?_⟩
          · exact ((e7.trans e8).same (Same.new hp2)).mut hq0
          · exact ((s8.new hp2).put qa ql qc).mono (by omega)
          · rw [List.map_append]
            exact ((((ha7.st e8 s7).new hp2).lst hq9)).app (.one_ (hnew.lst hq9))
          · intro r hr
            rcases List.mem_append.mp hr with m | m
            · exact P1 r m
            · rw [List.mem_singleton.mp m]; exact hh
          · intro r hr
            rcases List.mem_append.mp hr with m | m
            · exact P2 r m
            · rw [List.mem_singleton.mp m]; show its.length ≤ 3; omega
          · intro r hr
            rcases List.mem_append.mp hr with m | m
            · exact P3 r m
            · rw [List.mem_singleton.mp m]; exact hits
        have hyl : ys.length < sizeLine := by
          have h0 : 100 < sizeLine := by decide
          have := ha.len
          rw [List.length_map] at this
          omega
        walk_at "nf"
        walk_at "sx"
        refine ⟨.inl ⟨_, .of hq6⟩, rfl, ?_⟩
        by_cases k0 : k = 0
        · rw [decide_eq_true (by rw [k0]; rfl)]
          exact iteT ⟨by decide, fun p2 o3 hp2 ho3 => ⟨_, Same.new hp2 _ _ hq6, hyl, fin G7 0 (Sbt.refl _) (s7.mono (by omega)) (by decide) p2 o3 hp2 ho3⟩⟩
        · rw [decide_eq_false (fun z => k0 (by omega))]
          refine iteF ⟨a, l, c, _, 2, rfl, s7, by omega, by decide, by decide, fun H8 z e8 s8 z1 z2 => ⟨by decide, fun p2 o3 hp2 ho3 => ?_⟩⟩
          obtain ⟨z, rfl⟩ : ∃ y : Nat, z = (y : Nat) := ⟨z.toNat, by omega⟩
          exact ⟨_, Same.new hp2 _ _ (e8 _ _ hq6 qa ql), hyl, fin H8 z e8 (s8.mono (by omega)) (by omega) p2 o3 hp2 ho3⟩
    · obtain ⟨rs, ys, v5, v6, v7, rfl, e4, s4, hq4, ha, hl4, P1, P2, P3⟩ := p
      walk_at "nf"
      walk_at "sx"
      refine ⟨q, ys, rfl, .inl ⟨.of hq4, fun t o2 ht ho2 => ⟨by decide, fun p2 o3 hp2 ho3 => ?_⟩⟩⟩
      refine k _ _ mm rs ((e4.same (Same.new ht)).same (Same.new hp2)) (((s4.new ht).new hp2).mono (by omega)) ⟨by omega, by omega, by omega, by omega, P1, P2, P3⟩ (.tup (.new ho3) (.cons_ .int_ (.one_ (Dq.new (.tup (.new ho2) (ha.new ht)) hp2))))
theorem cut_at : ∀ (its : List Itm) (k : Nat), k ≤ its.length → (∀ j, j < k → isX (its.getD j (.L 0)) = false) → (k = its.length ∨ isX (its.getD k (.L 0)) = true) → cut its = (its.drop k, (its.take k).map Itm.no)
  | [], k, h, _, _ => by
    obtain rfl : k = 0 := by simpa using h
    rfl
  | .X n :: r, 0, _, _, _ => rfl
  | .X n :: r, k + 1, _, h, _ => by
    have := h 0 (by omega)
    cases this
  | .L n :: r, 0, _, _, h => by
    rcases h with h | h
    · simp at h
    · cases h
  | .L n :: r, k + 1, h, h1, h2 => by
    have ih := cut_at r k (by simpa using h) (fun j hj => by have := h1 (j + 1) (by omega); simpa using this) (by
      rcases h2 with h2 | h2
      · exact .inl (by simpa using h2)
      · exact .inr (by simpa using h2))
    show ((cut r).1, n :: (cut r).2) = _
    rw [ih]
    rfl
theorem its_map (its : List Itm) (k : Nat) : (itsD its = .tuple (its.map itD)) ∧ (its.map itD).drop k = (its.drop k).map itD ∧ (its.map itD).take k = (its.take k).map itD := ⟨rfl, List.map_drop.symm, List.map_take.symm⟩
theorem ok_settled (B : Bl mg) (D : Dt K mg "_law_settled" s__law_settled pr__law_settled) : Df P w K mg base CX0 1 "_law_settled" pr__law_settled (spSettled K) := by
  refine D.ok sc__law_settled (fun vs H Q E h => ?_) (fun f cdv A outer s H vs Q E hr h => ?_)
  · obtain ⟨iv, wv, its, wd, rfl, _⟩ := h
    rfl
  · obtain ⟨iv, wv, its, wd, rfl, hi, hw, z1, z2, k⟩ := h
    obtain ⟨p, zs, rfl, hp, hl, hat, hall⟩ := q_view hi
    obtain ⟨b, rfl, hb⟩ := hw.row_inv
    refine ⟨_, (pss_cons (ps_set (i := 2) sc__law_settled.nd rfl (Or.inl rfl) pe_int) (pss_cons (ps_for PassesOwn.never rfl (pi_tup (pv 0)) (pg_name (i := 3) sc__law_settled.nd rfl (Or.inl rfl)) (pss_cons (ps_if (pt_cmpR op_eq (pe_ix ix_tup (pv 3) pe_int (fun _ _ => rfl)) pe_str (nomark _)) (pss_one (ps_break)) pss_nil) (pss_one (ps_set (i := 2) sc__law_settled.nd rfl (Or.inl rfl) (pe_op op_add (pv 2) pe_int))))) (pss_one (ps_ret (pe_tupF (pa_cons (pe_slice sl_tupF (pv 0) (po_some (pv 2)) po_none) (pa_cons (pe_op op_catF (pv 1) (pe_callTy call_tupleF (by rfl) B.tuple PyProof.Rows.boot_tuple (pa_cons (pe_lc (own := [("item", 3)]) (g := gName 3) (tt := tYes) (by rfl) sc__law_settled.nd (pi_tup (pe_slice sl_tupF (pv 0) po_none (po_some (pv 2)))) (blkOk_by (own := [("item", 3)]) (N := nm__law_settled) (sc := defScope s__law_settled) (by decide +kernel)) (fun _ _ _ _ _ => pg_name (i := 3) sc__law_settled.nd rfl (Or.inl rfl)) (fun _ _ _ _ _ => pts_nil) (fun _ _ _ _ _ => (pe_ix (show IxR _ (rIxT K) from ix_tup) (pv 3) pe_int (fun _ _ => rfl)))) pa_nil))) pa_nil))))))), ?_⟩
    walk_at "nf"
    walk_at "sx"
    refine (show ∀ N : L2.St → Hp → Prop, (∀ σ H', (∃ (k : Nat) (v3 : Option V), σ = [some (V.ref p), some (.ref b), some (.int (k : Nat)), v3] ∧ Same H H' ∧ k ≤ its.length ∧ cut its = (its.drop k, (its.take k).map Itm.no)) → N σ H') → tFor _ _ _ { nx := N, rt := Q } _ _ from fun N hN => ?_) _ (fun σ H' pe => ?_)
    · refine ⟨_, rfl, p, rfl, ⟨_, hp.sq⟩, for_it walk_tup (fun i σ H' => Same H H' ∧ (∃ v3, σ = [some (V.ref p), some (.ref b), some (.int (i : Nat)), v3]) ∧ ∀ j, j < i → isX (its.getD j (.L 0)) = false) ⟨Same.refl _, ⟨_, rfl⟩, fun j hj => by omega⟩ (fun i σ H' _ q => q.1.seqT hp.sq) (fun i x σ H1 H2 hi1 q y => ?_) (fun σ H1 q => ?_)⟩
      · obtain ⟨s1, ⟨v3, rfl⟩, no⟩ := q
        obtain ⟨rfl, hx⟩ := y
        obtain ⟨t, ht, hdt⟩ := hat i x hx
        obtain ⟨p1, rfl, hs1⟩ := it_q (hdt.to s1)
        have et : its.getD i (.L 0) = t := by rw [List.getD_eq_getElem?_getD, ht]; rfl
        have hlt := (List.getElem?_eq_some_iff.mp ht).1
        walk_at "nf"
        walk_at "sx"
        refine ⟨_, hs1.sq, _, rfl, rfl, ?_⟩
        have ek : decide (V.str t.kd = V.str (Str.ofString "variable")) = isX t := by
          cases t with
          | L n => exact decide_eq_false fun z => ks_lv.1 (V.str.inj z)
          | X n => exact decide_eq_true rfl
        rw [ek]
        cases c : isX t with
        | true => exact iteT (hN _ _ ⟨i, _, rfl, s1, by omega, cut_at its i (by omega) no (.inr (by rw [et]; exact c))⟩)
        | false =>
          refine iteF ⟨s1, by omega, ⟨_, rfl⟩, fun j hj => ?_⟩
          by_cases e : j = i
          · rw [e, et]; exact c
          · exact no j (by omega)
      · obtain ⟨s1, ⟨v3, rfl⟩, no⟩ := q
        exact hN _ _ ⟨its.length, _, by rw [hl], s1, Nat.le_refl _, cut_at its _ (Nat.le_refl _) (by rw [hl] at no; exact no) (.inl rfl)⟩
    · obtain ⟨kk, v3, rfl, s1, hk, ec⟩ := pe
      walk_at "nf"
      refine ⟨_, rfl, _, rfl, _, rfl, slF_ok (hp.same s1) fun r1 H2 e2 h2 => ⟨_, rfl, _, rfl, _, rfl, _, rfl, slF_ok ((hp.same s1).same e2) fun r2 H3 e3 h3 => ⟨r2, rfl, ⟨_, h3.sq⟩, fun L hL => ?_⟩⟩⟩
      rw [cutV_from] at h2
      rw [cutV_to] at h3
      have s3 := (s1.trans e2).trans e3
      have lt : (zs.take kk).length = kk := by rw [List.length_take, hl]; omega
      refine lcS (walk_tup (K := K) (a := r2) (xs := zs.take kk)) hL (by rw [lt]; exact slt (by omega)) (fun j y => y = .int ((its.getD j (.L 0)).no : Nat)) (fun H1 e => e.seqT h3.sq) (fun i x H4 H5 Q1 hi4 e4 y q => ?_) (fun H4 ys e4 hy hn hr => ?_)
      · obtain ⟨rfl, hx⟩ := y
        rw [List.getElem?_take] at hx
        have hi5 : i < kk := by rw [← lt]; exact hi4
        rw [if_pos hi5] at hx
        obtain ⟨t, ht, hdt⟩ := hat i x hx
        obtain ⟨p1, rfl, hs1⟩ := it_q ((hdt.to s3).to e4)
        have et : its.getD i (.L 0) = t := by rw [List.getD_eq_getElem?_getD, ht]; rfl
        rw [et] at q
        walk_at "nf"
        walk_at "sx"
        exact ⟨_, hs1.sq, _, rfl, q _ _ rfl (Same.refl _)⟩
      · have ev := vals_int (f := fun j => ((its.getD j (.L 0)).no : Int)) (by rw [hn, lt]) hr
        have er : ((List.range kk).map fun j => ((its.getD j (.L 0)).no : Int)) = nI ((its.take kk).map Itm.no) := by
          unfold nI
          rw [List.map_map]
          refine List.ext_getElem (by simp; omega) fun j h1 h2 => ?_
          have h3 : j < its.length := by simp at h1; omega
          simp [h3]
        rw [er] at ev
        subst ev
        refine ⟨L, _, rfl, .inl ⟨.of hy, fun t o ht ho => catF_ok (((hb.same s3).same e4).same (Same.new ht)) (.new ho) (by rw [nIv_len, nIv_len, List.length_map, List.length_take]; omega) fun r5 H5 e5 h5 => ⟨by show 2 ≤ sizeLine; decide, fun p5 o5 hp5 ho5 => k _ _ ((((s3.trans e4).then_new ht).trans e5).then_new hp5) ?_⟩⟩⟩
        rw [ec]
        refine .tup (.new ho5) (.cons_ (Dq.new ?_ hp5) (.one_ (Dq.new (.row ?_) hp5)))
        · refine (Dq.tup h2 ?_).to (((e3.trans e4).then_new ht).trans e5)
          have := (hall.to (s1.trans e2)).dr kk
          rw [(its_map its kk).2.1] at this
          exact this
        · rw [nI_app, List.map_append]
          exact h5
theorem ok_put (B : Bl mg) (D : Dt K mg "_law_put" s__law_put pr__law_put) : Df P w K mg base CX0 1 "_law_put" pr__law_put (spPut K) := by
  refine D.ok sc__law_put (fun vs H Q E h => ?_) (fun f cdv A outer s H vs Q E hr h => ?_)
  · obtain ⟨rv, iv, rs, its, n, rfl, _⟩ := h
    rfl
  · obtain ⟨rv, iv, rs, its, n, rfl, hrs, hi, led, hn, z1, z2, k⟩ := h
    refine ⟨_, (pss_cons (ps_if (PW.pt (pw_or (pt_cmpR (op_eqD hr.units) (pv 1) (pe_tupF pa_nil) (nomark _)) (pw_or1 (pt_cmpR op_ne (pe_ix ix_tup (pe_ix ix_tup (pv 0) (pv 2) (fun _ _ => rfl)) pe_int (fun _ _ => rfl)) (pe_ix ix_tup (pe_ix ix_tup (pv 1) pe_int (fun _ _ => rfl)) pe_int (fun _ _ => rfl)) (nomark _))))) (pss_one (ps_ret pe_non)) pss_nil) (pss_one (ps_ret (pe_op op_catF (pe_ix ix_tup (pe_ix ix_tup (pv 0) (pv 2) (fun _ _ => rfl)) pe_int (fun _ _ => rfl)) (pe_slice sl_tupF (pv 1) (po_some pe_int) po_none))))), ?_⟩
    walk_at "nf"
    walk_at "sx"
    obtain ⟨p, zs, rfl, hp, hl, hat, hall⟩ := q_view hi
    obtain ⟨a, ws, rfl, ha, hla, hata, _⟩ := q_view hrs
    refine ⟨by decide, fun pe oe hpe hoe => ⟨itsD its, .tuple [], hi.dp.to (Same.new hpe), .tup (.inl (.inr ⟨_, upd_same⟩)) .nil, lay_its its, rfl, _, rfl, ?_⟩⟩
    have s1 := Same.new (o := .frz oe (.tup [])) hpe
    rcases led with e | ⟨v, rest, e⟩
    · subst e
      exact iteT (k _ _ s1 .non_)
    · subst e
      refine iteF ?_
      obtain ⟨r, hr1⟩ : ∃ r, rs[n]? = some r := ⟨rs[n], by simp [hn]⟩
      obtain ⟨x, hx, hdx⟩ : ∃ x, ws[n]? = some x ∧ Dq K H (ruD r) x := by
        have hn2 : n < ws.length := by omega
        obtain ⟨r', h1, h2⟩ := hata n ws[n] (by simp [hn2])
        rw [hr1] at h1
        cases h1
        exact ⟨ws[n], by simp [hn2], h2⟩
      obtain ⟨p1, u1, rfl, hs1, hd1⟩ := ru_q (hdx.to s1)
      obtain ⟨y, ys, rfl, hy, hys⟩ := hall.cons_inv
      obtain ⟨p2, rfl, hs2⟩ := it_q (hy.to s1)
      refine ⟨a, rfl, _, s1.seqT ha.sq, _, atI_nat hx, p1, rfl, _, hs1.sq, _, rfl, p, rfl, _, s1.seqT hp.sq, _, (show atI (V.ref p2 :: ys) ((0 : Nat) : Int) = some (V.ref p2) from atI_nat rfl), p2, rfl, _, hs2.sq, _, rfl, rfl, ?_⟩
      have hrb := z2 r (List.mem_of_getElem? hr1)
      by_cases c : r.1 = v
      · rw [decide_eq_true (by show V.int (r.1 : Nat) = V.int (v : Nat); rw [c])]
        obtain ⟨b, bs, rfl, hb, hbs⟩ := hd1.tup_inv
        refine iteF ⟨a, rfl, _, s1.seqT ha.sq, _, atI_nat hx, p1, rfl, _, hs1.sq, _, rfl, slF_ok (hp.same s1) fun r1 H2 e2 h2 => ?_⟩
        rw [show (some 1 : Option Int) = some ((1 : Nat) : Int) from rfl, cutV_from] at h2
        have lb := hbs.len
        rw [List.length_map] at lb
        have lr := hys.len
        rw [List.length_map] at lr
        refine catF_ok (hb.same e2) h2 (by rw [lb]; show r.2.length + ys.length ≤ _; rw [lr]; simp at z1; omega) fun r5 H5 e5 h5 => k _ _ ((s1.trans e2).trans e5) ?_
        have ep : putD rs (.X v :: rest) n = itsD (r.2 ++ rest) := by
          unfold putD
          rw [put_of (body := r.2) (by rw [hr1, ← c])]
        rw [ep]
        have := (hbs.to e2).app (hys.to (s1.trans e2))
        have e6 : itsD (r.2 ++ rest) = .tuple (r.2.map itD ++ rest.map itD) := by unfold itsD; rw [List.map_append]
        rw [e6]
        exact .tup h5 (this.to e5)
      · rw [decide_eq_false (show ¬ (V.int (r.1 : Nat) = V.int ((Itm.X v).no : Nat)) from fun z => c (by have := V.int.inj z; show r.1 = v; have e : (Itm.X v).no = v := rfl; omega))]
        refine iteT (k _ _ s1 ?_)
        have ep : putD rs (.X v :: rest) n = .none := by
          unfold putD put
          simp [hr1, c]
        rw [ep]
        exact .non_
theorem ok_shortest (B : Bl mg) (D : Dt K mg "_law_shortest" s__law_shortest pr__law_shortest) : Df P w K mg base CX0 1 "_law_shortest" pr__law_shortest (spShortest K) := by
  refine D.ok sc__law_shortest (fun vs H Q E h => ?_) (fun f cdv A outer s H vs Q E hr h => ?_)
  · obtain ⟨iv, its, rfl, _⟩ := h
    rfl
  · obtain ⟨iv, its, rfl, hi, z1, k⟩ := h
    obtain ⟨p, zs, rfl, hp, hl, hat, hall⟩ := q_view hi
    refine ⟨_, (pss_one (ps_ret (pe_callB call_len_seq (by rfl) B.len PySem.boot_len (pa_cons (pe_lc (own := [("item", 1)]) (g := gName 1) (tt := _) (by rfl) sc__law_shortest.nd (pi_tup (pv 0)) (blkOk_by (own := [("item", 1)]) (N := nm__law_shortest) (sc := defScope s__law_shortest) (by decide +kernel)) (fun _ _ _ _ _ => pg_name (i := 1) sc__law_shortest.nd rfl (Or.inl rfl)) (fun _ _ _ _ _ => (pts_one (pt_cmpR op_eq (pe_ix (show IxR _ (rIxT K) from ix_tup) (pv 1) pe_int (fun _ _ => rfl)) pe_str (nomark _)))) (fun _ _ _ _ _ => pe_int)) pa_nil)))), ?_⟩
    walk_at "nf"
    walk_at "sx"
    refine ⟨_, rfl, p, rfl, ⟨_, hp.sq⟩, fun D hD => lcF (walk_tup (K := K) (a := p) (xs := zs)) hD (by rw [hl]; exact slt (by omega)) (fun i => isX (its.getD i (.L 0))) (fun i y H => True) (fun i y H H' e n q => q) (fun H1 e => Same.seqT e hp.sq) (fun i x H1 H2 Q1 Q0 hi1 e y q1 q0 => ?_) (fun H1 ys e hD1 g => ?_)⟩
    · obtain ⟨rfl, hx1⟩ := y
      obtain ⟨t, ht, hdt⟩ := hat i x hx1
      obtain ⟨p1, rfl, hs1⟩ := it_q (hdt.to e)
      have et : its.getD i (.L 0) = t := by rw [List.getD_eq_getElem?_getD, ht]; rfl
      rw [et] at q1 q0
      walk_at "nf"
      walk_at "sx"
      refine ⟨_, hs1.sq, _, rfl, rfl, ?_⟩
      have ek : decide (V.str t.kd = V.str (Str.ofString "variable")) = isX t := by
        cases t with
        | L n => exact decide_eq_false fun z => ks_lv.1 (V.str.inj z)
        | X n => exact decide_eq_true rfl
      rw [ek]
      cases c : isX t with
      | true => exact iteT (q1 c _ _ trivial (Same.refl _))
      | false => exact iteF (q0 c _ (Same.refl _))
    · refine ⟨D, rfl, ys, .inl (.of hD1), ?_⟩
      have : ys.length = (xs its).length := by
        rw [g.len, hl, xs_filter, List.length_map]
      rw [this]
      exact k _ e
theorem lay_row (ns : List Nat) : SeqAt.shaped (rowD ns) = true := by
  unfold SeqAt.shaped rowD
  simp only [PyData.canLay0, canLay_ints, PyData.depth, depth_ints, Bool.true_and]
  rfl
theorem count_row (ns : List Nat) (k : Nat) : (((nI ns).map PyData.int).countP fun z => PyData.eqv z (.int (k : Nat))) = ns.count k := by
  induction ns with
  | nil => rfl
  | cons n ns ih =>
    show ((PyData.int (n : Nat)) :: (nI ns).map PyData.int).countP _ = _
    rw [List.countP_cons, ih, List.count_cons]
    show _ + (if (((n : Nat) : Int) == ((k : Nat) : Int)) = true then 1 else 0) = _
    by_cases c : n = k
    · subst c; simp
    · have : ¬ ((n : Int) = (k : Int)) := by omega
      simp [c, this]
theorem ok_counted (B : Bl mg) (D : Dt K mg "_law_counted" s__law_counted pr__law_counted) : Df P w K mg base CX0 1 "_law_counted" pr__law_counted (spCounted K) := by
  refine D.ok sc__law_counted (fun vs H Q E h => ?_) (fun f cdv A outer s H vs Q E hr h => ?_)
  · obtain ⟨wv, m, way, rfl, _⟩ := h
    rfl
  · obtain ⟨wv, m, way, rfl, hw, z1, z2, k⟩ := h
    obtain ⟨b, rfl, hb⟩ := hw.row_inv
    refine ⟨_, (pss_one (ps_ret (pe_callTy call_tupleF (by rfl) B.tuple PyProof.Rows.boot_tuple (pa_cons (pe_lc (own := [("k", 2)]) (g := gName 2) (tt := tYes) (te := tBMT K (rCountD K) (tVar 1) (tCons (tVar 2) tNil)) (by rfl) sc__law_counted.nd (pi_range1 (by rfl) B.range (pa_cons (pv 0) pa_nil)) (blkOk_by (own := [("k", 2)]) (N := nm__law_counted) (sc := defScope s__law_counted) (by decide +kernel)) (fun _ _ _ _ _ => pg_name (i := 2) sc__law_counted.nd rfl (Or.inl rfl)) (fun _ _ _ _ _ => pts_nil) (fun _ _ _ _ _ => (pe_bmT PySem.F.plainAttrs_tuple PySem.F.slot_tuple_count PySem.F.type_tuple_count (mt_tcountD (hu65 hr)) (pv 1) (pa_cons (pv 2) pa_nil)))) pa_nil)))), ?_⟩
    walk_at "nf"
    walk_at "sx"
    refine ⟨_, rfl, _, rfl, by omega, by omega, fun D hD => ?_⟩
    rw [Int.toNat_natCast]
    refine lcS walk_range hD (slt (by omega)) (fun i y => y = .int (way.count i : Nat)) (fun _ _ => trivial) (fun i x H3 H4 Q1 hi e y q => ?_) (fun H3 ys e hD1 hn hr => ?_)
    · obtain ⟨rfl, rfl⟩ := y
      walk_at "nf"
      walk_at "sx"
      refine ⟨⟨_, hb.same e⟩, _, .int (i : Nat), (nI way).map PyData.int, rfl, (Dq.row (hb.same e)).dp, ?_, lay_row way, rfl, ?_⟩
      · have : (0 + (i : Int)) = ((i : Nat) : Int) := by omega
        rw [this]
        exact .int _
      · rw [count_row]
        exact q _ _ rfl (Same.refl _)
    · refine ⟨D, ys, rfl, .inl ⟨.of hD1, fun t o ht ho => k _ _ (e.then_new ht) ?_⟩⟩
      have ev := vals_int (f := fun i => (way.count i : Int)) hn hr
      have er : ((List.range m).map fun i => (way.count i : Int)) = nI (counted m way) := by unfold nI counted; rw [List.map_map]; rfl
      rw [er] at ev
      subst ev
      exact .row (.new ho)
end
end Ws
/-! ## E46e -/
namespace Ws
open PySem PySem.Spec PyProof.Rows L2 RZ Gm
local macro_rules | `(tactic| walk_at "nf") => `(tactic| dsimp only [tNext, tSeq, tDrop, tRet, tRetN, tIfS, tAsg, gName, gTup, gCons, gNil, tVar, tC, tOp, tUn, rI, rI0, rU, rEq, rNe, tTest, tChain, tAnd, tOr, tNot, tAndV, tOrV, tNotV, tIf, tCB, tCKw, tCons, tNil, tTup, tLst, tCa, tCallS, tB, rIxT, rIxL, rIxS, cxOf, Cx.nox, Cx.wish, Cx.blk, L2.start, tPar, tPar3, tNever, tYes, tBits, tRz, tBM, rAppend, tyV, tXf, suiteEnds, gSub, rSetL, tBreak, rMax, tDGet, sDPut, tSl, tNoPart, tPart, tDisp, tPairs, tDGet2, tDNewK, tAugS, ipI, rGetL, tDIn, tDNotIn, tBM0, rPop, tBMT, tTupF])
local macro_rules | `(tactic| walk_at "sx") => `(tactic| simp only [wipe, List.cons.injEq, and_assoc, exists_and_left, and_true, List.map_cons, List.map_nil, List.length_cons, List.length_nil, List.cons_append, List.nil_append, List.append_nil, Nat.reduceAdd, Nat.reduceSub, List.replicate, List.getElem?_cons_zero, List.getElem?_cons_succ, List.set_cons_zero, List.set_cons_succ, Option.some.injEq, V.int.injEq, V.bl.injEq, V.ref.injEq, V.str.injEq, exists_eq_left', exists_eq_left, true_and, Bool.true_eq_false, Bool.false_eq_true, if_true, if_false])

/-! ### ways listed -/
def lrD (s : Gm.Row) : PyData := .tuple [itsD s.1, rowD s.2.1, rowD s.2.2]
def wwD (r : List Nat × List Nat) : PyData := .tuple [rowD r.1, rowD r.2]
theorem cut_len : ∀ its : List Itm, (cut its).1.length + (cut its).2.length = its.length
  | [] => rfl
  | .X n :: r => rfl
  | .L n :: r => by
    show (cut r).1.length + ((cut r).2.length + 1) = r.length + 1
    have := cut_len r
    omega
theorem kid_bd {rs : List Ru} {most step n b : Nat} {s t : Gm.Row} (hb : ∀ r ∈ rs, r.2.length ≤ 6) (h : kid rs most step s n = some t) (hs : s.1.length + s.2.1.length ≤ b) : t.1.length + t.2.1.length ≤ b + 6 := by
  obtain ⟨v, rest, body, h1, h2, _, rfl⟩ := kid_some h
  have := hb _ (List.mem_of_getElem? h2)
  have c := cut_len (body ++ rest)
  rw [List.length_append] at c
  rw [h1] at hs
  show (cut (body ++ rest)).1.length + (s.2.1 ++ (cut (body ++ rest)).2).length ≤ b + 6
  rw [List.length_append]
  simp only [List.length_cons] at hs
  have : body.length ≤ 6 := this
  omega
theorem lay_bd {rs : List Ru} {most : Nat} (hb : ∀ r ∈ rs, r.2.length ≤ 6) : ∀ k, ∀ s ∈ (lay rs most k).1, s.1.length + s.2.1.length ≤ 1 + 6 * k
  | 0, s, hs => by
    obtain rfl : s = ([.X 0], [], []) := by simpa [lay] using hs
    decide
  | k + 1, s, hs => by
    obtain ⟨h1, h2⟩ := List.mem_filter.mp (show s ∈ openOf (outs rs most k (lay rs most k).1) from hs)
    obtain ⟨s0, hs0, h3⟩ := List.mem_flatMap.mp h1
    obtain ⟨n, _, h4⟩ := List.mem_filterMap.mp h3
    have := kid_bd hb h4 (lay_bd hb k s0 hs0)
    omega
theorem openOf_app (a b : List Gm.Row) : openOf (a ++ b) = openOf a ++ openOf b := List.filter_append ..
theorem doneOf_app (a b : List Gm.Row) : doneOf (a ++ b) = doneOf a ++ doneOf b := by unfold doneOf; rw [List.filter_append, List.map_append]
def spListed (K : PySem.W.Frag) : Sp := fun vs H Q _ => ∃ (gv : V) (m : Nat) (rs : List Ru) (t : Int), vs = [gv, .int t] ∧ t = 4 ∧ Dq K H (grD m rs) gv ∧ GOk m rs ∧ rs.length ≤ 4 ∧ ∀ H' p ys, Same H H' → H p = none → H' p = some (.lst ys) → DqA K H' ((listed rs 4).map wwD) ys → Q (.ref p) H'
abbrev s__law_listed : Stmt := top 35
abbrev nm__law_listed : List Str := ["grammar_so", "most", "here", "found", "step", "behind", "items", "word", "way_so", "number", "told", "rest", "more"]
abbrev pr__law_listed : List Str := ["grammar_so", "most"]
theorem sc__law_listed : FnScope nm__law_listed pr__law_listed (defScope s__law_listed) := ⟨rfl, rfl, rfl, by decide +kernel, rfl, by decide +kernel, by decide +kernel⟩
def LOut (K : PySem.W.Frag) (H : Hp) (gv : V) (rs : List Ru) (k : Nat) (σ : L2.St) (H' : Hp) : Prop := ∃ (h f : Addr) (yh yf : List V) (v4 v5 v6 v7 v8 v9 v10 v11 v12 : Option V), σ = [some gv, some (.int 4), some (.ref h), some (.ref f), v4, v5, v6, v7, v8, v9, v10, v11, v12] ∧ Same H H' ∧ h ≠ f ∧ H h = none ∧ H f = none ∧
  H' h = some (.lst yh) ∧ DqA K H' ((lay rs 4 k).1.map lrD) yh ∧ H' f = some (.lst yf) ∧ DqA K H' ((lay rs 4 k).2.map wwD) yf
structure LMid (K : PySem.W.Frag) (H : Hp) (rs : List Ru) (k : Nat) (h f b : Addr) (yh : List V) (pre : List Gm.Row) (H' : Hp) : Prop where
  same : Same H H'
  eh : H' h = some (.lst yh)
  dh : DqA K H' ((lay rs 4 k).1.map lrD) yh
  ff : ∃ yf, H' f = some (.lst yf) ∧ DqA K H' (((lay rs 4 k).2 ++ doneOf pre).map wwD) yf
  bb : ∃ yb, H' b = some (.lst yb) ∧ DqA K H' ((openOf pre).map lrD) yb
theorem LMid.to {K : PySem.W.Frag} {H : Hp} {rs : List Ru} {k : Nat} {h f b : Addr} {yh : List V} {pre : List Gm.Row} {H1 H2 : Hp} (l : LMid K H rs k h f b yh pre H1) (e : Same H1 H2) : LMid K H rs k h f b yh pre H2 := by
  obtain ⟨yf, f1, f2⟩ := l.ff
  obtain ⟨yb, b1, b2⟩ := l.bb
  exact ⟨l.same.trans e, e _ _ l.eh, l.dh.to e, ⟨yf, e _ _ f1, f2.to e⟩, ⟨yb, e _ _ b1, b2.to e⟩⟩
theorem LMid.done {K : PySem.W.Frag} {H : Hp} {rs : List Ru} {k : Nat} {h f b : Addr} {yh : List V} {pre : List Gm.Row} {Hc : Hp} (l : LMid K H rs k h f b yh pre Hc) (fb : b ≠ f) (fh : h ≠ f) (nf : H f = none) {t : Gm.Row} (ht : t.1 = []) {x : V} (hx : Dq K Hc (wwD (t.2.2, t.2.1)) x) :
    ∃ yf, Hc f = some (.lst yf) ∧ yf.length = ((lay rs 4 k).2 ++ doneOf pre).length ∧ LMid K H rs k h f b yh (pre ++ [t]) (upd Hc f (.lst (yf ++ [x]))) := by
  obtain ⟨yf, f1, f2⟩ := l.ff
  obtain ⟨yb, b1, b2⟩ := l.bb
  have e1 : doneOf [t] = [(t.2.2, t.2.1)] := by unfold doneOf; simp [isDone, ht]
  have e2 : openOf [t] = [] := by unfold openOf; simp [isDone, ht]
  refine ⟨yf, f1, by rw [f2.len, List.length_map], l.same.mut nf, by rw [upd_ne fh]; exact l.eh, l.dh.lst f1, ⟨_, upd_same, ?_⟩, ⟨yb, by rw [upd_ne fb]; exact b1, ?_⟩⟩
  · rw [doneOf_app, e1, ← List.append_assoc, List.map_append]
    exact (f2.lst f1).app (.one_ (hx.lst f1))
  · rw [openOf_app, e2, List.append_nil]
    exact b2.lst f1
theorem LMid.opn {K : PySem.W.Frag} {H : Hp} {rs : List Ru} {k : Nat} {h f b : Addr} {yh : List V} {pre : List Gm.Row} {Hc : Hp} (l : LMid K H rs k h f b yh pre Hc) (fb : f ≠ b) (hb : h ≠ b) (nb : H b = none) {t : Gm.Row} (ht : t.1 ≠ []) {x : V} (hx : Dq K Hc (lrD t) x) :
    ∃ yb, Hc b = some (.lst yb) ∧ yb.length = (openOf pre).length ∧ LMid K H rs k h f b yh (pre ++ [t]) (upd Hc b (.lst (yb ++ [x]))) := by
  obtain ⟨yf, f1, f2⟩ := l.ff
  obtain ⟨yb, b1, b2⟩ := l.bb
  have e0 : isDone t = false := by
    unfold isDone
    cases e : t.1 with
    | nil => exact absurd e ht
    | cons _ _ => rfl
  have e1 : doneOf [t] = [] := by unfold doneOf; simp [e0]
  have e2 : openOf [t] = [t] := by unfold openOf; simp [e0]
  refine ⟨yb, b1, by rw [b2.len, List.length_map], l.same.mut nb, by rw [upd_ne hb]; exact l.eh, l.dh.lst b1, ⟨yf, by rw [upd_ne fb]; exact f1, ?_⟩, ⟨_, upd_same, ?_⟩⟩
  · rw [doneOf_app, e1, List.append_nil]
    exact f2.lst b1
  · rw [openOf_app, e2, List.map_append]
    exact (b2.lst b1).app (.one_ (hx.lst b1))
theorem fm_succ {α : Type} (g : Nat → Option α) (j : Nat) : (List.range (j + 1)).filterMap g = (List.range j).filterMap g ++ (g j).toList := by
  rw [List.range_succ, List.filterMap_append]
  cases e : g j <;> simp [e]
theorem pre_len {rs : List Ru} {kk i j : Nat} {r0 : Gm.Row} (l4 : rs.length ≤ 4) (h1 : (lay rs 4 kk).1.length ≤ 256) (hj : j ≤ 4) : (outs rs 4 kk ((lay rs 4 kk).1.take i) ++ (List.range j).filterMap (kid rs 4 kk r0)).length ≤ 2000 := by
  rw [List.length_append]
  have a := outs_len rs 4 kk ((lay rs 4 kk).1.take i)
  have b : ((lay rs 4 kk).1.take i).length ≤ 256 := by rw [List.length_take]; omega
  have c : ((lay rs 4 kk).1.take i).length * rs.length ≤ 256 * 4 := Nat.mul_le_mul b l4
  have d := List.length_filterMap_le (kid rs 4 kk r0) (List.range j)
  rw [List.length_range] at d
  omega
theorem LMid.eq {K : PySem.W.Frag} {H : Hp} {rs : List Ru} {k : Nat} {h f b : Addr} {yh : List V} {pre pre' : List Gm.Row} {H1 : Hp} (l : LMid K H rs k h f b yh pre H1) (e : pre = pre') : LMid K H rs k h f b yh pre' H1 := e ▸ l
section
variable {P : Program} {w : World} {K : PySem.W.Frag} {mg : Str → Option Value} {base : Heap}
theorem ok_listed (B : Bl mg) (F1 : Df P w K mg base CX0 1 "_law_put" pr__law_put (spPut K)) (F2 : Df P w K mg base CX0 1 "_law_shortest" pr__law_shortest (spShortest K)) (F3 : Df P w K mg base CX0 1 "_law_settled" pr__law_settled (spSettled K)) (D : Dt K mg "_law_listed" s__law_listed pr__law_listed) : Df P w K mg base CX0 2 "_law_listed" pr__law_listed (spListed K) := by
  refine D.ok sc__law_listed (fun vs H Q E h => ?_) (fun f cdv A outer s H vs Q E hr h => ?_)
  · obtain ⟨gv, m, rs, t, rfl, _⟩ := h
    rfl
  · obtain ⟨gv, m, rs, t, rfl, rfl, hg, o, l4, k⟩ := h
    refine ⟨_, (pss_cons (ps_par (i := 2) (j := 3) (by rfl) sc__law_listed.nd rfl rfl (by decide) rfl rfl (pa_cons (pe_lst (pa_cons (pe_tupF (pa_cons (pe_tupF (pa_cons (pe_tupF (pa_cons pe_str (pa_cons pe_int pa_nil))) pa_nil)) (pa_cons (pe_tupF pa_nil) (pa_cons (pe_tupF pa_nil) pa_nil)))) pa_nil)) (pa_cons (pe_lst pa_nil) pa_nil)) (by rfl)) (pss_cons (ps_for PassesOwn.never rfl (pi_range1 (by rfl) B.range (pa_cons (pv 1) pa_nil)) (pg_name (i := 4) sc__law_listed.nd rfl (Or.inl rfl)) (pss_cons (ps_set (i := 5) sc__law_listed.nd rfl (Or.inl rfl) (pe_lst pa_nil)) (pss_cons (ps_for PassesOwn.never rfl (pi_list (pv 2)) (pg_tup rfl (pgs_cons (pg_name (i := 6) sc__law_listed.nd rfl (Or.inl rfl)) (pgs_cons (pg_name (i := 7) sc__law_listed.nd rfl (Or.inl rfl)) (pgs_cons (pg_name (i := 8) sc__law_listed.nd rfl (Or.inl rfl)) pgs_nil)))) (pss_one (ps_for PassesOwn.never rfl (pi_range1 (by rfl) B.range (pa_cons (pe_callB call_len_seq (by rfl) B.len PySem.boot_len (pa_cons (pe_ix ix_tup (pv 0) pe_int (fun _ _ => rfl)) pa_nil)) pa_nil)) (pg_name (i := 9) sc__law_listed.nd rfl (Or.inl rfl)) (pss_cons (ps_set (i := 10) sc__law_listed.nd rfl (Or.inl rfl) (pe_f F1 (hr.mono (by decide)) pass0 (pa_cons (pe_ix ix_tup (pv 0) pe_int (fun _ _ => rfl)) (pa_cons (pv 6) (pa_cons (pv 9) pa_nil))))) (pss_one (ps_if (PW.pt (pw_and (pt_cmpR op_notN (pv 10) pe_non (nomark _)) (pw_and1 (pt_cmpR op_lt (pe_f F2 (hr.mono (by decide)) pass0 (pa_cons (pv 10) pa_nil)) (pe_op op_sub (pv 1) (pv 4)) (nomark _))))) (pss_cons (ps_asg (pe_f F3 (hr.mono (by decide)) pass0 (pa_cons (pv 10) (pa_cons (pv 7) pa_nil))) (pg_tup rfl (pgs_cons (pg_name (i := 11) sc__law_listed.nd rfl (Or.inl rfl)) (pgs_cons (pg_name (i := 12) sc__law_listed.nd rfl (Or.inl rfl)) pgs_nil)))) (pss_one (ps_if (pt_cmpR (op_eqD hr.units) (pv 11) (pe_tupF pa_nil) (nomark _)) (pss_one (ps_expr (pe_bm PySem.F.plainAttrs_list PySem.F.slot_list_append PySem.F.type_list_append mt_append (pv 3) (pa_cons (pe_tupF (pa_cons (pe_op op_catF (pv 8) (pe_tupF (pa_cons (pv 9) pa_nil))) (pa_cons (pv 12) pa_nil))) pa_nil)))) (pss_one (ps_expr (pe_bm PySem.F.plainAttrs_list PySem.F.slot_list_append PySem.F.type_list_append mt_append (pv 5) (pa_cons (pe_tupF (pa_cons (pv 11) (pa_cons (pv 12) (pa_cons (pe_op op_catF (pv 8) (pe_tupF (pa_cons (pv 9) pa_nil))) pa_nil)))) pa_nil))))))) pss_nil)))))) (pss_one (ps_set (i := 2) sc__law_listed.nd rfl (Or.inl rfl) (pe_callTy call_list_of (by rfl) B.list PyProof.Rows.boot_list (pa_cons (pv 5) pa_nil))))))) (pss_one (ps_ret (pv 3))))), ?_⟩
    walk_at "nf"
    walk_at "sx"
    refine ⟨by decide, fun p0 o0 n0 d0 => ?_⟩
    have sA : Same H (upd H p0 (HO.frz o0 (HO.tup [V.str (Str.ofString "variable"), V.int 0]))) := Same.new n0
    have q0 : Dq K (upd H p0 (HO.frz o0 (HO.tup [V.str (Str.ofString "variable"), V.int 0]))) (itD (.X 0)) (.ref p0) := .tup (.new d0) (.cons_ .str_ (.one_ .int_))
    generalize (upd H p0 (HO.frz o0 (HO.tup [V.str (Str.ofString "variable"), V.int 0]))) = HA at sA q0 ⊢
    refine ⟨by decide, fun p1 o1 n1 d1 => ?_⟩
    replace sA := sA.then_new (o := HO.frz o1 (HO.tup [V.ref p0])) n1
    have q1 : Dq K (upd HA p1 (HO.frz o1 (HO.tup [V.ref p0]))) (itsD [.X 0]) (.ref p1) := .tup (.new d1) (.one_ (q0.new n1))
    clear q0
    generalize (upd HA p1 (HO.frz o1 (HO.tup [V.ref p0]))) = HB at sA q1 ⊢
    refine ⟨by decide, fun p2 o2 n2 d2 => ?_⟩
    replace sA := sA.then_new (o := HO.frz o2 (HO.tup [])) n2
    have q2 : Dq K (upd HB p2 (HO.frz o2 (HO.tup []))) (rowD []) (.ref p2) := .row (.new d2)
    replace q1 := q1.new (o := HO.frz o2 (HO.tup [])) n2
    generalize (upd HB p2 (HO.frz o2 (HO.tup []))) = HC at sA q1 q2 ⊢
    refine ⟨by decide, fun p3 o3 n3 d3 => ?_⟩
    replace sA := sA.then_new (o := HO.frz o3 (HO.tup [])) n3
    have q3 : Dq K (upd HC p3 (HO.frz o3 (HO.tup []))) (rowD []) (.ref p3) := .row (.new d3)
    replace q1 := q1.new (o := HO.frz o3 (HO.tup [])) n3
    replace q2 := q2.new (o := HO.frz o3 (HO.tup [])) n3
    generalize (upd HC p3 (HO.frz o3 (HO.tup []))) = HD at sA q1 q2 q3 ⊢
    refine ⟨by decide, fun p4 o4 n4 d4 => ?_⟩
    replace sA := sA.then_new (o := HO.frz o4 (HO.tup [V.ref p1, V.ref p2, V.ref p3])) n4
    have q4 : Dq K (upd HD p4 (HO.frz o4 (HO.tup [V.ref p1, V.ref p2, V.ref p3]))) (lrD ([.X 0], [], [])) (.ref p4) := .tup (.new d4) (.cons_ (q1.new n4) (.cons_ (q2.new n4) (.one_ (q3.new n4))))
    clear q1 q2 q3
    generalize (upd HD p4 (HO.frz o4 (HO.tup [V.ref p1, V.ref p2, V.ref p3]))) = HA at sA q4 ⊢
    refine ⟨by decide, fun h hh => ⟨by decide, fun ff hf => ?_⟩⟩
    have hfh : h ≠ ff := fun z => by rw [← z, upd_same] at hf; cases hf
    have hA1 : HA ff = none := by rw [upd_ne (Ne.symm hfh)] at hf; exact hf
    have off : ∀ x, HA x = none → H x = none := fun x hx => by
      cases e : H x with
      | none => rfl
      | some u => rw [sA _ _ e] at hx; cases hx
    refine ⟨_, rfl, _, rfl, by decide, by decide, for_it walk_range (LOut K H gv rs) ⟨h, ff, [V.ref p4], [], _, _, _, _, _, _, _, _, _, rfl, (sA.then_new hh).then_new hf, hfh, off h hh, off ff hA1, by rw [upd_ne hfh, upd_same], .one_ ((q4.new hh).new hf), upd_same, .nil_⟩ (fun _ _ _ _ _ => trivial) (fun kk x σ H3 H4 hk p y => ?_) (fun σ H3 p => ?_)⟩
    · obtain ⟨h, ff, yh, yf, v4, v5, v6, v7, v8, v9, v10, v11, v12, rfl, s3, hne, nh, nf, e1, a1, e2, a2⟩ := p
      obtain ⟨rfl, rfl⟩ := y
      have hk5 : kk < 4 := by simpa using hk
      walk_at "nf"
      walk_at "sx"
      refine ⟨by decide, fun b hb => ?_⟩
      have bh : b ≠ h := fun z => by rw [z, e1] at hb; cases hb
      have bf : b ≠ ff := fun z => by rw [z, e2] at hb; cases hb
      have nb : H b = none := by
        cases e : H b with
        | none => rfl
        | some u => rw [s3 _ _ e] at hb; cases hb
      have sb := Same.new (o := .lst []) hb
      have l0 : LMid K H rs kk h ff b yh [] (upd H4 b (.lst [])) := ⟨s3.trans sb, sb _ _ e1, a1.to sb, ⟨yf, sb _ _ e2, by rw [show doneOf [] = [] from rfl, List.append_nil]; exact a2.to sb⟩, ⟨[], upd_same, .nil_⟩⟩
      have ls : yh.length = (lay rs 4 kk).1.length := by rw [a1.len, List.length_map]
      have lb : (lay rs 4 kk).1.length ≤ 4 ^ kk ∧ (lay rs 4 kk).2.length ≤ kk * 4 ^ kk := lay_len rs 4 l4 kk
      have p4 : 4 ^ kk ≤ 256 ∧ kk * 4 ^ kk ≤ 1024 := by
        have : kk = 0 ∨ kk = 1 ∨ kk = 2 ∨ kk = 3 ∨ kk = 4 := by omega
        rcases this with rfl | rfl | rfl | rfl | rfl <;> decide
      refine ⟨_, rfl, h, rfl, ⟨_, .of l0.eh⟩, for_it walk_list (fun i σ H' => ∃ v6 v7 v8 v9 v10 v11 v12, σ = [some gv, some (.int 4), some (.ref h), some (.ref ff), some (.int (0 + (kk : Int))), some (.ref b), v6, v7, v8, v9, v10, v11, v12] ∧ LMid K H rs kk h ff b yh (outs rs 4 kk ((lay rs 4 kk).1.take i)) H') ⟨_, _, _, _, _, _, _, rfl, l0⟩ (fun i σ H' _ p => by obtain ⟨_, _, _, _, _, _, _, _, l⟩ := p; exact .of l.eh) (fun i x σ H5 H6 hi p y => ?_) (fun σ H5 p => ?_)⟩
      · obtain ⟨v6, v7, v8, v9, v10, v11, v12, rfl, l1⟩ := p
        obtain ⟨rfl, hx⟩ := y
        obtain ⟨d, hd1, hd2⟩ := l1.dh.at_ hx
        obtain ⟨r0, hr0, rfl⟩ : ∃ r0, (lay rs 4 kk).1[i]? = some r0 ∧ d = lrD r0 := by
          rw [List.getElem?_map] at hd1
          cases e : (lay rs 4 kk).1[i]? with
          | none => rw [e] at hd1; cases hd1
          | some r0 => rw [e] at hd1; exact ⟨r0, rfl, (Option.some.inj hd1).symm⟩
        have hr0m := List.mem_of_getElem? hr0
        obtain ⟨led, ne, wl, _⟩ := (lay_s rs 4 kk).here r0 hr0m
        have bd := lay_bd (most := 4) o.body kk r0 hr0m
        obtain ⟨T, ws, rfl, hT, hws⟩ := hd2.tup_inv
        obtain ⟨iv, wv, yv, rfl, hiv, hwv, hyv⟩ := hws.three
        obtain ⟨ga, gu, rfl, hga, hgu⟩ := gr_q (hg.to l1.same)
        obtain ⟨ra, zs, rfl, hra, hzl, hzat, _⟩ := q_view hgu
        have epre : outs rs 4 kk ((lay rs 4 kk).1.take i) ++ ([] : List Gm.Row) = outs rs 4 kk ((lay rs 4 kk).1.take i) := List.append_nil _
        walk_at "nf"
        refine ⟨T, _, rfl, hT.sq, rfl, _, _, rfl, _, _, rfl, _, _, rfl, rfl, ?_⟩
        refine ⟨_, rfl, ga, _, 1, _, rfl, rfl, hga.sq, rfl, ra, rfl, zs, .inr hra.sq, _, rfl, by rw [hzl]; omega, by rw [hzl]; omega, ?_⟩
        rw [Int.toNat_natCast]
        refine for_it walk_range (fun j σ H' => ∃ v9 v10 v11 v12, σ = [some (V.ref ga), some (.int 4), some (.ref h), some (.ref ff), some (.int (0 + (kk : Int))), some (.ref b), some iv, some wv, some yv, v9, v10, v11, v12] ∧ Same H H' ∧ Dq K H' (itsD r0.1) iv ∧ Dq K H' (rowD r0.2.1) wv ∧ Dq K H' (rowD r0.2.2) yv ∧ LMid K H rs kk h ff b yh (outs rs 4 kk ((lay rs 4 kk).1.take i) ++ (List.range j).filterMap (kid rs 4 kk r0)) H')
          ⟨_, _, _, _, rfl, l1.same, hiv, hwv, hyv, l1.eq epre.symm⟩ (fun _ _ _ _ _ => trivial) (fun j x σ H7 H8 hj p y => ?_) (fun σ H7 p => ?_)
        · obtain ⟨v9, v10, v11, v12, rfl, s7, hiv7, hwv7, hyv7, l7⟩ := p
          obtain ⟨rfl, rfl⟩ := y
          have hjr : j < rs.length := by rw [← hzl]; exact hj
          walk_at "nf"
          walk_at "sx"
          have zj : (0 + (j : Int)) = ((j : Nat) : Int) := by omega
          rw [zj]
          obtain ⟨ga', gu', ega, hga7, hgu7⟩ := gr_q (hg.to s7)
          cases ega
          refine ⟨_, hga7.sq, _, rfl, gu', iv, rs, r0.1, j, rfl, hgu7, hiv7, led, hjr, by omega, fun r hr => by have := o.body r hr; omega, fun H9 u s9 hu => ?_⟩
          have s79 := s7.trans s9
          have skip : ∀ {H10 : Hp}, Same H9 H10 → kid rs 4 kk r0 j = none → Same H H10 ∧ Dq K H10 (itsD r0.1) iv ∧ Dq K H10 (rowD r0.2.1) wv ∧ Dq K H10 (rowD r0.2.2) yv ∧ LMid K H rs kk h ff b yh (outs rs 4 kk ((lay rs 4 kk).1.take i) ++ (List.range (j + 1)).filterMap (kid rs 4 kk r0)) H10 := fun {H10} e10 no => by
            have e9 := s9.trans e10
            refine ⟨s7.trans e9, hiv7.to e9, hwv7.to e9, hyv7.to e9, (l7.to e9).eq ?_⟩
            rw [fm_succ, no]
            simp
          cases hp : put rs r0.1 j with
          | none =>
            have eu : u = .non := by
              unfold putD at hu
              rw [hp] at hu
              simpa only [Dq] using hu
            subst eu
            exact iteF (skip (Same.refl _) (by unfold kid; rw [hp]))
          | some told =>
            unfold putD at hu
            rw [hp] at hu
            have hu : Dq K H9 (itsD told) u := hu
            obtain ⟨v0, rest0, body0, t1, t2, t3⟩ := put_some hp
            have tl : told.length ≤ 40 := by
              have b6 : body0.length ≤ 6 := o.body _ (List.mem_of_getElem? t2)
              rw [t1] at bd
              simp only [List.length_cons] at bd
              rw [t3, List.length_append]
              omega
            have nu : u ≠ .non := by
              obtain ⟨au, xu, e, _⟩ := hu.tup_inv
              rw [e]
              exact fun z => by cases z
            dsimp only
            rw [decide_eq_false nu]
            refine iteT ⟨u, told, rfl, hu, by omega, fun H10 s10 => ⟨_, rfl, ?_⟩⟩
            by_cases cs : (xs told).length + kk < 4
            · rw [decide_eq_true (by omega)]
              have s710 := s79.trans s10
              have e710 := s9.trans s10
              refine iteT ⟨u, wv, told, r0.2.1, rfl, hu.to s10, hwv7.to e710, by omega, by omega, fun H11 z s11 hz => ?_⟩
              obtain ⟨T2, xs2, rfl, hT2, hx2⟩ := hz.tup_inv
              obtain ⟨rv2, mv, rfl, hrv2, hmv⟩ := hx2.two
              refine ⟨T2, rfl, _, hT2.sq, rfl, _, _, rfl, _, _, rfl, rfl, by decide, fun pe oe hpe hoe => ⟨itsD (cut told).1, .tuple [], hrv2.dp.to (Same.new hpe), .tup (.inl (.inr ⟨_, upd_same⟩)) .nil, lay_its _, rfl, _, rfl, ?_⟩⟩
              have hkid : kid rs 4 kk r0 j = some ((cut told).1, r0.2.1 ++ (cut told).2, r0.2.2 ++ [j]) := by
                unfold kid
                rw [hp]
                show (if _ then _ else _) = _
                rw [if_pos cs]
              have hpl : (outs rs 4 kk ((lay rs 4 kk).1.take i) ++ (List.range j).filterMap (kid rs 4 kk r0)).length ≤ 2000 := pre_len l4 (by omega) (by omega)
              have e12 : Same H8 (upd H11 pe (HO.frz oe (HO.tup []))) := (e710.trans s11).then_new hpe
              have hrv12 := hrv2.new (o := HO.frz oe (HO.tup [])) hpe
              have hmv12 := hmv.new (o := HO.frz oe (HO.tup [])) hpe
              generalize (upd H11 pe (HO.frz oe (HO.tup []))) = H12 at e12 hrv12 hmv12 ⊢
              obtain ⟨yw, rfl, hyw⟩ := (hyv7.to e12).row_inv
              have hyl : ((nI r0.2.2).map V.int).length ≤ 10 := by rw [nIv_len, wl]; omega
              cases ec : (cut told).1 with
              | nil =>
                refine iteT ⟨.inl ⟨_, .of (l7.to e12).ff.choose_spec.1⟩, by decide, fun pn on hpn hon => catF_ok (hyw.same (Same.new hpn)) (.new hon) (by simp only [List.length_singleton]; omega) fun r5 H14 e14 h5 => ⟨by show 2 ≤ sizeLine; decide, fun p6 o6 hp6 ho6 => ?_⟩⟩
                have e15 : Same H12 (upd H14 p6 (HO.frz o6 (HO.tup [V.ref r5, mv]))) := ((Same.new hpn).trans e14).then_new hp6
                have hway : Dq K (upd H14 p6 (HO.frz o6 (HO.tup [V.ref r5, mv]))) (wwD (r0.2.2 ++ [j], r0.2.1 ++ (cut told).2)) (.ref p6) := by
                  refine .tup (.new ho6) (.cons_ (Dq.new (.row ?_) hp6) (.one_ (hmv12.to e15)))
                  rw [← nIv_app]
                  exact h5
                generalize (upd H14 p6 (HO.frz o6 (HO.tup [V.ref r5, mv]))) = H15 at e15 hway ⊢
                have e715 := e12.trans e15
                obtain ⟨yf5, f5, fl5, l5⟩ := (l7.to e715).done bf (Ne.symm bh |> fun _ => hne) nf (t := ((cut told).1, r0.2.1 ++ (cut told).2, r0.2.2 ++ [j])) ec hway
                have dl := List.length_filter_le isDone (outs rs 4 kk ((lay rs 4 kk).1.take i) ++ (List.range j).filterMap (kid rs 4 kk r0))
                refine ⟨_, f5, by rw [fl5, List.length_append]; unfold doneOf; rw [List.length_map]; have h0 : 10000 < sizeLine := (by decide); omega, l5.same, (hiv7.to e715).lst f5, (hwv7.to e715).lst f5, (hyv7.to e715).lst f5, l5.eq ?_⟩
                rw [fm_succ, hkid, List.append_assoc]
                rfl
              | cons c0 cr =>
                refine iteF ⟨.inl ⟨_, .of (l7.to e12).bb.choose_spec.1⟩, by decide, fun pn on hpn hon => catF_ok (hyw.same (Same.new hpn)) (.new hon) (by simp only [List.length_singleton]; omega) fun r5 H14 e14 h5 => ⟨by show 3 ≤ sizeLine; decide, fun p6 o6 hp6 ho6 => ?_⟩⟩
                have e15 : Same H12 (upd H14 p6 (HO.frz o6 (HO.tup [rv2, mv, V.ref r5]))) := ((Same.new hpn).trans e14).then_new hp6
                have hway : Dq K (upd H14 p6 (HO.frz o6 (HO.tup [rv2, mv, V.ref r5]))) (lrD ((cut told).1, r0.2.1 ++ (cut told).2, r0.2.2 ++ [j])) (.ref p6) := by
                  refine .tup (.new ho6) (.cons_ (hrv12.to e15) (.cons_ (hmv12.to e15) (.one_ (Dq.new (.row ?_) hp6))))
                  rw [← nIv_app]
                  exact h5
                generalize (upd H14 p6 (HO.frz o6 (HO.tup [rv2, mv, V.ref r5]))) = H15 at e15 hway ⊢
                have e715 := e12.trans e15
                obtain ⟨yb5, f5, fl5, l5⟩ := (l7.to e715).opn (Ne.symm bf) (Ne.symm bh) nb (t := ((cut told).1, r0.2.1 ++ (cut told).2, r0.2.2 ++ [j])) (by show (cut told).1 ≠ []; rw [ec]; simp) hway
                have dl := List.length_filter_le (fun s => !isDone s) (outs rs 4 kk ((lay rs 4 kk).1.take i) ++ (List.range j).filterMap (kid rs 4 kk r0))
                refine ⟨_, f5, by rw [fl5]; unfold openOf; have h0 : 10000 < sizeLine := (by decide); omega, l5.same, (hiv7.to e715).lst f5, (hwv7.to e715).lst f5, (hyv7.to e715).lst f5, l5.eq ?_⟩
                rw [fm_succ, hkid, List.append_assoc]
                rfl
            · rw [decide_eq_false (by omega)]
              refine iteF (skip s10 ?_)
              unfold kid
              rw [hp]
              show (if _ then _ else _) = _
              rw [if_neg cs]
        · obtain ⟨v9, v10, v11, v12, rfl, s7, hiv7, hwv7, hyv7, l7⟩ := p
          refine ⟨_, _, _, _, _, _, _, rfl, l7.eq ?_⟩
          rw [take_at hr0, hzl]
          unfold outs
          rw [List.flatMap_append, List.flatMap_singleton]
          rfl
      · obtain ⟨v6, v7, v8, v9, v10, v11, v12, rfl, l1⟩ := p
        rw [ls, List.take_length] at l1
        obtain ⟨yf', f1, f2⟩ := l1.ff
        obtain ⟨yb', b1, b2⟩ := l1.bb
        walk_at "nf"
        walk_at "sx"
        refine ⟨yb', .inl (.of b1), fun p hp => ?_⟩
        have e5 := Same.new (o := .lst yb') hp
        have pf : p ≠ ff := fun z => by rw [z, f1] at hp; cases hp
        have hp0 : H p = none := by
          cases e : H p with
          | none => rfl
          | some u => rw [l1.same _ _ e] at hp; cases hp
        exact ⟨p, ff, yb', yf', _, _, _, _, _, _, _, _, _, rfl, l1.same.trans e5, pf, hp0, nf, upd_same, b2.to e5, e5 _ _ f1, f2.to e5⟩
    · obtain ⟨h, ff, yh, yf, v4, v5, v6, v7, v8, v9, v10, v11, v12, rfl, s3, hne, nh, nf, e1, a1, e2, a2⟩ := p
      walk_at "nf"
      exact ⟨_, rfl, k _ _ _ s3 nf e2 a2⟩
end
end Ws
/-! ## E46f -/
namespace Ws
open PySem PySem.Spec PyProof.Rows L2 RZ Gm
local macro_rules | `(tactic| walk_at "nf") => `(tactic| dsimp only [tNext, tSeq, tDrop, tRet, tRetN, tIfS, tAsg, gName, gTup, gCons, gNil, tVar, tC, tOp, tUn, rI, rI0, rU, rEq, rNe, tTest, tChain, tAnd, tOr, tNot, tAndV, tOrV, tNotV, tIf, tCB, tCKw, tCons, tNil, tTup, tLst, tCa, tCallS, tB, rIxT, rIxL, rIxS, cxOf, Cx.nox, Cx.wish, Cx.blk, L2.start, tPar, tPar3, tNever, tYes, tBits, tRz, tBM, rAppend, tyV, tXf, suiteEnds, gSub, rSetL, tBreak, rMax, tDGet, sDPut, tSl, tNoPart, tPart, tDisp, tPairs, tDGet2, tDNewK, tAugS, ipI, rGetL, tDIn, tDNotIn, tBM0, rPop, tBMT, tTupF])
local macro_rules | `(tactic| walk_at "sx") => `(tactic| simp only [wipe, List.cons.injEq, and_assoc, exists_and_left, and_true, List.map_cons, List.map_nil, List.length_cons, List.length_nil, List.cons_append, List.nil_append, List.append_nil, Nat.reduceAdd, Nat.reduceSub, List.replicate, List.getElem?_cons_zero, List.getElem?_cons_succ, List.set_cons_zero, List.set_cons_succ, Option.some.injEq, V.int.injEq, V.bl.injEq, V.ref.injEq, V.str.injEq, exists_eq_left', exists_eq_left, true_and, Bool.true_eq_false, Bool.false_eq_true, if_true, if_false])

/-! ### the law's own sums and walks -/
def spBalL (K : PySem.W.Frag) : Sp := fun vs H Q _ => ∃ (rv uv : V) (m : Nat) (rs : List Ru) (u : List Nat), vs = [rv, uv] ∧ Dq K H (rulesD rs) rv ∧ Dp K H uv (rowD u) ∧ GOk m rs ∧ u.length = rs.length ∧ ∀ H', Same H H' → Q (.bl (balB rs u)) H'
def spMet (K : PySem.W.Frag) : Sp := fun vs H Q _ => ∃ (rv uv : V) (a : Addr) (m : Nat) (rs : List Ru) (u A : List Nat), vs = [rv, uv, .ref a] ∧ Dq K H (rulesD rs) rv ∧ Dp K H uv (rowD u) ∧ SqL K H a ((nI A).map V.int) ∧ A.length ≤ 10000 ∧ GOk m rs ∧ u.length = rs.length ∧
  ∀ H' p, Same H H' → H p = none → H' p = some (.lst ((nI (metN (psOf rs u) 4 A)).map V.int)) → Q (.ref p) H'
def spLinked (K : PySem.W.Frag) : Sp := fun vs H Q _ => ∃ (rv uv : V) (a : Addr) (m : Nat) (rs : List Ru) (u A : List Nat), vs = [rv, uv, .ref a] ∧ Dq K H (rulesD rs) rv ∧ Dp K H uv (rowD u) ∧ SqL K H a ((nI A).map V.int) ∧ A.length ≤ 10000 ∧ GOk m rs ∧ u.length = rs.length ∧
  ∀ H', Same H H' → Q (.bl (conB rs u (metN (psOf rs u) 4 A))) H'
abbrev s__law_balanced : Stmt := top 37
abbrev nm__law_balanced : List Str := ["rules_so", "uses_so", "variable", "left", "rule", "times_so"]
abbrev pr__law_balanced : List Str := ["rules_so", "uses_so"]
theorem sc__law_balanced : FnScope nm__law_balanced pr__law_balanced (defScope s__law_balanced) := ⟨rfl, rfl, rfl, by decide +kernel, rfl, by decide +kernel, by decide +kernel⟩
abbrev s__law_met : Stmt := top 38
abbrev nm__law_met : List Str := ["rules_so", "uses_so", "first_so", "found", "step", "rule", "times_so", "item"]
abbrev pr__law_met : List Str := ["rules_so", "uses_so", "first_so"]
theorem sc__law_met : FnScope nm__law_met pr__law_met (defScope s__law_met) := ⟨rfl, rfl, rfl, by decide +kernel, rfl, by decide +kernel, by decide +kernel⟩
abbrev s__law_linked : Stmt := top 39
abbrev nm__law_linked : List Str := ["rules_so", "uses_so", "first_so", "met", "rule", "times_so"]
abbrev pr__law_linked : List Str := ["rules_so", "uses_so", "first_so"]
theorem sc__law_linked : FnScope nm__law_linked pr__law_linked (defScope s__law_linked) := ⟨rfl, rfl, rfl, by decide +kernel, rfl, by decide +kernel, by decide +kernel⟩
theorem sq_ifc {c : TT} {x y : V} {i : Nat} {b : Bool} {u : TS} {D : Ends} {σ : L2.St} {H : Hp} (hc : ∀ Q : Bool → Hp → Prop, Q b H → c σ H Q) (h : u D (σ.set i (some (bif b then x else y))) H) : tSeq (tAsg (tIf c (tC x) (tC y)) (gName i)) u D σ H := by
  refine hc _ ?_
  cases b <;> exact h
theorem lefts_take (v : Nat) {rs : List Ru} {u : List Nat} {i : Nat} {r : Ru} {n : Nat} (h1 : rs[i]? = some r) (h2 : u[i]? = some n) (s : Int) : lefts v ((psOf rs u).take (i + 1)) s = lefts v ((psOf rs u).take i) s + (n : Int) * ((xs r.2).count v : Nat) - (if r.1 = v then (n : Int) else 0) := by
  rw [take_at (ps_at h1 h2), lefts_app]
theorem lets_take (l : Nat) {rs : List Ru} {u : List Nat} {i : Nat} {r : Ru} {n : Nat} (h1 : rs[i]? = some r) (h2 : u[i]? = some n) (s : Int) : lets l ((psOf rs u).take (i + 1)) s = lets l ((psOf rs u).take i) s + (n : Int) * ((Gm.ls r.2).count l : Nat) := by
  rw [take_at (ps_at h1 h2), lets_app]
theorem balB_false {rs : List Ru} {u : List Nat} {v : Nat} (hv : v < 4) (h : lefts v (psOf rs u) (if v = 0 then 1 else 0) ≠ 0) : balB rs u = false := by
  unfold balB
  rw [Bool.eq_false_iff]
  intro z
  have := List.all_eq_true.mp z v (List.mem_range.mpr hv)
  exact h (of_decide_eq_true this)
theorem balB_true {rs : List Ru} {u : List Nat} (h : ∀ v, v < 4 → lefts v (psOf rs u) (if v = 0 then 1 else 0) = 0) : balB rs u = true := by
  unfold balB
  rw [List.all_eq_true]
  intro v hv
  exact decide_eq_true (h v (List.mem_range.mp hv))
theorem ps_take_all {rs : List Ru} {u : List Nat} : (psOf rs u).take rs.length = psOf rs u := List.take_of_length_le (by unfold psOf; rw [List.length_zip]; omega)
section
variable {P : Program} {w : World} {K : PySem.W.Frag} {mg : Str → Option Value} {base : Heap}
theorem ok_balL (B : Bl mg) (D : Dt K mg "_law_balanced" s__law_balanced pr__law_balanced) : Df P w K mg base CX0 1 "_law_balanced" pr__law_balanced (spBalL K) := by
  refine D.ok sc__law_balanced (fun vs H Q E h => ?_) (fun f cdv A outer s H vs Q E hr h => ?_)
  · obtain ⟨rv, uv, m, rs, u, rfl, _⟩ := h
    rfl
  · obtain ⟨rv, uv, m, rs, u, rfl, hrs, hu, o, hul, k⟩ := h
    obtain ⟨a, zs, rfl, hs, hl, hat, _⟩ := q_view hrs
    obtain ⟨b, rfl, hb⟩ := row_view hu
    have lu : ((nI u).map V.int).length = u.length := by rw [List.length_map, nI_length]
    have hm : min zs.length ((nI u).map V.int).length = rs.length := by rw [hl, lu, hul, Nat.min_self]
    refine ⟨_, (pss_cons (ps_for PassesOwn.never rfl (pi_range1 (by rfl) B.range (pa_cons pe_int pa_nil)) (pg_name (i := 2) sc__law_balanced.nd rfl (Or.inl rfl)) (pss_cons (ps_set (i := 3) sc__law_balanced.nd rfl (Or.inl rfl) (pe_ifExp (pt_cmpR op_eq (pv 2) pe_int (nomark _)) pe_int pe_int)) (pss_cons (ps_for PassesOwn.never rfl (pi_zipA (by rfl) B.zip (pa_cons (pv 0) (pa_cons (pv 1) pa_nil))) (pg_tup rfl (pgs_cons (pg_name (i := 4) sc__law_balanced.nd rfl (Or.inl rfl)) (pgs_cons (pg_name (i := 5) sc__law_balanced.nd rfl (Or.inl rfl)) pgs_nil))) (pss_cons (ps_set (i := 3) sc__law_balanced.nd rfl (Or.inl rfl) (pe_op op_add (pv 3) (pe_op op_mul (pv 5) (pe_bmT PySem.F.plainAttrs_tuple PySem.F.slot_tuple_count PySem.F.type_tuple_count (mt_tcountD (hu65 hr)) (pe_ix ix_tup (pv 4) pe_int (fun _ _ => rfl)) (pa_cons (pe_tupF (pa_cons pe_str (pa_cons (pv 2) pa_nil))) pa_nil))))) (pss_one (ps_if (pt_cmpR op_eq (pe_ix ix_tup (pv 4) pe_int (fun _ _ => rfl)) (pv 2) (nomark _)) (pss_one (ps_set (i := 3) sc__law_balanced.nd rfl (Or.inl rfl) (pe_op op_sub (pv 3) (pv 5)))) pss_nil)))) (pss_one (ps_if (pt_cmpR op_ne (pv 3) pe_int (nomark _)) (pss_one (ps_ret pe_bl)) pss_nil))))) (pss_one (ps_ret pe_bl))), ?_⟩
    walk_at "nf"
    walk_at "sx"
    refine ⟨4, rfl, by decide, by decide, for_it walk_range (fun v σ H' => Same H H' ∧ (∃ v2 v3 v4 v5, σ = [some (V.ref a), some (.ref b), v2, v3, v4, v5]) ∧ ∀ x, x < v → lefts x (psOf rs u) (if x = 0 then 1 else 0) = 0) ⟨Same.refl _, ⟨_, _, _, _, rfl⟩, fun x hx => by omega⟩ (fun _ _ _ _ _ => trivial) (fun v x σ H1 H2 hv p y => ?_) (fun σ H1 p => ?_)⟩
    · obtain ⟨s1, ⟨v2, v3, v4, v5, rfl⟩, hz⟩ := p
      obtain ⟨rfl, rfl⟩ := y
      have hv4 : v < 4 := by simpa using hv
      refine sq_ifc (b := decide (v = 0)) (fun Q q => ⟨_, rfl, rfl, _, rfl, ?_⟩) ?_
      · have : (decide (V.int (0 + (v : Int)) = V.int 0)) = decide (v = 0) := by
          by_cases c : v = 0
          · subst c; rfl
          · rw [decide_eq_false c, decide_eq_false (fun z => c (by have := V.int.inj z; omega))]
        show (fun k H1 => _) _ _
        rw [this]
        exact q
      have e0 : (bif decide (v = 0) then V.int 1 else V.int 0) = V.int (if v = 0 then 1 else 0) := by by_cases c : v = 0 <;> simp [c]
      rw [e0]
      walk_at "nf"
      walk_at "sx"
      refine ⟨_, rfl, _, rfl, a, b, _, _, rfl, .inr ⟨s1.seqT hs.sq, s1.seqT hb, for_it walk_zipT (fun i σ H' => Same H H' ∧ ∃ v4 v5, σ = [some (V.ref a), some (.ref b), some (.int (0 + (v : Int))), some (.int (lefts v ((psOf rs u).take i) (if v = 0 then 1 else 0))), v4, v5]) ⟨s1, _, _, rfl⟩ (fun i σ H' _ p => ⟨p.1.seqT hs.sq, p.1.seqT hb⟩) (fun i x σ H3 H4 hi p y => ?_) (fun σ H3 p => ?_)⟩⟩
      · obtain ⟨s3, v4, v5, rfl⟩ := p
        obtain ⟨T, x1, x2, rfl, hT, rfl, h1, h2⟩ := y
        obtain ⟨r, hr1, hdr⟩ := hat i x1 h1
        obtain ⟨n, hn1, rfl⟩ := nI_get h2
        have hrm := List.mem_of_getElem? hr1
        have s4 : Same H3 (upd H3 T (.tup [x1, V.int (n : Nat)])) := Same.new hT
        obtain ⟨p1, u1, rfl, hs1, hd1⟩ := ru_q ((hdr.to s3).to s4)
        obtain ⟨b1, ys1, rfl, hb1, _⟩ := hd1.tup_inv
        have hcl : (xs r.2).count v ≤ 6 := Nat.le_trans List.count_le_length (Nat.le_trans (List.length_filterMap_le _ _) (o.body r hrm))
        walk_at "nf"
        refine ⟨T, _, rfl, .of upd_same, rfl, ?_⟩
        walk_at "sx"
        refine ⟨_, hs1.sq, _, rfl, ⟨_, rfl, _, hb1⟩, by decide, fun q oq hq hoq => ?_⟩
        have s5 := Same.new (o := .frz oq (.tup [V.str (Str.ofString "variable"), V.int (0 + (v : Int))])) hq
        refine ⟨_, itD (.X v), r.2.map itD, rfl, (hd1.dp).to s5, ?_, lay_its r.2, ?_, ?_⟩
        · have zv : (0 + (v : Int)) = ((v : Nat) : Int) := by omega
          rw [zv]
          exact .tup (.inl (.inr ⟨_, upd_same⟩)) (.cons (.str _) (.cons (.int _) .nil))
        · unfold SeqAt.shaped
          rw [show (itD (.X v)).canLay0 = true from by simp only [itD, PyData.canLay0, PyData.canLayAll0, Bool.and_true]; exact kd_ok (.X v)]
          rfl
        · rw [count_X]
          refine ⟨_, rfl, .inr ⟨by omega, by omega⟩, ?_⟩
          have et := lefts_take v hr1 hn1 (if v = 0 then 1 else 0)
          refine ⟨_, s5.seqT hs1.sq, _, rfl, rfl, ?_⟩
          by_cases c : r.1 = v
          · rw [decide_eq_true (by rw [c]; congr 1; omega)]
            rw [if_pos c] at et
            exact iteT ⟨(s3.trans s4).trans s5, by rw [et], _, rfl⟩
          · rw [decide_eq_false (fun z => c (by have := V.int.inj z; omega))]
            rw [if_neg c] at et
            exact iteF ⟨(s3.trans s4).trans s5, by rw [et]; omega, _, rfl⟩
      · obtain ⟨s3, v4, v5, rfl⟩ := p
        rw [hm, ps_take_all]
        walk_at "nf"
        refine ⟨_, rfl, rfl, _, rfl, ?_⟩
        by_cases c : lefts v (psOf rs u) (if v = 0 then 1 else 0) = 0
        · rw [decide_eq_true (by rw [c])]
          refine iteF ⟨s3, ⟨_, _, _, _, rfl⟩, fun x hx => ?_⟩
          by_cases e : x = v
          · rw [e]; exact c
          · exact hz x (by omega)
        · rw [decide_eq_false (fun z => c (V.int.inj z))]
          refine iteT ?_
          have := k _ s3
          rwa [balB_false hv4 c] at this
    · obtain ⟨s1, ⟨v2, v3, v4, v5, rfl⟩, hz⟩ := p
      walk_at "nf"
      have := k _ s1
      rwa [balB_true (fun v hv => hz v (by simpa using hv))] at this
theorem inV_nat (v : Nat) (M : List Nat) : inV (.int (v : Nat)) ((nI M).map V.int) = M.contains v := by
  induction M with
  | nil => rfl
  | cons n M ih =>
    show (eqV (.int (n : Nat)) (.int (v : Nat)) || inV (.int (v : Nat)) ((nI M).map V.int)) = _
    rw [ih, List.contains_cons]
    congr 1
    show decide _ = _
    by_cases c : v = n
    · subst c; simp
    · have : ¬ ((n : Int) = (v : Int)) := by omega
      simp [c, this]
theorem flat_nat (M : List Nat) : ((nI M).map V.int).all flatV = true := by
  rw [List.all_eq_true]
  intro x hx
  obtain ⟨i, _, rfl⟩ := List.mem_map.mp hx
  rfl
theorem xs_le (its : List Itm) : (xs its).length ≤ its.length := List.length_filterMap_le _ _
theorem metOne_len {f : List Nat} {p : Ru × Nat} (h : p.1.2.length ≤ 6) : (metOne f p).length ≤ f.length + 6 := by
  unfold metOne
  have := xs_le p.1.2
  split
  · rw [List.length_append]; omega
  · omega
theorem metRound_snoc (ps : List (Ru × Nat)) (p : Ru × Nat) (f : List Nat) : metRound (ps ++ [p]) f = metOne (metRound ps f) p := by
  unfold metRound
  rw [List.foldl_append]
  rfl
theorem metRound_len {m : Nat} {rs : List Ru} {u : List Nat} (o : GOk m rs) : ∀ (ps : List (Ru × Nat)) (f : List Nat), (∀ p ∈ ps, p.1.2.length ≤ 6) → (metRound ps f).length ≤ f.length + 6 * ps.length
  | [], f, _ => by simp [metRound]
  | p :: ps, f, h => by
    have a := metRound_len (u := u) o ps (metOne f p) fun q hq => h q (List.mem_cons_of_mem _ hq)
    have b := metOne_len (f := f) (h p (List.mem_cons_self ..))
    show (metRound ps (metOne f p)).length ≤ _
    rw [List.length_cons]
    omega
theorem ps_body {m : Nat} {rs : List Ru} {u : List Nat} (o : GOk m rs) : ∀ p ∈ psOf rs u, p.1.2.length ≤ 6 := fun p hp => o.body _ (List.of_mem_zip hp).1
theorem metN_len {m : Nat} {rs : List Ru} {u A : List Nat} (o : GOk m rs) : ∀ k, (metN (psOf rs u) k A).length ≤ A.length + 48 * k
  | 0 => by simp [metN]
  | k + 1 => by
    have a := metRound_len (u := u) o (psOf rs u) (metN (psOf rs u) k A) (ps_body o)
    have b := metN_len (u := u) (A := A) o k
    have c : (psOf rs u).length ≤ 8 := by unfold psOf; rw [List.length_zip]; have := o.l2; omega
    show (metRound _ _).length ≤ _
    omega
theorem ok_met (B : Bl mg) (D : Dt K mg "_law_met" s__law_met pr__law_met) : Df P w K mg base CX0 1 "_law_met" pr__law_met (spMet K) := by
  refine D.ok sc__law_met (fun vs H Q E h => ?_) (fun f cdv A outer s H vs Q E hr h => ?_)
  · obtain ⟨rv, uv, a, m, rs, u, A, rfl, _⟩ := h
    rfl
  · obtain ⟨rv, uv, av, m, rs, u, A, rfl, hrs, hu, hav, hA, o, hul, k⟩ := h
    obtain ⟨a, zs, rfl, hs, hl, hat, _⟩ := q_view hrs
    obtain ⟨b, rfl, hb⟩ := row_view hu
    have lu : ((nI u).map V.int).length = u.length := by rw [List.length_map, nI_length]
    have hm : min zs.length ((nI u).map V.int).length = rs.length := by rw [hl, lu, hul, Nat.min_self]
    refine ⟨_, (pss_cons (ps_set (i := 3) sc__law_met.nd rfl (Or.inl rfl) (pe_callTy call_list_of (by rfl) B.list PyProof.Rows.boot_list (pa_cons (pv 2) pa_nil))) (pss_cons (ps_for PassesOwn.never rfl (pi_range1 (by rfl) B.range (pa_cons pe_int pa_nil)) (pg_name (i := 4) sc__law_met.nd rfl (Or.inl rfl)) (pss_one (ps_for PassesOwn.never rfl (pi_zipA (by rfl) B.zip (pa_cons (pv 0) (pa_cons (pv 1) pa_nil))) (pg_tup rfl (pgs_cons (pg_name (i := 5) sc__law_met.nd rfl (Or.inl rfl)) (pgs_cons (pg_name (i := 6) sc__law_met.nd rfl (Or.inl rfl)) pgs_nil))) (pss_one (ps_if (PW.pt (pw_and (pt_cmpR op_gt (pv 6) pe_int (nomark _)) (pw_and1 (pt_cmpR op_in_seq (pe_ix ix_tup (pv 5) pe_int (fun _ _ => rfl)) (pv 3) (by rfl))))) (pss_one (ps_set (i := 3) sc__law_met.nd rfl (Or.inl rfl) (pe_op op_cat (pv 3) (pe_lc (own := [("item", 7)]) (g := gName 7) (tt := (tTest (tOp rEq (tOp (rIxT K) (tVar 7) (tC (V.int 0))) (tC (V.str "variable"))))) (te := tOp (rIxT K) (tVar 7) (tC (V.int 1))) (by rfl) sc__law_met.nd (pi_tup (pe_ix ix_tup (pv 5) pe_int (fun _ _ => rfl))) (blkOk_by (own := [("item", 7)]) (N := nm__law_met) (sc := defScope s__law_met) (by decide +kernel)) (fun _ _ _ _ _ => pg_name (i := 7) sc__law_met.nd rfl (Or.inl rfl)) (fun _ _ _ _ _ => (pts_one (pt_cmpR op_eq (pe_ix ix_tup (pv 7) pe_int (fun _ _ => rfl)) pe_str (nomark _)))) (fun _ _ _ _ _ => (pe_ix ix_tup (pv 7) pe_int (fun _ _ => rfl))))))) pss_nil))))) (pss_one (ps_ret (pv 3))))), ?_⟩
    walk_at "nf"
    walk_at "sx"
    refine ⟨_, .inl hav, fun q0 hq0 => ?_⟩
    refine ⟨4, rfl, by decide, by decide, for_it walk_range (fun i σ H' => Same H H' ∧ ∃ q v4 v5 v6 v7, σ = [some (V.ref a), some (.ref b), some (.ref av), some (.ref q), v4, v5, v6, v7] ∧ H q = none ∧ H' q = some (.lst ((nI (metN (psOf rs u) i A)).map V.int))) ⟨Same.new hq0, q0, _, _, _, _, rfl, hq0, upd_same⟩ (fun _ _ _ _ _ => trivial) (fun i x σ H1 H2 hi p y => ?_) (fun σ H1 p => ?_)⟩
    · obtain ⟨s1, q, v4, v5, v6, v7, rfl, hq, hq1⟩ := p
      obtain ⟨rfl, rfl⟩ := y
      have hi4 : i < 4 := by simpa using hi
      walk_at "nf"
      refine ⟨_, rfl, _, rfl, a, b, _, _, rfl, .inr ⟨s1.seqT hs.sq, s1.seqT hb, for_it walk_zipT (fun j σ H' => Same H H' ∧ ∃ q v5 v6 v7, σ = [some (V.ref a), some (.ref b), some (.ref av), some (.ref q), some (.int (0 + (i : Int))), v5, v6, v7] ∧ H q = none ∧ H' q = some (.lst ((nI (metRound ((psOf rs u).take j) (metN (psOf rs u) i A))).map V.int))) ⟨s1, q, _, _, _, rfl, hq, hq1⟩ (fun i σ H' _ p => ⟨p.1.seqT hs.sq, p.1.seqT hb⟩) (fun j x σ H3 H4 hj p y => ?_) (fun σ H3 p => ?_)⟩⟩
      · obtain ⟨s3, q, v5, v6, v7, rfl, hq, hq3⟩ := p
        obtain ⟨T, x1, x2, rfl, hT, rfl, h1, h2⟩ := y
        obtain ⟨r, hr1, hdr⟩ := hat j x1 h1
        obtain ⟨n, hn1, rfl⟩ := nI_get h2
        have hrm := List.mem_of_getElem? hr1
        have s4 : Same H3 (upd H3 T (.tup [x1, V.int (n : Nat)])) := Same.new hT
        obtain ⟨p1, u1, rfl, hs1, hd1⟩ := ru_q ((hdr.to s3).to s4)
        obtain ⟨b1, ys1, rfl, hb1, hyl, hyat, _⟩ := q_view hd1
        have hq4 := s4 _ _ hq3
        have ep := take_at (ps_at hr1 hn1)
        have e2 := metRound_snoc ((psOf rs u).take j) (r, n) (metN (psOf rs u) i A)
        rw [← ep] at e2
        have hrb := o.body r hrm
        have lM : (metRound ((psOf rs u).take j) (metN (psOf rs u) i A)).length ≤ 11000 := by
          have a1 := metRound_len (u := u) o ((psOf rs u).take j) (metN (psOf rs u) i A) (fun p hp => ps_body o p (List.mem_of_mem_take hp))
          have a2 := metN_len (u := u) (A := A) o i
          have a3 : ((psOf rs u).take j).length ≤ 8 := by rw [List.length_take]; unfold psOf; rw [List.length_zip]; have := o.l2; omega
          omega
        generalize hMe : metRound ((psOf rs u).take j) (metN (psOf rs u) i A) = M at hq3 hq4 e2 lM
        walk_at "nf"
        refine ⟨T, _, rfl, .of upd_same, rfl, ?_⟩
        walk_at "sx"
        by_cases c1 : 0 < n
        · rw [if_pos (decide_eq_true (by omega : (0 : Int) < (n : Int)))]
          refine ⟨_, hs1.sq, _, rfl, q, _, rfl, .inl (.of hq4), rfl, flat_nat M, _, rfl, ?_⟩
          rw [if_neg (by decide : ¬ (false = true)), inV_nat]
          cases c2 : M.contains r.1 with
          | true =>
            have c3 : r.1 ∈ M := by simpa using c2
            have e3 : metOne M (r, n) = M ++ xs r.2 := by unfold metOne; rw [if_pos ⟨c1, c3⟩]
            rw [e3] at e2
            rw [if_pos rfl]
            refine ⟨_, rfl, p1, _, 1, _, rfl, rfl, hs1.sq, rfl, b1, rfl, ⟨_, hb1.sq⟩, fun D hD => lcF (walk_tup (K := K) (a := b1) (xs := ys1)) hD (by rw [hyl]; exact slt (by omega)) (fun i => isX (r.2.getD i (.L 0))) (fun i y H => y = .int ((r.2.getD i (.L 0)).no : Nat)) (fun i y H H' e n q => q) (fun H1 e => Same.seqT e hb1.sq) (fun i x H5 H6 Q1 Q0 hi e y q1 q0 => ?_) (fun H5 ys e hD1 g => ?_)⟩
            · obtain ⟨rfl, hx1⟩ := y
              obtain ⟨t, ht, hdt⟩ := hyat i x hx1
              obtain ⟨p2, rfl, hs2⟩ := it_q (hdt.to e)
              have et : r.2.getD i (.L 0) = t := by rw [List.getD_eq_getElem?_getD, ht]; rfl
              rw [et] at q1 q0
              refine ⟨rfl, _, rfl, p2, _, 0, _, rfl, rfl, hs2.sq, rfl, rfl, _, rfl, ?_⟩
              have ek : decide (V.str t.kd = V.str (Str.ofString "variable")) = isX t := by rw [← kd_var]; exact decide_eq_decide.mpr ⟨fun z => V.str.inj z, fun z => by rw [z]⟩
              rw [ek]
              cases c : isX t with
              | true =>
                exact iteT ⟨_, rfl, p2, _, 1, _, rfl, rfl, hs2.sq, rfl, q1 c _ _ rfl (Same.refl _)⟩
              | false =>
                exact iteF (q0 c _ (Same.refl _))
            · have ev := g.vals (fun i => V.int ((r.2.getD i (.L 0)).no : Nat)) (fun i y h => h)
              have hx : ys = (nI (xs r.2)).map V.int := by
                rw [ev, hyl, xs_filter, nI, List.map_map, List.map_map]
                rfl
              subst hx
              refine ⟨q, D, _, _, rfl, rfl, e _ _ hq4, hD1, ?_, fun p hp => ?_⟩
              · rw [List.length_map, List.length_map, nI_length, nI_length]
                exact Nat.le_of_lt (slt (by have := xs_le r.2; omega))
              · have hHp : H p = none := Same.free ((s3.trans s4).trans e) hp
                refine ⟨((s3.trans s4).trans e).trans (Same.new hp), p, rfl, hHp, ?_⟩
                rw [upd_same, e2, nI_app, List.map_append]
          | false =>
            have c3 : ¬ r.1 ∈ M := by simpa using c2
            have e3 : metOne M (r, n) = M := by unfold metOne; rw [if_neg (fun z => c3 z.2)]
            rw [e3] at e2
            rw [if_neg (by decide)]
            exact ⟨s3.trans s4, hq, by rw [e2]; exact hq4⟩
        · rw [if_neg (by rw [decide_eq_true_iff]; omega)]
          have e3 : metOne M (r, n) = M := by unfold metOne; rw [if_neg (fun z => c1 z.1)]
          rw [e3] at e2
          exact ⟨s3.trans s4, hq, by rw [e2]; exact hq4⟩
      · obtain ⟨s3, q, v5, v6, v7, rfl, hq, hq3⟩ := p
        rw [hm, ps_take_all] at hq3
        exact ⟨s3, q, _, _, _, _, rfl, hq, hq3⟩
    · obtain ⟨s1, q, v4, v5, v6, v7, rfl, hq, hq1⟩ := p
      walk_at "nf"
      exact ⟨_, rfl, k _ q s1 hq hq1⟩
end
end Ws
/-! ## E46g -/
namespace Ws
open PySem PySem.Spec PyProof.Rows L2 RZ Gm
local macro_rules | `(tactic| walk_at "nf") => `(tactic| dsimp only [tNext, tSeq, tDrop, tRet, tRetN, tIfS, tAsg, gName, gTup, gCons, gNil, tVar, tC, tOp, tUn, rI, rI0, rU, rEq, rNe, tTest, tChain, tAnd, tOr, tNot, tAndV, tOrV, tNotV, tIf, tCB, tCKw, tCons, tNil, tTup, tLst, tCa, tCallS, tB, rIxT, rIxL, rIxS, cxOf, Cx.nox, Cx.wish, Cx.blk, L2.start, tPar, tPar3, tNever, tYes, tBits, tRz, tBM, rAppend, tyV, tXf, suiteEnds, gSub, rSetL, tBreak, rMax, tDGet, sDPut, tSl, tNoPart, tPart, tDisp, tPairs, tDGet2, tDNewK, tAugS, ipI, rGetL, tDIn, tDNotIn, tBM0, rPop, tBMT, tTupF])
local macro_rules | `(tactic| walk_at "sx") => `(tactic| simp only [wipe, List.cons.injEq, and_assoc, exists_and_left, and_true, List.map_cons, List.map_nil, List.length_cons, List.length_nil, List.cons_append, List.nil_append, List.append_nil, Nat.reduceAdd, Nat.reduceSub, List.replicate, List.getElem?_cons_zero, List.getElem?_cons_succ, List.set_cons_zero, List.set_cons_succ, Option.some.injEq, V.int.injEq, V.bl.injEq, V.ref.injEq, V.str.injEq, exists_eq_left', exists_eq_left, true_and, Bool.true_eq_false, Bool.false_eq_true, if_true, if_false])

theorem ps_take {rs : List Ru} {u : List Nat} {i : Nat} {r : Ru} {n : Nat} (h1 : rs[i]? = some r) (h2 : u[i]? = some n) : (psOf rs u).take (i + 1) = (psOf rs u).take i ++ [(r, n)] := take_at (ps_at h1 h2)
def letsV (m : Nat) (ps : List (Ru × Nat)) : List V := (List.range m).map fun l => .int (lets l ps 0)
def letsW (m j : Nat) (ps : List (Ru × Nat)) (r : Ru) (n : Nat) : List V := (List.range m).map fun l => .int (lets l ps 0 + if l < j then (n : Int) * ((Gm.ls r.2).count l : Nat) else 0)
theorem rep_zero (m : Nat) {rs : List Ru} {u : List Nat} : (List.replicate m [V.int 0]).flatten = letsV m ((psOf rs u).take 0) := by
  unfold letsV
  show _ = (List.range m).map fun _ => V.int 0
  induction m with
  | zero => rfl
  | succ m ih =>
    rw [List.replicate_succ', List.flatten_append, ih, List.range_succ, List.map_append]
    rfl
theorem set_map {α : Type} (f g : Nat → α) (m j : Nat) (v : α) (h1 : g j = v) (h2 : ∀ l, l ≠ j → g l = f l) : ((List.range m).map f).set j v = (List.range m).map g := by
  apply List.ext_getElem?
  intro i
  rw [List.getElem?_set]
  simp only [List.getElem?_map, List.length_map, List.length_range]
  by_cases c : j = i
  · subst c
    rw [if_pos rfl]
    by_cases d : j < m
    · rw [if_pos d, List.getElem?_range d]
      simp [h1]
    · rw [if_neg d, List.getElem?_eq_none (by simp; omega)]
      rfl
  · rw [if_neg c]
    by_cases d : i < m
    · rw [List.getElem?_range d]
      simp [h2 i (fun z => c z.symm)]
    · rw [List.getElem?_eq_none (by simp; omega)]
      rfl
theorem letsW_zero (m : Nat) (ps : List (Ru × Nat)) (r : Ru) (n : Nat) : letsW m 0 ps r n = letsV m ps := by
  unfold letsW letsV
  simp
theorem letsW_set {m j : Nat} (ps : List (Ru × Nat)) (r : Ru) (n : Nat) : (letsW m j ps r n).set j (.int (lets j ps 0 + (n : Int) * ((Gm.ls r.2).count j : Nat))) = letsW m (j + 1) ps r n := by
  unfold letsW
  refine set_map _ _ _ _ _ ?_ fun l hl => ?_
  · rw [if_pos (by omega)]
  · by_cases c : l < j
    · rw [if_pos c, if_pos (by omega)]
    · rw [if_neg c, if_neg (by omega)]
theorem letsW_all {m : Nat} {rs : List Ru} {u : List Nat} {i : Nat} {r : Ru} {n : Nat} (h1 : rs[i]? = some r) (h2 : u[i]? = some n) : letsW m m ((psOf rs u).take i) r n = letsV m ((psOf rs u).take (i + 1)) := by
  unfold letsW letsV
  refine List.map_congr_left fun l hl => ?_
  rw [if_pos (List.mem_range.mp hl), lets_take l h1 h2]
theorem letsW_at {m j : Nat} (hj : j < m) (ps : List (Ru × Nat)) (r : Ru) (n : Nat) : (letsW m j ps r n)[j]? = some (.int (lets j ps 0)) := by
  unfold letsW
  rw [List.getElem?_map, List.getElem?_range hj]
  simp
theorem ixN_nat {n j : Nat} (h : j < n) : ixN n (j : Nat) = some j := by
  unfold ixN
  rw [if_pos (by omega), if_pos (by omega), Int.toNat_natCast]
theorem atI_get {xs : List V} {j : Nat} {v : V} (h : xs[j]? = some v) : atI xs (j : Nat) = some v := by
  unfold atI
  rw [ixN_nat (List.getElem?_eq_some_iff.mp h).1]
  exact h
section
variable {P : Program} {w : World} {K : PySem.W.Frag} {mg : Str → Option Value} {base : Heap}
theorem ok_linked (B : Bl mg) (F1 : Df P w K mg base CX0 1 "_law_met" pr__law_met (spMet K)) (D : Dt K mg "_law_linked" s__law_linked pr__law_linked) : Df P w K mg base CX0 2 "_law_linked" pr__law_linked (spLinked K) := by
  refine D.ok sc__law_linked (fun vs H Q E h => ?_) (fun f cdv A outer s H vs Q E hr h => ?_)
  · obtain ⟨rv, uv, a, m, rs, u, A, rfl, _⟩ := h
    rfl
  · obtain ⟨rv, uv, av, m, rs, u, A, rfl, hrs, hu, hav, hA, o, hul, k⟩ := h
    obtain ⟨a, zs, rfl, hs, hl, hat, _⟩ := q_view hrs
    obtain ⟨b, rfl, hb⟩ := row_view hu
    have lu : ((nI u).map V.int).length = u.length := by rw [List.length_map, nI_length]
    have hm : min zs.length ((nI u).map V.int).length = rs.length := by rw [hl, lu, hul, Nat.min_self]
    refine ⟨_, (pss_cons (ps_set (i := 3) sc__law_linked.nd rfl (Or.inl rfl) (pe_f F1 (hr.mono (by decide)) pass0 (pa_cons (pv 0) (pa_cons (pv 1) (pa_cons (pv 2) pa_nil))))) (pss_cons (ps_for PassesOwn.never rfl (pi_zipA (by rfl) B.zip (pa_cons (pv 0) (pa_cons (pv 1) pa_nil))) (pg_tup rfl (pgs_cons (pg_name (i := 4) sc__law_linked.nd rfl (Or.inl rfl)) (pgs_cons (pg_name (i := 5) sc__law_linked.nd rfl (Or.inl rfl)) pgs_nil))) (pss_one (ps_if (PW.pt (pw_and (pt_cmpR op_gt (pv 5) pe_int (nomark _)) (pw_and1 (pt_cmpR op_notIn_seq (pe_ix ix_tup (pv 4) pe_int (fun _ _ => rfl)) (pv 3) (by rfl))))) (pss_one (ps_ret pe_bl)) pss_nil))) (pss_one (ps_ret pe_bl)))), ?_⟩
    walk_at "nf"
    walk_at "sx"
    refine ⟨_, _, _, m, rs, u, A, rfl, hrs, hu, hav, hA, o, hul, fun H1 p s1 hp hp1 => ?_⟩
    generalize hMe : metN (psOf rs u) 4 A = M at hp1 k
    refine ⟨_, rfl, _, rfl, a, b, _, _, rfl, .inr ⟨s1.seqT hs.sq, s1.seqT hb, for_it walk_zipT (fun j σ H' => Same H1 H' ∧ (∃ v4 v5, σ = [some (V.ref a), some (.ref b), some (.ref av), some (.ref p), v4, v5]) ∧ (((psOf rs u).take j).all fun p => p.2 == 0 || M.contains p.1.1) = true) ⟨Same.refl _, ⟨_, _, rfl⟩, rfl⟩ (fun i σ H' _ q => ⟨(s1.trans q.1).seqT hs.sq, (s1.trans q.1).seqT hb⟩) (fun j x σ H3 H4 hj q y => ?_) (fun σ H3 q => ?_)⟩⟩
    · obtain ⟨s3, ⟨v5, v6, rfl⟩, hc⟩ := q
      obtain ⟨T, x1, x2, rfl, hT, rfl, h1, h2⟩ := y
      obtain ⟨r, hr1, hdr⟩ := hat j x1 h1
      obtain ⟨n, hn1, rfl⟩ := nI_get h2
      have hrm := List.mem_of_getElem? hr1
      have s4 : Same H3 (upd H3 T (.tup [x1, V.int (n : Nat)])) := Same.new hT
      obtain ⟨p1, u1, rfl, hs1, hd1⟩ := ru_q ((hdr.to (s1.trans s3)).to s4)
      have hp4 := (s3.trans s4) _ _ hp1
      walk_at "nf"
      refine ⟨T, _, rfl, .of upd_same, rfl, ?_⟩
      walk_at "sx"
      have ea : (((psOf rs u).take (j + 1)).all fun p => p.2 == 0 || M.contains p.1.1) = (n == 0 || M.contains r.1) := by
        rw [ps_take hr1 hn1, List.all_append, hc]
        simp
      by_cases c1 : 0 < n
      · rw [if_pos (decide_eq_true (by omega : (0 : Int) < (n : Int)))]
        refine ⟨_, hs1.sq, _, rfl, p, _, rfl, .inl (.of hp4), rfl, flat_nat M, _, rfl, ?_⟩
        rw [if_pos rfl, inV_nat]
        cases c2 : M.contains r.1 with
        | true => exact iteF ⟨s3.trans s4, ⟨_, rfl⟩, by rw [ea, c2]; simp⟩
        | false =>
          have : conB rs u M = false := by
            unfold conB
            rw [Bool.eq_false_iff]
            intro z
            have := List.all_eq_true.mp z (r, n) (List.mem_of_getElem? (ps_at hr1 hn1))
            rw [c2] at this
            simp at this
            omega
          refine iteT ?_
          have q := k _ ((s1.trans s3).trans s4)
          rwa [this] at q
      · rw [if_neg (by rw [decide_eq_true_iff]; omega)]
        exact ⟨s3.trans s4, ⟨_, rfl⟩, by rw [ea]; simp; omega⟩
    · obtain ⟨s3, ⟨v5, v6, rfl⟩, hc⟩ := q
      walk_at "nf"
      rw [hm, ps_take_all] at hc
      have q := k _ (s1.trans s3)
      rwa [show conB rs u M = true from hc] at q
end
end Ws
/-! ## E46h -/
namespace Ws
open PySem PySem.Spec PyProof.Rows L2 RZ Gm
local macro_rules | `(tactic| walk_at "nf") => `(tactic| dsimp only [tNext, tSeq, tDrop, tRet, tRetN, tIfS, tAsg, gName, gTup, gCons, gNil, tVar, tC, tOp, tUn, rI, rI0, rU, rEq, rNe, tTest, tChain, tAnd, tOr, tNot, tAndV, tOrV, tNotV, tIf, tCB, tCKw, tCons, tNil, tTup, tLst, tCa, tCallS, tB, rIxT, rIxL, rIxS, cxOf, Cx.nox, Cx.wish, Cx.blk, L2.start, tPar, tPar3, tNever, tYes, tBits, tRz, tBM, rAppend, tyV, tXf, suiteEnds, gSub, rSetL, tBreak, rMax, tDGet, sDPut, tSl, tNoPart, tPart, tDisp, tPairs, tDGet2, tDNewK, tAugS, ipI, rGetL, tDIn, tDNotIn, tBM0, rPop, tBMT, tTupF])
local macro_rules | `(tactic| walk_at "sx") => `(tactic| simp only [wipe, List.cons.injEq, and_assoc, exists_and_left, and_true, List.map_cons, List.map_nil, List.length_cons, List.length_nil, List.cons_append, List.nil_append, List.append_nil, Nat.reduceAdd, Nat.reduceSub, List.replicate, List.getElem?_cons_zero, List.getElem?_cons_succ, List.set_cons_zero, List.set_cons_succ, Option.some.injEq, V.int.injEq, V.bl.injEq, V.ref.injEq, V.str.injEq, exists_eq_left', exists_eq_left, true_and, Bool.true_eq_false, Bool.false_eq_true, if_true, if_false])

structure SN (n : Nat) (d : PyData) : Prop where
  lay : d.canLay0 = true
  dep : d.depth ≤ n
theorem SN.all {n : Nat} : ∀ {ds : List PyData}, (∀ d ∈ ds, SN n d) → PyData.canLayAll0 ds = true ∧ PyData.depthAll ds ≤ n
  | [], _ => ⟨by simp [PyData.canLayAll0], by simp [PyData.depthAll]⟩
  | d :: ds, h => by
    obtain ⟨i1, i2⟩ := SN.all (ds := ds) fun x hx => h x (List.mem_cons_of_mem _ hx)
    have h1 := h d (List.mem_cons_self ..)
    refine ⟨by simp [PyData.canLayAll0, i1, h1.lay], ?_⟩
    have := h1.dep
    simp only [PyData.depthAll]
    omega
theorem SN.list {n : Nat} {ds : List PyData} (h : ∀ d ∈ ds, SN n d) : SN (n + 1) (.list ds) := by
  obtain ⟨h1, h2⟩ := SN.all h
  exact ⟨by simp [PyData.canLay0, h1], by simp only [PyData.depth]; omega⟩
theorem SN.tuple {n : Nat} {ds : List PyData} (h : ∀ d ∈ ds, SN n d) : SN (n + 1) (.tuple ds) := by
  obtain ⟨h1, h2⟩ := SN.all h
  exact ⟨by simp [PyData.canLay0, h1], by simp only [PyData.depth]; omega⟩
theorem SN.shaped {n : Nat} {d : PyData} (h : SN n d) (hn : n ≤ 64) : SeqAt.shaped d = true := by
  have := h.dep
  unfold SeqAt.shaped
  rw [h.lay, decide_eq_true (by omega)]
  rfl
theorem SN.int (z : Int) : SN 0 (.int z) := ⟨by simp [PyData.canLay0], by simp [PyData.depth]⟩
theorem SN.row (ns : List Nat) : SN 1 (rowD ns) := SN.tuple fun d hd => by
  obtain ⟨i, _, rfl⟩ := List.mem_map.mp hd
  exact .int i
theorem SN.ww (r : List Nat × List Nat) : SN 2 (wwD r) := SN.tuple fun d hd => by
  rcases List.mem_cons.mp hd with rfl | hd
  · exact .row _
  · obtain rfl := List.mem_singleton.mp hd
    exact .row _
theorem SN.wws (rs : List (List Nat × List Nat)) : SN 3 (.list (rs.map wwD)) := SN.list fun d hd => by
  obtain ⟨r, _, rfl⟩ := List.mem_map.mp hd
  exact .ww r
theorem SN.rows (rs : List (List Nat)) : SN 2 (.list (rs.map rowD)) := SN.list fun d hd => by
  obtain ⟨r, _, rfl⟩ := List.mem_map.mp hd
  exact .row r
theorem eqv_nil_list (ds : List PyData) : PyData.eqv (.list ds) (.list []) = ds.isEmpty := by
  cases ds <;> rfl
theorem LSt.ne_lst {H : Hp} {a l c : Addr} {n : Nat} {p : Addr} {ys : List V} (h : LSt H a l c n) (e : H p = some (.lst ys)) : p ≠ a := fun z => by
  obtain ⟨cs, ls, m, h⟩ := h
  rw [z, h.top] at e
  cases e
theorem nIv_set (v : List Nat) (t x : Nat) : ((nI v).map V.int).set t (V.int (x : Nat)) = (nI (v.set t x)).map V.int := by
  unfold nI
  rw [List.map_set, List.map_set]
theorem set_le {v : List Nat} {i x k : Nat} (hi : i < v.length) (h : ∀ z ∈ v, z ≤ k) (hx : x ≤ v[i] + 1) (hk : k + 1 ≤ 100 := by decide) : ∀ z ∈ v.set i x, z ≤ 100 := fun z hz => by
  have := h _ (List.getElem_mem hi)
  rcases List.mem_or_eq_of_mem_set hz with m | rfl
  · have := h z m
    omega
  · omega
theorem nIv_at {v : List Nat} {t : Nat} (h : t < v.length) : ((nI v).map V.int)[t]? = some (V.int (v[t] : Nat)) := by
  unfold nI
  rw [List.getElem?_map, List.getElem?_map, List.getElem?_eq_getElem h]
  rfl
end Ws
/-! ## E46k -/
namespace Ws
open PySem PySem.Spec PyProof.Rows L2 RZ Gm
local macro_rules | `(tactic| walk_at "nf") => `(tactic| dsimp only [tNext, tSeq, tDrop, tRet, tRetN, tIfS, tAsg, gName, gTup, gCons, gNil, tVar, tC, tOp, tUn, rI, rI0, rU, rEq, rNe, tTest, tChain, tAnd, tOr, tNot, tAndV, tOrV, tNotV, tIf, tCB, tCKw, tCons, tNil, tTup, tLst, tCa, tCallS, tB, rIxT, rIxL, rIxS, cxOf, Cx.nox, Cx.wish, Cx.blk, L2.start, tPar, tPar3, tNever, tYes, tBits, tRz, tBM, rAppend, tyV, tXf, suiteEnds, gSub, rSetL, tBreak, rMax, tDGet, sDPut, tSl, tNoPart, tPart, tDisp, tPairs, tDGet2, tDNewK, tAugS, ipI, rGetL, tDIn, tDNotIn, tBM0, rPop, tBMT, tTupF])
local macro_rules | `(tactic| walk_at "sx") => `(tactic| simp only [wipe, List.cons.injEq, and_assoc, exists_and_left, and_true, List.map_cons, List.map_nil, List.length_cons, List.length_nil, List.cons_append, List.nil_append, List.append_nil, Nat.reduceAdd, Nat.reduceSub, List.replicate, List.getElem?_cons_zero, List.getElem?_cons_succ, List.set_cons_zero, List.set_cons_succ, Option.some.injEq, V.int.injEq, V.bl.injEq, V.ref.injEq, V.str.injEq, exists_eq_left', exists_eq_left, true_and, Bool.true_eq_false, Bool.false_eq_true, if_true, if_false])

/-! ### displays of plain values -/
def QE (K : PySem.W.Frag) (te : TE) (σ : L2.St) (d : PyData) : Prop := ∀ (H : Hp) (Q : VK), (∀ H' v, Same H H' → Dq K H' d v → Q v H') → te σ H Q
def QEs (K : PySem.W.Frag) (ta : TA) (σ : L2.St) (ds : List PyData) : Prop := ∀ (H : Hp) (Q : List V → Hp → Prop), (∀ H' vs, Same H H' → DqA K H' ds vs → Q vs H') → ta σ H Q
section
variable {K : PySem.W.Frag} {σ : L2.St}
theorem QE.int {i : Int} : QE K (tC (.int i)) σ (.int i) := fun H Q q => q H _ (Same.refl _) .int_
theorem QE.str {s : Str} : QE K (tC (.str s)) σ (.str s) := fun H Q q => q H _ (Same.refl _) .str_
theorem QE.non : QE K (tC .non) σ .none := fun H Q q => q H _ (Same.refl _) (by simp only [Dq])
theorem QE.bl {b : Bool} : QE K (tC (.bl b)) σ (.bool b) := fun H Q q => q H _ (Same.refl _) (by simp only [Dq])
theorem QEs.nil : QEs K tNil σ [] := fun H Q q => q H _ (Same.refl _) .nil_
theorem QEs.cons {te : TE} {ta : TA} {d : PyData} {ds : List PyData} (h : QE K te σ d) (r : QEs K ta σ ds) : QEs K (tCons te ta) σ (d :: ds) := fun H Q q =>
  h H _ fun H1 v e1 hv => r H1 _ fun H2 vs e2 hvs => q H2 _ (e1.trans e2) (.cons_ (hv.to e2) hvs)
theorem QE.tup {ta : TA} {ds : List PyData} (r : QEs K ta σ ds) (hl : ds.length ≤ 1000 := by decide) : QE K (tTupF ta) σ (.tuple ds) := fun H Q q =>
  r H _ fun H1 vs e1 hvs => ⟨by have := hvs.len; exact Nat.le_of_lt (slt (by omega)), fun p o hp ho => q _ _ (e1.then_new hp) (.tup (.new ho) (hvs.new hp))⟩
/-- a list display: a new list -/
theorem QEs.lst {ta : TA} {ds : List PyData} {H : Hp} {Q : VK} (r : QEs K ta σ ds) (q : ∀ H' p ys, Same H H' → H p = none → H' p = some (.lst ys) → DqA K H' ds ys → Q (.ref p) H') (hl : ds.length ≤ 1000 := by decide) : tLst ta σ H Q :=
  r H _ fun H1 vs e1 hvs => ⟨by have := hvs.len; exact Nat.le_of_lt (slt (by omega)), fun p hp => q _ p vs (e1.then_new hp) (Same.free e1 hp) upd_same (hvs.new hp)⟩
end
theorem DqA.rev {K : PySem.W.Frag} {H : Hp} : ∀ {ds : List PyData} {ys : List V}, DqA K H ds ys → DqA K H ds.reverse ys.reverse
  | [], ys, h => by
    rw [h.nil_inv]
    exact .nil_
  | d :: ds, ys, h => by
    obtain ⟨z, zs, rfl, h1, h2⟩ := h.cons_inv
    rw [List.reverse_cons, List.reverse_cons]
    exact h2.rev.app (.one_ h1)
local macro_rules | `(tactic| walk_at "qe") => `(tactic| repeat' first | exact QE.int | exact QE.str | exact QE.non | exact QE.bl | exact QEs.nil | refine QEs.cons ?_ ?_ | refine QE.tup ?_)
def chainR : List Ru := [(0, [.X 1, .L 0, .X 2]), (0, [.X 0, .X 3]), (1, [.X 2, .X 2]), (1, [.L 1]), (2, [.X 3, .X 1]), (2, []), (3, [.L 0]), (3, [])]
abbrev s__law_chain : Stmt := top 45
abbrev nm__law_chain : List Str := ["state", "far", "turn", "found"]
abbrev pr__law_chain : List Str := ["state"]
theorem sc__law_chain : FnScope nm__law_chain pr__law_chain (defScope s__law_chain) := ⟨rfl, rfl, rfl, by decide +kernel, rfl, by decide +kernel, by decide +kernel⟩
section
variable {P : Program} {w : World} {K : PySem.W.Frag} {mg : Str → Option Value} {base : Heap} {SA BG BP : Addr}
def spChain (K : PySem.W.Frag) : Sp := fun vs H Q _ => ∃ (a l c : Addr) (n : Nat), vs = [.ref a] ∧ LSt H a l c n ∧ n ≤ 900000 ∧ ∀ H' x rs, Sbt a l H H' → LSt H' a l c (n + 2) → Dq K H' (grD 2 rs) x → (∀ r, r ∈ rs ↔ r ∈ chainR) → rs.length = 8 → Q x H'
theorem ok_chain (B : Bl mg) (F1 : Df P w K mg base CX0 2 "_law_draw" pr__law_draw spDrawW) (D : Dt K mg "_law_chain" s__law_chain pr__law_chain) :
    Df P w K mg base CX0 3 "_law_chain" pr__law_chain (spChain K) := by
  refine D.ok sc__law_chain (fun vs H Q E h => ?_) (fun f cdv A outer s H vs Q E hr h => ?_)
  · obtain ⟨a, l, c, n, rfl, _⟩ := h
    rfl
  · obtain ⟨a, l, c, n, rfl, hl, hn, k⟩ := h
    refine ⟨_, (pss_cons (ps_set (i := 1) sc__law_chain.nd rfl (Or.inl rfl) (pe_lst (pa_cons (pe_tupF (pa_cons pe_int (pa_cons (pe_tupF (pa_cons (pe_tupF (pa_cons pe_str (pa_cons pe_int pa_nil))) (pa_cons (pe_tupF (pa_cons pe_str (pa_cons pe_int pa_nil))) (pa_cons (pe_tupF (pa_cons pe_str (pa_cons pe_int pa_nil))) pa_nil)))) pa_nil))) (pa_cons (pe_tupF (pa_cons pe_int (pa_cons (pe_tupF (pa_cons (pe_tupF (pa_cons pe_str (pa_cons pe_int pa_nil))) (pa_cons (pe_tupF (pa_cons pe_str (pa_cons pe_int pa_nil))) pa_nil))) pa_nil))) pa_nil)))) (pss_cons (ps_set (i := 1) sc__law_chain.nd rfl (Or.inl rfl) (pe_op op_cat (pv 1) (pe_lst (pa_cons (pe_tupF (pa_cons pe_int (pa_cons (pe_tupF (pa_cons (pe_tupF (pa_cons pe_str (pa_cons pe_int pa_nil))) (pa_cons (pe_tupF (pa_cons pe_str (pa_cons pe_int pa_nil))) pa_nil))) pa_nil))) (pa_cons (pe_tupF (pa_cons pe_int (pa_cons (pe_tupF (pa_cons (pe_tupF (pa_cons pe_str (pa_cons pe_int pa_nil))) pa_nil)) pa_nil))) pa_nil))))) (pss_cons (ps_set (i := 1) sc__law_chain.nd rfl (Or.inl rfl) (pe_op op_cat (pv 1) (pe_lst (pa_cons (pe_tupF (pa_cons pe_int (pa_cons (pe_tupF (pa_cons (pe_tupF (pa_cons pe_str (pa_cons pe_int pa_nil))) (pa_cons (pe_tupF (pa_cons pe_str (pa_cons pe_int pa_nil))) pa_nil))) pa_nil))) (pa_cons (pe_tupF (pa_cons pe_int (pa_cons (pe_tupF pa_nil) pa_nil))) (pa_cons (pe_tupF (pa_cons pe_int (pa_cons (pe_tupF (pa_cons (pe_tupF (pa_cons pe_str (pa_cons pe_int pa_nil))) pa_nil)) pa_nil))) (pa_cons (pe_tupF (pa_cons pe_int (pa_cons (pe_tupF pa_nil) pa_nil))) pa_nil))))))) (pss_cons (ps_set (i := 2) sc__law_chain.nd rfl (Or.inl rfl) (pe_f F1 (hr.mono (by decide)) pass0 (pa_cons (pv 0) (pa_cons pe_int pa_nil)))) (pss_cons (ps_set (i := 3) sc__law_chain.nd rfl (Or.inl rfl) (pe_op op_cat (pe_slice sl_list (pv 1) (po_some (pv 2)) po_none) (pe_slice sl_list (pv 1) po_none (po_some (pv 2))))) (pss_one (ps_ret (pe_tupF (pa_cons pe_int (pa_cons (pe_callTy call_tupleF (by rfl) B.tuple PyProof.Rows.boot_tuple (pa_cons (pe_ifExp (pt_cmpR op_eq (pe_f F1 (hr.mono (by decide)) pass0 (pa_cons (pv 0) (pa_cons pe_int pa_nil))) pe_int (nomark _)) (pe_revL (pv 3)) (pv 3)) pa_nil)) pa_nil)))))))))), ?_⟩
    dsimp only [tSeq, tAsg, gName, L2.start]
    refine QEs.lst (K := K) (ds := (chainR.take 2).map ruD) (by walk_at "qe") fun H1 p1 y1 e1 n1 h1 a1 => ?_
    dsimp only [tSeq, tAsg, gName, tOp, tVar]
    refine ⟨_, rfl, QEs.lst (K := K) (ds := ((chainR.drop 2).take 2).map ruD) (by walk_at "qe") fun H2 p2 y2 e2 n2 h2 a2 => ⟨p1, p2, _, _, rfl, rfl, e2 _ _ h1, h2, ?_, fun q hq => ?_⟩⟩
    · rw [a1.len, a2.len]
      decide
    have e3 : Same H (upd H2 q (.lst (y1 ++ y2))) := (e1.trans e2).then_new hq
    have a3 : DqA K (upd H2 q (.lst (y1 ++ y2))) (((chainR.take 2) ++ (chainR.drop 2).take 2).map ruD) (y1 ++ y2) := by
      rw [List.map_append]
      exact ((a1.to e2).app a2).new hq
    have h3 : (upd H2 q (.lst (y1 ++ y2))) q = some (.lst (y1 ++ y2)) := upd_same
    generalize (upd H2 q (.lst (y1 ++ y2))) = H3 at e3 a3 h3 ⊢
    generalize y1 ++ y2 = y3 at a3 h3
    clear n1 h1 a1 n2 h2 a2
    dsimp only
    refine ⟨_, rfl, QEs.lst (K := K) (ds := (chainR.drop 4).map ruD) (by walk_at "qe") fun H4 p4 y4 e4 n4 h4 a4 => ⟨q, p4, _, _, rfl, rfl, e4 _ _ h3, h4, ?_, fun q5 hq5 => ?_⟩⟩
    · rw [a3.len, a4.len]
      decide
    obtain ⟨nqa, nql, nqc⟩ := (hl.same (e3.trans e4)).off hq5
    have e5 : Same H (upd H4 q5 (.lst (y3 ++ y4))) := (e3.trans e4).then_new hq5
    have a5 : DqA K (upd H4 q5 (.lst (y3 ++ y4))) (chainR.map ruD) (y3 ++ y4) := by
      have : chainR.map ruD = ((chainR.take 2) ++ (chainR.drop 2).take 2).map ruD ++ (chainR.drop 4).map ruD := rfl
      rw [this]
      exact ((a3.to e4).app a4).new hq5
    have h5 : (upd H4 q5 (.lst (y3 ++ y4))) q5 = some (.lst (y3 ++ y4)) := upd_same
    generalize (upd H4 q5 (.lst (y3 ++ y4))) = H5 at e5 a5 h5 ⊢
    generalize y3 ++ y4 = y5 at a5 h5
    clear h3 a3 n4 h4 a4
    have ly : y5.length = 8 := by rw [a5.len]; rfl
    have s5 := hl.same e5
    refine ⟨_, rfl, a, l, c, _, 8, rfl, s5, by omega, by decide, by decide, fun H6 t e6 s6 t1 t2 => ?_⟩
    obtain ⟨t, rfl⟩ : ∃ y : Nat, t = (y : Nat) := ⟨t.toNat, by omega⟩
    have h6 := e6 _ _ h5 nqa nql
    refine ⟨_, rfl, _, rfl, _, rfl, q5, _, rfl, .of h6, fun p7 hp7 => ⟨_, rfl, _, rfl, _, rfl, q5, _, rfl, .of ((Same.new hp7) _ _ h6), fun p8 hp8 => ?_⟩⟩
    rw [cutV_from] at hp8 ⊢
    rw [cutV_to]
    have n78 : p7 ≠ p8 := fun z => by rw [← z, upd_same] at hp8; cases hp8
    have a6 := a5.st e6 s5
    have a8 : DqA K (upd (upd H6 p7 (HO.lst (y5.drop t))) p8 (HO.lst (y5.take t))) ((chainR.drop t ++ chainR.take t).map ruD) (y5.drop t ++ y5.take t) := by
      rw [List.map_append, List.map_drop, List.map_take]
      exact (((a6.dr t).app (a6.tk t)).new hp7).new hp8
    have e8 : Sbt a l H (upd (upd H6 p7 (HO.lst (y5.drop t))) p8 (HO.lst (y5.take t))) := (((Sbt.of e5).trans e6).same (Same.new hp7)).same (Same.new hp8)
    have s8 : LSt (upd (upd H6 p7 (HO.lst (y5.drop t))) p8 (HO.lst (y5.take t))) a l c (n + 1) := (s6.new hp7).new hp8
    have h7 : (upd (upd H6 p7 (HO.lst (y5.drop t))) p8 (HO.lst (y5.take t))) p7 = some (.lst (y5.drop t)) := by rw [upd_ne n78, upd_same]
    have h8 : (upd (upd H6 p7 (HO.lst (y5.drop t))) p8 (HO.lst (y5.take t))) p8 = some (.lst (y5.take t)) := upd_same
    generalize (upd (upd H6 p7 (HO.lst (y5.drop t))) p8 (HO.lst (y5.take t))) = H8 at a8 e8 s8 h7 h8 ⊢
    refine ⟨p7, p8, _, _, rfl, rfl, h7, h8, ?_, fun q9 hq9 => ?_⟩
    · rw [List.length_drop, List.length_take, ly]
      exact Nat.le_of_lt (slt (by omega))
    obtain ⟨na9, nl9, _⟩ := s8.off hq9
    have a9 := a8.new (o := HO.lst (y5.drop t ++ y5.take t)) hq9
    have e9 := e8.same (Same.new (o := HO.lst (y5.drop t ++ y5.take t)) hq9)
    have s9 := s8.new (o := HO.lst (y5.drop t ++ y5.take t)) hq9
    have h9 : (upd H8 q9 (HO.lst (y5.drop t ++ y5.take t))) q9 = some (.lst (y5.drop t ++ y5.take t)) := upd_same
    generalize (upd H8 q9 (HO.lst (y5.drop t ++ y5.take t))) = H9 at a9 e9 s9 h9 ⊢
    generalize y5.drop t ++ y5.take t = y9 at a9 h9
    have mem : ∀ r, r ∈ chainR.drop t ++ chainR.take t ↔ r ∈ chainR := fun r => by
      rw [List.mem_append]
      conv => rhs; rw [← List.take_append_drop t chainR, List.mem_append]
      exact or_comm
    have len : (chainR.drop t ++ chainR.take t).length = 8 := by
      rw [List.length_append, List.length_drop, List.length_take]
      show 8 - t + min t 8 = 8
      omega
    generalize chainR.drop t ++ chainR.take t = rs at a9 mem len
    have fin : ∀ H' (q : Addr) (ys : List V) (rs : List Ru), Sbt a l H H' → LSt H' a l c (n + 2) → DqA K H' (rs.map ruD) ys → H' q = some (.lst ys) → (∀ r, r ∈ rs ↔ r ∈ chainR) → rs.length = 8 → rTupF K [.ref q] H' fun x H1 => 2 ≤ sizeLine ∧ ∀ p (o : Obj), H1 p = none → o.dict = none → Q (.ref p) (upd H1 p (.frz o (.tup [.int 2, x]))) := fun H' q ys rs e s ha hq hm hlen =>
      ⟨q, ys, rfl, .inl ⟨.of hq, fun t1 o1 ht1 ho1 => ⟨by decide, fun p2 o2 hp2 ho2 => k _ _ rs ((e.same (Same.new ht1)).same (Same.new hp2)) ((s.new ht1).new hp2) (.tup (.new ho2) (.cons_ .int_ (.one_ (Dq.new (.tup (.new ho1) (ha.new ht1)) hp2)))) hm hlen⟩⟩⟩
    walk_at "nf"
    walk_at "sx"
    refine ⟨a, l, c, _, 2, rfl, s9, by omega, by decide, by decide, fun H10 z e10 s10 z1 z2 => ⟨rfl, ?_⟩⟩
    have h10 := e10 _ _ h9 na9 nl9
    have a10 := a9.st e10 s9
    by_cases cz : z = 0
    · subst cz
      refine iteT ⟨_, rfl, q9, _, rfl, .of h10, fun p11 hp11 => ?_⟩
      refine fin _ p11 _ rs.reverse ((e9.trans e10).same (Same.new hp11)) ((s10.new hp11).mono (by omega)) ?_ upd_same (fun r => by rw [List.mem_reverse]; exact mem r) (by rw [List.length_reverse]; exact len)
      rw [List.map_reverse]
      exact a10.rev.new hp11
    · rw [decide_eq_false (fun e => cz (V.int.inj e))]
      exact iteF (fin _ q9 _ rs (e9.trans e10) (s10.mono (by omega)) a10 h10 mem len)
end
end Ws
/-! ## T45 -/
namespace Ws
open PySem PySem.Spec PyProof.Rows L2
/-! ### several except clauses that name their error, by one name in slot i -/
def wManyB (K : PySem.W.Frag) (i : Nat) (Wout : WX) (D : Ends) : List (Bool × Value × (Addr → Value → Option Addr → TS)) → WX
  | [] => Wout
  | (m, c, ts) :: r => fun cls d σ H => ∃ b, PySem.W.exmOne K cls c = some b ∧ (b = true → ∀ a, H a = none → (if m = true then ts a cls d (suiteEnds D i) (σ.set i (some (.ref a))) H else ts a cls d D σ H)) ∧ (b = false → wManyB K i Wout D r cls d σ H)
inductive HdsB (X : Cx) (n : Str) : List ExceptHandler → List (Bool × Value × (Addr → Value → Option Addr → TS)) → Prop
  | nil : HdsB X n [] []
  | cons {m : Bool} {x : Str} {c : Value} {ts : Addr → Value → Option Addr → TS} {b₀ : Stmt} {suite : List Stmt} {np pos' : Pos} {hds : List ExceptHandler} {l : List (Bool × Value × (Addr → Value → Option Addr → TS))} (hc : Names X x c)
      (hsu : ∀ (a : Addr) (oe : Obj) (cls : Value) (d : Option Addr) (pn : List (Addr × Obj)), Zc cls d oe → (∃ vs, oe.data = .fields vs) → PSs (X.suite a ((a, oe) :: pn)) (b₀ :: suite) (ts a cls d)) (r : HdsB X n hds l) :
      HdsB X n (.ExceptHandler (some (.Name x np)) (if m = true then some n else none) (b₀ :: suite) pos' :: hds) ((m, c, ts) :: l)
section
variable {X : Cx} {n : Str} {i : Nat} {body : List Stmt} {h₀ : ExceptHandler} {hds : List ExceptHandler} {l : List (Bool × Value × (Addr → Value → Option Addr → TS))} {pos : Pos} {tb : WX → TS} {Wout : WX}
theorem ps_try_manyB (hs : X.stack = X.env :: X.outer) (hf : X.env.frame = some X.env.locals) (hN : X.N.Nodup) (hi : X.N[i]? = some n) (hln : X.env.kindOf n = some .local) (tk : Takes X Wout)
    (hb : ∀ (W : WX) (pn : List (Addr × Obj)) (xe : Value → Shared → Prop), Takes (X.tr pn xe) W → PassesOwn (model X.prog X.w) X.A X.env xe → PSs (X.tr pn xe) body (tb W))
    (hh : HdsB X n (h₀ :: hds) l) : PS X (.Try body (h₀ :: hds) [] [] pos) (fun D σ H => tb (wManyB X.K i Wout D l) D σ H) := by
  refine ⟨fun pins s σ H D I h => ?_⟩
  have ok := I.ok
  have hfr : X.A.frames = some (X.env :: X.outer) := by rw [ok.frames, hs]
  have hloc : Loc X.env.scope n := .inl hln
  refine wpAny_Try_except ?_
  refine wpAny_mono ((hb (wManyB X.K i Wout D l) (X.pn ++ pins) (fun e s₁ => wpAny (model X.prog X.w) X.A (noteFrame e X.env) (fun _ s₂ => wpAny (model X.prog X.w) X.A (setFlight e none) (fun _ s₃ =>
    wpAny (model X.prog X.w) X.A (handleBy e X.env (h₀ :: hds)) (SP X pins D) X.xe s₃) X.xe s₂) X.xe s₁) (fun u s' xx => ?_) PassesOwn.looking).run [] s σ H D (I.toTry _) h) (fun f s1 hsp => ?_) (fun e s1 he => he)
  · -- the catch
    obtain ⟨a, B, sI, pins', σ', H', cls, d, rfl, J', nb, up, sky, na, os, ag, w⟩ := xx
    have J : Inv X pins σ' H' sI := J'.ofTry ok
    have sky' : Sky B (X.env :: X.outer) a (Zc cls d) X.env.locals s'.heap := by rw [← hs]; exact sky
    show wpAny (model X.prog X.w) X.A (noteFrame (.ref a) X.env) _ _ _
    refine Sky.land Zc.steady hfr hf sky' fun h3 fl3 up3 => ?_
    have J3 : Inv X pins σ' H' { s' with heap := h3 } := J.landed nb fl3.1 (up.trans up3) os ag
    obtain ⟨oe3, vs3, he3, hz3, hd3⟩ := fl3.there
    have notFr : ∀ {h : Heap} {o : Obj} {vs : Array Value}, h.FunFrames B (X.env :: X.outer) → h.get? a = some o → o.data = .fields vs → a ∉ frs (X.env :: X.outer) := fun {h o vs} ff e dd hm => by
      obtain ⟨_, o', e', hnf⟩ := ff.mem hm
      rw [e] at e'; cases e'
      exact hnf _ dd
    have nfr := notFr fl3.2.2.1 he3 hd3
    have nL : a ≠ X.env.locals := fun z => nfr (List.mem_filterMap.mpr ⟨X.env, List.mem_cons_self, by rw [hf, z]⟩)
    have nF : a ∉ X.fs := fun hm => by
      obtain ⟨e, he, q⟩ := List.mem_filterMap.mp hm
      exact nfr (List.mem_filterMap.mpr ⟨e, List.mem_cons_of_mem _ he, q⟩)
    have S3 := J3.suite he3 hd3 na nL nF
    have go : ∀ {hds' : List ExceptHandler} {l' : List (Bool × Value × (Addr → Value → Option Addr → TS))}, HdsB X n hds' l' → wManyB X.K i Wout D l' cls d σ' H' →
        wpAny (model X.prog X.w) X.A (handleBy (.ref a) X.env hds') (SP X pins D) X.xe { s' with heap := h3 } := by
      intro hds' l' hk
      induction hk with
      | nil =>
        intro w
        refine wpAny_handleBy_nil ?_
        obtain ⟨k1, k2, k3, oe, vs, T, oT, ts', he, hz, hd, h1, hr⟩ := id fl3
        unfold PySem.passOn
        refine wpAny_bind (wpAny_field he hd h1 ?_)
        rw [if_neg (show ¬ ((Value.ref T == Value.none) = true) from by simp)]
        have fin : wpAny (model X.prog X.w) X.A (setFlight (.ref a) X.env.frame) (fun _ s4 => wpAny (model X.prog X.w) X.A (throw (.ref a) : Sem Flow) (SP X pins D) X.xe s4) X.xe { s' with heap := h3 } := by
          rw [hf]
          refine HandSPX.setFlight_upZ fl3 fun h4 hh4 up4 => wpAny_throw (tk _ _ ?_)
          exact ⟨a, B, sI, pins, σ', H', cls, d, rfl, J, nb, (up.trans up3).trans up4, .inr (.inr (by rw [hs]; exact hh4)), na, os, ag, w⟩
        first
          | exact wpAny_bind (wpAny_pure (wpAny_bind fin))
          | exact wpAny_bind fin
      | @cons m x c ts b₀ suite np pos' hds2 l2 hc hsu r ih =>
        intro w
        obtain ⟨b, hb1, hyes, hno⟩ := w
        refine wpAny_handleBy_cons (codeAny_handlers_test ?_) (by intro q; cases q)
        have LT : PySem.W.Looks (model X.prog X.w) h3 (typeOf (.ref a)) cls := fun A Q E s k q => wpAny_typeOf_ref (k _ _ he3) (by rw [hz3.1]; exact q)
        have LM := PySem.W.exm_one (M := model X.prog X.w) (J3.kIn) LT hb1
        have test : ∀ {Q : Value → Shared → Prop} {E : Value → Shared → Prop}, Q c { s' with heap := h3 } → wpAny (model X.prog X.w) (X.A.mark (some (.ref a))) (eval (.Name x np) X.env) Q E { s' with heap := h3 } := fun {Q E} q => by
          obtain ⟨hg, hdbg, hm | ⟨hm, hv, hnn⟩⟩ := hc
          · exact ld_glob (X := X.suite a ((a, oe3) :: (X.pn ++ pins))) S3 hg hm q hdbg
          · exact ld_blt (X := X.suite a ((a, oe3) :: (X.pn ++ pins))) S3 hg hm hv q hnn hdbg
        refine test (LM.here ?_)
        cases b with
        | true =>
          cases m with
          | true =>
            refine codeAny_handlers_suite_as ?_
            refine HandSPX.lands_againZ fl3 fun h4 fl4 up4 => ?_
            have J4 : Inv X pins σ' H' { s' with heap := h4 } := J.landed nb fl4.1 ((up.trans up3).trans up4) os ag
            obtain ⟨oe4, vs4, he4, hz4, hd4⟩ := fl4.there
            have S4 := J4.suite he4 hd4 na nL nF
            refine store_ok (X := X.suite a ((a, oe4) :: (X.pn ++ pins))) (v := .ref a) S4 hN hi hloc rfl (fun s5 S5 => ?_) (.inr hln)
            refine wpAny_mono ((hsu a oe4 cls d (X.pn ++ pins) hz4 ⟨_, hd4⟩).run [] s5 _ H' _ S5 (by have := hyes rfl a na; rwa [if_pos rfl] at this)) (fun f s6 hsp => ?_) (fun _ _ z => False.elim z)
            have end_ : ∀ {σ6 : L2.St} {H6 : Hp} {Q : Shared → Prop}, Inv (X.suite a ((a, oe4) :: (X.pn ++ pins))) [] σ6 H6 s6 → (∀ s7, Inv X pins (σ6.set i none) H6 s7 → Q s7) →
                wpAny (model X.prog X.w) X.A (do bindName X.env n .none; unbindBehindTheSuite X.env n pos') (fun _ s7 => Q s7) X.xe s6 := fun {σ6 H6 Q} S6 hq => gone_ok (S6.unsuite ok) hN hi hln hq
            cases f with
            | next =>
              obtain ⟨σ6, H6, S6, q6⟩ := hsp
              exact end_ S6 fun s7 J7 => ⟨_, _, J7, q6⟩
            | brk =>
              obtain ⟨σ6, H6, S6, q6⟩ := hsp
              exact end_ S6 fun s7 J7 => ⟨_, _, J7, q6⟩
            | cont =>
              obtain ⟨σ6, H6, S6, q6⟩ := hsp
              exact end_ S6 fun s7 J7 => ⟨_, _, J7, q6⟩
            | ret u =>
              obtain ⟨v6, σ6, H6, S6, r6, q6⟩ := hsp
              exact end_ S6 fun s7 J7 => ⟨_, _, _, J7, r6, q6⟩
          | false =>
            refine codeAny_handlers_suite ?_
            refine HandSPX.lands_againZ fl3 fun h4 fl4 up4 => ?_
            have J4 : Inv X pins σ' H' { s' with heap := h4 } := J.landed nb fl4.1 ((up.trans up3).trans up4) os ag
            obtain ⟨oe4, vs4, he4, hz4, hd4⟩ := fl4.there
            have S4 := J4.suite he4 hd4 na nL nF
            refine wpAny_mono ((hsu a oe4 cls d (X.pn ++ pins) hz4 ⟨_, hd4⟩).run [] _ _ H' _ S4 (by have := hyes rfl a na; rwa [if_neg (by decide)] at this)) (fun f s6 hsp => ?_) (fun _ _ z => False.elim z)
            cases f with
            | next =>
              obtain ⟨σ6, H6, S6, q6⟩ := hsp
              exact ⟨_, _, S6.unsuite ok, q6⟩
            | brk =>
              obtain ⟨σ6, H6, S6, q6⟩ := hsp
              exact ⟨_, _, S6.unsuite ok, q6⟩
            | cont =>
              obtain ⟨σ6, H6, S6, q6⟩ := hsp
              exact ⟨_, _, S6.unsuite ok, q6⟩
            | ret u =>
              obtain ⟨v6, σ6, H6, S6, r6, q6⟩ := hsp
              exact ⟨_, _, _, S6.unsuite ok, r6, q6⟩
        | false =>
          show wpAny _ X.A (handleBy (.ref a) X.env hds2) _ _ _
          exact ih (hno rfl)
    exact go hh w
  · cases f with
    | next =>
      obtain ⟨σ', H', J', q⟩ := hsp
      exact wpAny_execs_nil ⟨σ', H', J'.ofTry ok, q⟩
    | brk =>
      obtain ⟨σ', H', J', q⟩ := hsp
      exact ⟨σ', H', J'.ofTry ok, q⟩
    | cont =>
      obtain ⟨σ', H', J', q⟩ := hsp
      exact ⟨σ', H', J'.ofTry ok, q⟩
    | ret u =>
      obtain ⟨v, σ', H', J', r, q⟩ := hsp
      exact ⟨v, σ', H', J'.ofTry ok, r, q⟩
end
end Ws
/-! ## E46m -/
namespace Ws
open PySem PySem.Spec PyProof.Rows L2 RZ Gm
local macro_rules | `(tactic| walk_at "nf") => `(tactic| dsimp only [tNext, tSeq, tDrop, tRet, tRetN, tIfS, tAsg, gName, gTup, gCons, gNil, tVar, tC, tOp, tUn, rI, rI0, rU, rEq, rNe, tTest, tChain, tAnd, tOr, tNot, tAndV, tOrV, tNotV, tIf, tCB, tCKw, tCons, tNil, tTup, tLst, tCa, tCallS, tB, rIxT, rIxL, rIxS, cxOf, Cx.nox, Cx.wish, Cx.blk, L2.start, tPar, tPar3, tNever, tYes, tBits, tRz, tBM, rAppend, tyV, tXf, suiteEnds, gSub, rSetL, tBreak, rMax, tDGet, sDPut, tSl, tNoPart, tPart, tDisp, tPairs, tDGet2, tDNewK, tAugS, ipI, rGetL, tDIn, tDNotIn, tBM0, rPop, tBMT, tTupF])
local macro_rules | `(tactic| walk_at "sx") => `(tactic| simp only [wipe, List.cons.injEq, and_assoc, exists_and_left, and_true, List.map_cons, List.map_nil, List.length_cons, List.length_nil, List.cons_append, List.nil_append, List.append_nil, Nat.reduceAdd, Nat.reduceSub, List.replicate, List.getElem?_cons_zero, List.getElem?_cons_succ, List.set_cons_zero, List.set_cons_succ, Option.some.injEq, V.int.injEq, V.bl.injEq, V.ref.injEq, V.str.injEq, exists_eq_left', exists_eq_left, true_and, Bool.true_eq_false, Bool.false_eq_true, if_true, if_false])

def pickV (o : Option Nat) : V := match o with
  | some n => .int (n : Nat)
  | none => .non
def spNext (K : PySem.W.Frag) : Sp := fun vs H Q _ => ∃ (rv : V) (l q : Addr) (m : Nat) (rs : List Ru) (u A : List Nat), vs = [rv, .ref l, .ref q] ∧ Dp K H rv (rulesD rs) ∧ SqL K H l ((nI u).map V.int) ∧ SqL K H q ((nI A).map V.int) ∧ A ≠ [] ∧ (∀ v ∈ A, v < 4) ∧ A.length ≤ 5000 ∧ GOk m rs ∧ u.length = rs.length ∧
  ∀ H', Same H H' → Q (pickV (pick rs u A)) H'
structure CsW (mg : Str → Option Value) : Prop where
  MOST_WAY : ∃ t, mg "MOST_WAY" = some (.int 400 t)
structure ErW (P : Program) (w : World) (K : PySem.W.Frag) (mg : Str → Option Value) (base : Heap) (BG BP TG : Addr) : Prop where
  BadGrammar : ErC P w K mg base "BadGrammar" "place" BG
  BadPaper : ErC P w K mg base "BadPaper" "word" BP
  TooGreat : ErC P w K mg base "TooGreat" "most" TG
def spWay (K : PySem.W.Frag) (BG BP TG : Addr) : Sp := fun vs H Q E => ∃ (gv uv : V) (gd d : PyData), vs = [gv, uv] ∧ Dp K H gv gd ∧ Dp K H uv d ∧
  ((∃ p, gFault gd = some p ∧ OutF K BG "place" p H E) ∨ ∃ m rs, gd = grD m rs ∧ GOk m rs ∧ (areUsesD rs.length d = false → OutF K BP "word" (.str "uses") H E) ∧ ∀ u, d = rowD u → u.length = rs.length →
    (useB rs u = false → OutF K BP "word" (.str "uses") H E) ∧ (useB rs u = true → 400 < u.sum → OutF K TG "most" (.int 400) H E) ∧
    (useB rs u = true → u.sum ≤ 400 → ∀ way, least rs u.sum u [0] = some way → ∀ H' x, Same H H' → Dq K H' (rowD way) x → Q x H'))
abbrev s_next_rule : Stmt := top 23
abbrev nm_next_rule : List Str := ["rules", "left", "opened", "number", "rule", "fewer"]
abbrev pr_next_rule : List Str := ["rules", "left", "opened"]
theorem sc_next_rule : FnScope nm_next_rule pr_next_rule (defScope s_next_rule) := ⟨rfl, rfl, rfl, by decide +kernel, rfl, by decide +kernel, by decide +kernel⟩
abbrev s_way_with : Stmt := top 22
abbrev nm_way_with : List Str := ["grammar", "uses", "rules", "way", "opened", "left", "_", "number"]
abbrev pr_way_with : List Str := ["grammar", "uses"]
theorem sc_way_with : FnScope nm_way_with pr_way_with (defScope s_way_with) := ⟨rfl, rfl, rfl, by decide +kernel, rfl, by decide +kernel, by decide +kernel⟩
section
variable {P : Program} {w : World} {K : PySem.W.Frag} {mg : Str → Option Value} {base : Heap} {SA BG BP TG : Addr}
theorem ok_next (B : Bl mg) (F1 : Df P w K mg base CX0 1 "variables_of" pr_variables_of (spVars K)) (F2 : Df P w K mg base CX0 2 "are_connected" pr_are_connected (spCon K)) (D : Dt K mg "next_rule" s_next_rule pr_next_rule) : Df P w K mg base CX0 3 "next_rule" pr_next_rule (spNext K) := by
  refine D.ok sc_next_rule (fun vs H Q E h => ?_) (fun f cdv A outer s H vs Q E hr h => ?_)
  · obtain ⟨rv, l, q, m, rs, u, A, rfl, _⟩ := h
    rfl
  · obtain ⟨rv, l, q, m, rs, u, AA, rfl, hd, hl, hq, hne, hA4, hAl, o, hul, k⟩ := h
    obtain ⟨a, zs, rfl, hs, hzl, hat, _⟩ := tup_view hd
    obtain ⟨v, B2, rfl⟩ : ∃ v B2, AA = v :: B2 := by
      cases AA with
      | nil => exact absurd rfl hne
      | cons v B2 => exact ⟨v, B2, rfl⟩
    refine ⟨_, (pss_cons (ps_for PassesOwn.never rfl (pi_enumT (by rfl) B.enumerate (pa_cons (pv 0) pa_nil)) (pg_tup rfl (pgs_cons (pg_name (i := 3) sc_next_rule.nd rfl (Or.inl rfl)) (pgs_cons (pg_name (i := 4) sc_next_rule.nd rfl (Or.inl rfl)) pgs_nil))) (pss_one (ps_if (PW.pt (pw_and (pt_cmpR op_eq (pe_ix (show IxR _ (rIxT K) from ix_tup) (pv 4) pe_int (fun _ _ => rfl)) (pe_ix ix_list (pv 2) pe_int (fun _ _ => rfl)) (nomark _)) (pw_and1 (pt_cmpR op_gt (pe_ix ix_list (pv 1) (pv 3) (fun _ _ => rfl)) pe_int (nomark _))))) (pss_cons (ps_set (i := 5) sc_next_rule.nd rfl (Or.inl rfl) (pe_op op_cat (pe_op op_cat (pe_slice sl_list (pv 1) po_none (po_some (pv 3))) (pe_lst (pa_cons (pe_op op_sub (pe_ix ix_list (pv 1) (pv 3) (fun _ _ => rfl)) pe_int) pa_nil))) (pe_slice sl_list (pv 1) (po_some (pe_op op_add (pv 3) pe_int)) po_none))) (pss_one (ps_if (pt_val (pe_f F2 (hr.mono (by decide)) pass0 (pa_cons (pv 0) (pa_cons (pv 5) (pa_cons (pe_op op_cat (pe_f F1 (hr.mono (by decide)) pass0 (pa_cons (pv 4) pa_nil)) (pe_slice sl_list (pv 2) (po_some pe_int) po_none)) pa_nil))))) (pss_one (ps_ret (pv 3))) pss_nil))) pss_nil))) (pss_one (ps_ret pe_non))), ?_⟩
    walk_at "nf"
    walk_at "sx"
    refine ⟨_, rfl, a, _, rfl, hs, for_it walk_enumT (fun i σ H' => Same H H' ∧ (∃ v3 v4 v5, σ = [some (V.ref a), some (.ref l), some (.ref q), v3, v4, v5]) ∧ ∀ j, j < i → fit rs u (v :: B2) j = false) ⟨Same.refl _, ⟨_, _, _, rfl⟩, fun j hj => by omega⟩ (fun i σ H' _ p => p.1.seqT hs) (fun i x σ H3 H4 hi p y => ?_) (fun σ H3 p => ?_)⟩
    · obtain ⟨s3, ⟨v3, v4, v5, rfl⟩, no⟩ := p
      obtain ⟨T, x1, x2, rfl, hT, rfl, h1, h2⟩ := y
      obtain rfl : V.int (i : Nat) = x1 := Option.some.inj h1
      obtain ⟨r, hr1, hdr⟩ := hat i x2 h2
      have s4 : Same H3 (upd H3 T (.tup [V.int (i : Nat), x2])) := Same.new hT
      obtain ⟨p1, u1, rfl, hs1, hd1⟩ := ru_v ((hdr.to s3).to s4)
      walk_at "nf"
      refine ⟨T, _, rfl, .of upd_same, rfl, ?_⟩
      walk_at "sx"
      have hrm := List.mem_of_getElem? hr1
      have er : rs.getD i (0, []) = r := by rw [List.getD_eq_getElem?_getD, hr1]; rfl
      have iu : i < u.length := by rw [hul]; exact (List.getElem?_eq_some_iff.mp hr1).1
      have eu : u.getD i 0 = u[i] := by rw [List.getD_eq_getElem?_getD, List.getElem?_eq_getElem iu]; rfl
      have s34 := s3.trans s4
      have more : fit rs u (v :: B2) i = false → ∀ j, j < i + 1 → fit rs u (v :: B2) j = false := fun h j hj => by
        rcases Nat.lt_or_ge j i with c | c
        · exact no j c
        · obtain rfl : j = i := by omega
          exact h
      have hfit : fit rs u (v :: B2) i = (decide (r.1 = v) && decide (0 < u[i]) && conB rs (decL u i) (metN (psOf rs (decL u i)) 4 (xs r.2 ++ B2))) := by
        unfold fit
        rw [er, eu]
        show (decide (some r.1 = some v) && _ && _) = _
        congr 2
        exact decide_eq_decide.mpr ⟨Option.some.inj, fun z => by rw [z]⟩
      refine ⟨_, hs1, _, rfl, _, s34.seq hq, V.int (v : Nat), atI_get (j := 0) rfl, rfl, ?_⟩
      by_cases c1 : r.1 = v
      · rw [decide_eq_true (show V.int (r.1 : Nat) = V.int (v : Nat) from by rw [c1])]
        refine iteT ⟨_, s34.seq hl, _, atI_get (nIv_at iu), _, rfl, ?_⟩
        by_cases c2 : 0 < u[i]
        · rw [decide_eq_true (by omega : (0 : Int) < ((u[i] : Nat) : Int))]
          refine iteT ⟨l, _, rfl, s34.seq hl, fun q1 hq1 => ?_⟩
          have n5 := s34.then_new (o := .lst (cutV ((nI u).map V.int) none (some (i : Int)))) hq1
          have h5 : (upd (upd H3 T (.tup [V.int (i : Nat), V.ref p1])) q1 (.lst (cutV ((nI u).map V.int) none (some (i : Int))))) q1 = some (.lst (cutV ((nI u).map V.int) none (some (i : Int)))) := upd_same
          generalize (upd (upd H3 T (.tup [V.int (i : Nat), V.ref p1])) q1 (.lst (cutV ((nI u).map V.int) none (some (i : Int))))) = H5 at n5 h5 ⊢
          rw [cutV_to] at h5
          refine ⟨_, n5.seq hl, _, atI_get (nIv_at iu), _, rfl, by decide, fun q2 hq2 => ?_⟩
          have n6 := n5.then_new (o := .lst [V.int (((u[i] : Nat) : Int) - 1)]) hq2
          have h6 := (Same.new (o := .lst [V.int (((u[i] : Nat) : Int) - 1)]) hq2) _ _ h5
          have g6 : (upd H5 q2 (.lst [V.int (((u[i] : Nat) : Int) - 1)])) q2 = some (.lst [V.int (((u[i] : Nat) : Int) - 1)]) := upd_same
          generalize (upd H5 q2 (.lst [V.int (((u[i] : Nat) : Int) - 1)])) = H6 at n6 h6 g6 ⊢
          have lu8 : u.length ≤ 8 := by rw [hul]; exact o.l2
          have z9 : 9 ≤ sizeLine := by decide
          refine ⟨q1, q2, _, _, rfl, rfl, h6, g6, by rw [List.length_take, nIv_len, List.length_singleton]; omega, fun q3 hq3 => ?_⟩
          have n7 := n6.then_new (o := .lst (((nI u).map V.int).take i ++ [V.int (((u[i] : Nat) : Int) - 1)])) hq3
          have h7 : (upd H6 q3 (.lst (((nI u).map V.int).take i ++ [V.int (((u[i] : Nat) : Int) - 1)]))) q3 = some (.lst (((nI u).map V.int).take i ++ [V.int (((u[i] : Nat) : Int) - 1)])) := upd_same
          generalize (upd H6 q3 (.lst (((nI u).map V.int).take i ++ [V.int (((u[i] : Nat) : Int) - 1)]))) = H7 at n7 h7 ⊢
          refine ⟨l, _, rfl, n7.seq hl, fun q4 hq4 => ?_⟩
          have n8 := n7.then_new (o := .lst (cutV ((nI u).map V.int) (some ((i : Int) + 1)) none)) hq4
          have h8 := (Same.new (o := .lst (cutV ((nI u).map V.int) (some ((i : Int) + 1)) none)) hq4) _ _ h7
          have g8 : (upd H7 q4 (.lst (cutV ((nI u).map V.int) (some ((i : Int) + 1)) none))) q4 = some (.lst (cutV ((nI u).map V.int) (some ((i : Int) + 1)) none)) := upd_same
          generalize (upd H7 q4 (.lst (cutV ((nI u).map V.int) (some ((i : Int) + 1)) none))) = H8 at n8 h8 g8 ⊢
          rw [show (i : Int) + 1 = ((i + 1 : Nat) : Int) from by omega, cutV_from] at g8
          refine ⟨q3, q4, _, _, rfl, rfl, h8, g8, by rw [List.length_append, List.length_take, List.length_drop, nIv_len, List.length_singleton]; omega, fun q5 hq5 => ?_⟩
          have efew : ((nI u).map V.int).take i ++ [V.int (((u[i] : Nat) : Int) - 1)] ++ ((nI u).map V.int).drop (i + 1) = (nI (decL u i)).map V.int := by
            unfold decL
            rw [eu, List.set_eq_take_append_cons_drop, if_pos iu]
            unfold nI
            rw [List.map_append, List.map_append, List.map_take, List.map_take, List.map_cons, List.map_cons, List.map_drop, List.map_drop, List.append_assoc, List.singleton_append]
            have : (((u[i] - 1 : Nat) : Nat) : Int) = ((u[i] : Nat) : Int) - 1 := by omega
            rw [this]
          rw [efew]
          have n9 := n8.then_new (o := .lst ((nI (decL u i)).map V.int)) hq5
          have h9 : (upd H8 q5 (.lst ((nI (decL u i)).map V.int))) q5 = some (.lst ((nI (decL u i)).map V.int)) := upd_same
          generalize (upd H8 q5 (.lst ((nI (decL u i)).map V.int))) = H9 at n9 h9 ⊢
          refine ⟨_, r, rfl, hdr.to n9, by have := o.body r hrm; omega, fun H10 q6 e10 hq6 h10 => ⟨q, _, rfl, (n9.trans e10).seq hq, fun q7 hq7 => ?_⟩⟩
          have n11 := (n9.trans e10).then_new (o := .lst (cutV ((nI (v :: B2)).map V.int) (some 1) none)) hq7
          have h11 := (Same.new (o := .lst (cutV ((nI (v :: B2)).map V.int) (some 1) none)) hq7) _ _ h10
          have f11 := (Same.new (o := .lst (cutV ((nI (v :: B2)).map V.int) (some 1) none)) hq7) _ _ (e10 _ _ h9)
          have g11 : (upd H10 q7 (.lst (cutV ((nI (v :: B2)).map V.int) (some 1) none))) q7 = some (.lst (cutV ((nI (v :: B2)).map V.int) (some 1) none)) := upd_same
          generalize (upd H10 q7 (.lst (cutV ((nI (v :: B2)).map V.int) (some 1) none))) = H11 at n11 h11 f11 g11 ⊢
          have ec : cutV ((nI (v :: B2)).map V.int) (some 1) none = (nI B2).map V.int := cutV_from _ 1
          rw [ec] at g11
          have hx6 := xs_le r.2
          have hb6 := o.body r hrm
          rw [List.length_cons] at hAl
          have z5 : 6000 ≤ sizeLine := by decide
          refine ⟨q6, q7, _, _, rfl, rfl, h11, g11, by rw [nIv_len, nIv_len]; omega, fun q8 hq8 => ?_⟩
          have n12 := n11.then_new (o := .lst ((nI (xs r.2)).map V.int ++ (nI B2).map V.int)) hq8
          have f12 := (Same.new (o := .lst ((nI (xs r.2)).map V.int ++ (nI B2).map V.int)) hq8) _ _ f11
          have g12 : (upd H11 q8 (.lst ((nI (xs r.2)).map V.int ++ (nI B2).map V.int))) q8 = some (.lst ((nI (xs r.2 ++ B2)).map V.int)) := by rw [upd_same, nI_app, List.map_append]
          generalize (upd H11 q8 (.lst ((nI (xs r.2)).map V.int ++ (nI B2).map V.int))) = H12 at n12 f12 g12 ⊢
          refine ⟨_, q5, q8, m, rs, decL u i, xs r.2 ++ B2, rfl, hd.to n12, .inr (.of f12), .of g12, fun x hx => ?_, by rw [List.length_append]; omega, o, by rw [decL_len]; exact hul, fun H13 e13 => ⟨_, rfl, ?_⟩⟩
          · rcases List.mem_append.mp hx with m | m
            · exact (o.small r hrm).2 x m
            · exact hA4 x (List.mem_cons_of_mem _ m)
          · rw [decide_eq_true c1, decide_eq_true c2, Bool.true_and, Bool.true_and] at hfit
            have n13 := n12.trans e13
            cases c3 : conB rs (decL u i) (metN (psOf rs (decL u i)) 4 (xs r.2 ++ B2)) with
            | true =>
              rw [c3] at hfit
              refine iteT ?_
              have e : pick rs u (v :: B2) = some i := by
                unfold pick
                rw [List.find?_range_eq_some]
                exact ⟨hfit, List.mem_range.mpr (by rw [← hul]; exact iu), fun j hj => by rw [no j hj]; rfl⟩
              have q := k _ n13
              rw [e] at q
              exact q
            | false =>
              rw [c3] at hfit
              exact iteF ⟨n13, ⟨_, rfl⟩, more hfit⟩
        · rw [decide_eq_false (by omega)]
          exact iteF ⟨s34, ⟨_, rfl⟩, more (by rw [hfit, decide_eq_false c2]; simp)⟩
      · rw [decide_eq_false (show ¬ (V.int (r.1 : Nat) = V.int (v : Nat)) from fun z => c1 (by have := V.int.inj z; omega))]
        exact iteF ⟨s34, ⟨_, rfl⟩, more (by rw [hfit, decide_eq_false c1]; simp)⟩
    · obtain ⟨s3, ⟨v3, v4, v5, rfl⟩, no⟩ := p
      walk_at "nf"
      have e : pick rs u (v :: B2) = none := by
        refine List.find?_eq_none.mpr fun x hx => ?_
        rw [no x (by rw [hzl]; exact List.mem_range.mp hx)]
        simp
      have q := k _ s3
      rw [e] at q
      exact q
theorem nI_sum (u : List Nat) : (nI u).sum = ((u.sum : Nat) : Int) := by
  induction u with
  | nil => rfl
  | cons n u ih =>
    show (n : Int) + (nI u).sum = _
    rw [ih, List.sum_cons]
    omega
theorem ok_way (B : Bl mg) (C : CsW mg) (T : ErW P w K mg base BG BP TG) (F1 : Df P w K mg base (L2.CX P w) 5 "need_grammar" pr_need_grammar (spNeedGr K BG)) (F2 : Df P w K mg base (L2.CX P w) 6 "is_uses" pr_is_uses (spIsUses K BG)) (F3 : Df P w K mg base CX0 3 "next_rule" pr_next_rule (spNext K)) (F4 : Df P w K mg base CX0 1 "variables_of" pr_variables_of (spVars K))
    (D : Dt K mg "way_with" s_way_with pr_way_with) : Df P w K mg base (L2.CX P w) 7 "way_with" pr_way_with (spWay K BG BP TG) := by
  refine D.okX sc_way_with (fun vs H Q E h => ?_) (fun f cdv A outer s H vs Q E hr h => ?_)
  · obtain ⟨gv, uv, gd, d, rfl, _⟩ := h
    rfl
  · obtain ⟨gv, uv, gd, d, rfl, hg, hu, k⟩ := h
    refine ⟨_, (pss_cons (ps_set (i := 2) sc_way_with.nd rfl (Or.inl rfl) (pe_ix ix_tup (pe_f (E := E) F1 (hr.mono (by decide)) (passes_call (takes_of rfl rfl rfl rfl) fun _ _ _ _ h => h) (pa_cons (pv 0) pa_nil)) pe_int (fun _ _ => rfl))) (pss_cons (ps_if (pt_not (pt_val (pe_f (E := E) F2 (hr.mono (by decide)) (passes_call (takes_of rfl rfl rfl rfl) fun _ _ _ _ h => h) (pa_cons (pv 0) (pa_cons (pv 1) pa_nil))))) (pss_one (ps_rz rfl T.BadPaper (hr.mono (by decide)) (takes_of rfl rfl rfl rfl) (by rfl) pe_str)) pss_nil) (pss_cons (ps_if (pt_cmpR op_gt (pe_callB (cr_sumT rfl) (by rfl) B.sum boot_sum (pa_cons (pv 1) pa_nil)) (pe_glob (v := .int 400) rfl C.MOST_WAY.choose_spec ⟨_, rfl⟩) (nomark _)) (pss_one (ps_rz rfl T.TooGreat (hr.mono (by decide)) (takes_of rfl rfl rfl rfl) (by rfl) (pe_glob (v := .int 400) rfl C.MOST_WAY.choose_spec ⟨_, rfl⟩))) pss_nil) (pss_cons (ps_set (i := 3) sc_way_with.nd rfl (Or.inl rfl) (pe_lst pa_nil)) (pss_cons (ps_set (i := 4) sc_way_with.nd rfl (Or.inl rfl) (pe_lst (pa_cons pe_int pa_nil))) (pss_cons (ps_set (i := 5) sc_way_with.nd rfl (Or.inl rfl) (pe_callTy call_list_of (by rfl) B.list PyProof.Rows.boot_list (pa_cons (pv 1) pa_nil))) (pss_cons (ps_for (passes_of rfl) rfl (pi_range1 (by rfl) B.range (pa_cons (pe_callB (cr_sumT rfl) (by rfl) B.sum boot_sum (pa_cons (pv 1) pa_nil)) pa_nil)) (pg_name (i := 6) sc_way_with.nd rfl (Or.inl rfl)) (pss_cons (ps_set (i := 7) sc_way_with.nd rfl (Or.inl rfl) (pe_f F3 (hr.mono (by decide)) pass0 (pa_cons (pv 2) (pa_cons (pv 5) (pa_cons (pv 4) pa_nil))))) (pss_cons (ps_expr (pe_bm PySem.F.plainAttrs_list PySem.F.slot_list_append PySem.F.type_list_append mt_append (pv 3) (pa_cons (pv 7) pa_nil))) (pss_cons (ps_augS (pv 5) (pv 7) get_list pe_int ip_sub set_list) (pss_one (ps_set (i := 4) sc_way_with.nd rfl (Or.inl rfl) (pe_op op_cat (pe_f F4 (hr.mono (by decide)) pass0 (pa_cons (pe_ix (show IxR _ (rIxT K) from ix_tup) (pv 2) (pv 7) (fun _ _ => rfl)) pa_nil)) (pe_slice sl_list (pv 4) (po_some pe_int) po_none)))))))) (pss_one (ps_ret (pe_callTy call_tupleF (by rfl) B.tuple PyProof.Rows.boot_tuple (pa_cons (pv 3) pa_nil))))))))))), ?_⟩
    walk_at "nf"
    walk_at "sx"
    refine ⟨gv, gd, rfl, hg, fun e H1 s1 => ?_, fun p e => ?_⟩
    · rcases k with ⟨p, e2, _⟩ | ⟨m, rs, rfl, o, k0, k1⟩
      · rw [e] at e2; cases e2
      · obtain ⟨a, rv, rfl, hs0, hrs0⟩ := gr_v hg
        have hs := s1.seqT hs0
        obtain ⟨ra, zs, rfl, hra, hzl, hat, _⟩ := tup_view hrs0
        refine ⟨a, rfl, _, hs, .ref ra, rfl, .ref a, uv, grD m rs, d, rfl, hg.to s1, hu.to s1, .inr ⟨m, rs, rfl, o, fun z H2 s2 => ⟨_, rfl, ?_⟩, fun u e hl H2 s2 => ⟨_, rfl, ?_⟩⟩⟩
        · exact iteT (rz_f (k0 z) (s1.trans s2) (.str _))
        · subst e
          obtain ⟨b, rfl, hb⟩ := row_view hu
          obtain ⟨kk1, kk2, kk3⟩ := k1 u rfl hl
          have s12 := s1.trans s2
          cases cu : useB rs u with
          | false => exact iteT (rz_f (kk1 cu) s12 (.str _))
          | true =>
            refine iteF ⟨b, nI u, rfl, s12.seqT hb, _, rfl, ?_⟩
            rw [nI_sum]
            by_cases cg : 400 < u.sum
            · rw [decide_eq_true (by omega)]
              exact iteT (rz_f (kk2 cu cg) s12 (.int _))
            · rw [decide_eq_false (by omega)]
              obtain ⟨ub, uc⟩ := (useB_iff hl o.small).mp cu
              have L0 : Lst rs u [0] := ⟨ub, uc, hl, by simp⟩
              obtain ⟨way, w1, w2, w3, w4, w5⟩ := least_ok o.small u.sum u [0] L0 rfl
              have kk := kk3 cu (by omega) way w1
              refine iteF ⟨by decide, fun pw hpw => ⟨by decide, fun q hq => ⟨b, rfl, (nI u).map V.int, .inr ?_, fun L hL => ?_⟩⟩⟩
              · exact (((s12.then_new hpw).then_new hq).seqT hb)
              have n1 : pw ≠ q := fun z => by rw [← z, upd_same] at hq; cases hq
              have n2 : q ≠ L := fun z => by rw [← z, upd_same] at hL; cases hL
              have n3 : pw ≠ L := fun z => by rw [← z, upd_ne n1, upd_same] at hL; cases hL
              have t3 : Same H (upd (upd (upd H2 pw (.lst [])) q (.lst [V.int 0])) L (.lst ((nI u).map V.int))) := ((s12.then_new hpw).then_new hq).then_new hL
              have g1 : (upd (upd (upd H2 pw (.lst [])) q (.lst [V.int 0])) L (.lst ((nI u).map V.int))) pw = some (.lst ((nI []).map V.int)) := by rw [upd_ne n3, upd_ne n1, upd_same]; rfl
              have g2 : (upd (upd (upd H2 pw (.lst [])) q (.lst [V.int 0])) L (.lst ((nI u).map V.int))) q = some (.lst ((nI [0]).map V.int)) := by rw [upd_ne n2, upd_same]; rfl
              have g3 : (upd (upd (upd H2 pw (.lst [])) q (.lst [V.int 0])) L (.lst ((nI u).map V.int))) L = some (.lst ((nI u).map V.int)) := upd_same
              have f1 : H pw = none := s12.free hpw
              have f3 : H L = none := ((s12.then_new hpw).then_new hq).free hL
              generalize (upd (upd (upd H2 pw (.lst [])) q (.lst [V.int 0])) L (.lst ((nI u).map V.int))) = H3 at t3 g1 g2 g3 ⊢
              refine ⟨_, rfl, b, nI u, rfl, t3.seqT hb, _, rfl, by rw [nI_sum]; omega, by rw [nI_sum]; omega, ?_⟩
              rw [nI_sum, Int.toNat_natCast]
              refine for_it walk_range (fun i σ H' => ∃ q v6 v7 uL A2 w0, σ = [some (V.ref a), some (.ref b), some (.ref ra), some (.ref pw), some (.ref q), some (.ref L), v6, v7] ∧ Same H H' ∧ H' pw = some (.lst ((nI w0).map V.int)) ∧ H' q = some (.lst ((nI A2).map V.int)) ∧ H' L = some (.lst ((nI uL).map V.int)) ∧ pw ≠ q ∧ q ≠ L ∧ Lst rs uL A2 ∧ uL.sum + i = u.sum ∧ A2.length ≤ 1 + 6 * i ∧ w0.length = i ∧ least rs u.sum u [0] = (least rs (u.sum - i) uL A2).map (w0 ++ ·)) ⟨q, _, _, u, [0], [], rfl, t3, g1, g2, g3, n1, n2, L0, rfl, by decide, rfl, by simp⟩ (fun _ _ _ _ _ => trivial) (fun i x σ H4 H5 hi p y => ?_) (fun σ H4 p => ?_)
              · obtain ⟨q, v6, v7, uL, A2, w0, rfl, t4, j1, j2, j3, m1, m2, L4, su, la, lw, le⟩ := p
                obtain ⟨rfl, rfl⟩ := y
                have hiN : i < u.sum := hi
                obtain ⟨v, B2, rfl⟩ := lst_cons L4 (by omega)
                obtain ⟨n, r, p1, p2, p3, p4, p5, p6⟩ := pick_some o.small L4
                have hnl : n < uL.length := by rw [L4.len]; exact (List.getElem?_eq_some_iff.mp p2).1
                walk_at "nf"
                walk_at "sx"
                have L4lt := L4.lt
                refine ⟨_, L, q, m, rs, uL, v :: B2, rfl, hrs0.to t4, .of j3, .of j2, by simp, L4lt, by omega, o, L4.len, fun H6 e6 => ?_⟩
                rw [p1]
                have t6 := t4.trans e6
                have i1 := e6 _ _ j1
                have i2 := e6 _ _ j2
                have i3 := e6 _ _ j3
                obtain ⟨z, hz⟩ : ∃ z, zs[n]? = some z := ⟨_, List.getElem?_eq_getElem (by rw [hzl, ← L4.len]; exact hnl)⟩
                obtain ⟨r', hr', hdz⟩ := hat n z hz
                rw [p2] at hr'
                obtain rfl := Option.some.inj hr'
                have eg : uL.getD n 0 = uL[n] := by rw [List.getD_eq_getElem?_getD, List.getElem?_eq_getElem hnl]; rfl
                have pos : 0 < uL[n] := by rw [← eg]; exact p4
                refine ⟨.inl ⟨_, .of i1⟩, _, i1, by rw [nIv_len, lw]; exact slt (by omega), ?_⟩
                show ∃ x_2 x_3, V.int (n : Nat) = V.int x_3 ∧ _
                have h6 : (upd H6 pw (.lst ((nI w0).map V.int ++ [V.int (n : Nat)]))) L = some (.lst ((nI uL).map V.int)) := by rw [upd_ne (Ne.symm n3)]; exact i3
                have hq6 : (upd H6 pw (.lst ((nI w0).map V.int ++ [V.int (n : Nat)]))) q = some (.lst ((nI (v :: B2)).map V.int)) := by rw [upd_ne (Ne.symm m1)]; exact i2
                have ez : ((uL[n] : Nat) : Int) - 1 = ((uL[n] - 1 : Nat) : Int) := by omega
                refine ⟨_, (n : Nat), rfl, .of h6, by omega, _, atI_get (nIv_at hnl), _, rfl, _, _, rfl, h6, n, ixN_nat (by rw [nIv_len]; exact hnl), _, _, rfl, ?_, z, atI_get hz, z, r, rfl, ?_, by have := o.body r (List.mem_of_getElem? p2); omega, fun H8 p8 e8 hp8 h8 => ⟨q, (nI (v :: B2)).map V.int, rfl, .of ?_, fun q9 hq9 => ?_⟩⟩
                · exact ((t6.mut f1).mut f3).seqT hra
                · exact hdz.to ((t6.mut f1).mut f3)
                · refine e8 _ _ ?_
                  rw [upd_ne m2]
                  exact hq6
                · have edec : ((nI uL).map V.int).set n (V.int (((uL[n] : Nat) : Int) - 1)) = (nI (decL uL n)).map V.int := by
                    unfold decL
                    rw [ez, nIv_set, eg]
                  have ec : cutV ((nI (v :: B2)).map V.int) (some 1) none = (nI B2).map V.int := cutV_from _ 1
                  have t8 : Same H H8 := ((t6.mut f1).mut f3).trans e8
                  have k1 : H8 pw = some (.lst ((nI (w0 ++ [n])).map V.int)) := e8 _ _ (by rw [upd_ne n3, upd_same, nI_app, List.map_append]; rfl)
                  have k3 : H8 L = some (.lst ((nI (decL uL n)).map V.int)) := e8 _ _ (by rw [upd_same, edec])
                  have t9 := t8.then_new (o := .lst (cutV ((nI (v :: B2)).map V.int) (some 1) none)) hq9
                  have s9 := Same.new (o := .lst (cutV ((nI (v :: B2)).map V.int) (some 1) none)) hq9
                  have k1' := s9 _ _ k1
                  have k3' := s9 _ _ k3
                  have k8 := s9 _ _ h8
                  have k9 : (upd H8 q9 (.lst (cutV ((nI (v :: B2)).map V.int) (some 1) none))) q9 = some (.lst ((nI B2).map V.int)) := by rw [upd_same, ec]
                  generalize (upd H8 q9 (.lst (cutV ((nI (v :: B2)).map V.int) (some 1) none))) = H9 at t9 k1' k3' k8 k9 ⊢
                  have hx6 := xs_le r.2
                  have hb6 := o.body r (List.mem_of_getElem? p2)
                  rw [List.length_cons] at la
                  have z5 : 6000 ≤ sizeLine := by decide
                  refine ⟨p8, q9, _, _, rfl, rfl, k8, k9, by rw [nIv_len, nIv_len]; omega, fun q10 hq10 => ?_⟩
                  have s10 := Same.new (o := .lst ((nI (xs r.2)).map V.int ++ (nI B2).map V.int)) hq10
                  have er : rs.getD n (0, []) = r := by rw [List.getD_eq_getElem?_getD, p2]; rfl
                  have sd := sum_dec uL n p4
                  refine ⟨q10, rfl, t9.then_new hq10, decL uL n, xs r.2 ++ B2, w0 ++ [n], s10 _ _ k1', by rw [upd_same, nI_app, List.map_append], s10 _ _ k3', (fun z => by rw [← z, k1'] at hq10; cases hq10), (fun z => by rw [z, k3'] at hq10; cases hq10), p5, by omega, by rw [List.length_append]; omega, by rw [List.length_append, lw]; rfl, ?_⟩
                  rw [le, show u.sum - i = (u.sum - (i + 1)) + 1 from by omega, least_step p1, er]
                  show ((least rs _ (decL uL n) (xs r.2 ++ B2)).map _).map _ = _
                  rw [Option.map_map]
                  congr 1
                  funext z
                  show w0 ++ (n :: z) = (w0 ++ [n]) ++ z
                  rw [List.append_assoc]
                  rfl
              · obtain ⟨q, v6, v7, uL, A2, w0, rfl, t4, j1, j2, j3, m1, m2, L4, su, la, lw, le⟩ := p
                walk_at "nf"
                have e0 : w0 = way := by
                  rw [Nat.sub_self, w1] at le
                  have : some way = some (w0 ++ []) := le
                  rw [List.append_nil] at this
                  exact (Option.some.inj this).symm
                subst e0
                exact ⟨_, rfl, pw, _, rfl, .inl ⟨.of j1, fun t1 o1 ht1 ho1 => kk _ _ (t4.then_new ht1) (.row (.new ho1))⟩⟩
    · rcases k with ⟨p2, e2, ho⟩ | ⟨m, rs, rfl, o, k0, k1⟩
      · rw [e] at e2
        cases e2
        exact ho
      · rw [gOk_none o] at e; cases e
end
end Ws
/-! ## E46n -/
namespace Ws
open PySem PySem.Spec PyProof.Rows L2 RZ Gm
local macro_rules | `(tactic| walk_at "nf") => `(tactic| dsimp only [tNext, tSeq, tDrop, tRet, tRetN, tIfS, tAsg, gName, gTup, gCons, gNil, tVar, tC, tOp, tUn, rI, rI0, rU, rEq, rNe, tTest, tChain, tAnd, tOr, tNot, tAndV, tOrV, tNotV, tIf, tCB, tCKw, tCons, tNil, tTup, tLst, tCa, tCallS, tB, rIxT, rIxL, rIxS, cxOf, Cx.nox, Cx.wish, Cx.blk, L2.start, tPar, tPar3, tNever, tYes, tBits, tRz, tBM, rAppend, tyV, tXf, suiteEnds, gSub, rSetL, tBreak, rMax, tDGet, sDPut, tSl, tNoPart, tPart, tDisp, tPairs, tDGet2, tDNewK, tAugS, ipI, rGetL, tDIn, tDNotIn, tBM0, rPop, tBMT, tTupF])
local macro_rules | `(tactic| walk_at "sx") => `(tactic| simp only [wipe, List.cons.injEq, and_assoc, exists_and_left, and_true, List.map_cons, List.map_nil, List.length_cons, List.length_nil, List.cons_append, List.nil_append, List.append_nil, Nat.reduceAdd, Nat.reduceSub, List.replicate, List.getElem?_cons_zero, List.getElem?_cons_succ, List.set_cons_zero, List.set_cons_succ, Option.some.injEq, V.int.injEq, V.bl.injEq, V.ref.injEq, V.str.injEq, exists_eq_left', exists_eq_left, true_and, Bool.true_eq_false, Bool.false_eq_true, if_true, if_false])

local macro_rules | `(tactic| walk_at "qe") => `(tactic| repeat' first | exact QE.int | exact QE.str | exact QE.non | exact QE.bl | exact QEs.nil | refine QEs.cons ?_ ?_ | refine QE.tup ?_)
theorem cut_le : ∀ its : List Itm, (cut its).1.length ≤ its.length
  | [] => Nat.le_refl _
  | .X n :: r => Nat.le_refl _
  | .L n :: r => Nat.le_trans (cut_le r) (Nat.le_succ _)
def spLess (K : PySem.W.Frag) : Sp := fun vs H Q _ => ∃ (uv : V) (n : Nat) (u : List Nat), vs = [uv, .int (n : Nat)] ∧ Dq K H (rowD u) uv ∧ n < u.length ∧ 0 < u.getD n 0 ∧ u.length ≤ 1000 ∧ ∀ H' x, Same H H' → Dq K H' (rowD (decL u n)) x → Q x H'
/-- does the way come to its end -/
def whole (rs : List Ru) : List Itm → List Nat → Bool
  | its, [] => its.isEmpty
  | its, n :: w => match put rs its n with
    | none => false
    | some told => whole rs (cut told).1 w
theorem whole_way {rs : List Ru} : ∀ {way : List Nat} {its : List Itm}, Led its → whole rs its way = true → Way rs (xs its) way
  | [], its, _, h => by
    have : its = [] := by simpa [whole] using h
    subst this
    exact .nil
  | n :: w, its, led, h => by
    cases hp : put rs its n with
    | none =>
      rw [show whole rs its (n :: w) = false from by show (match put rs its n with | none => false | some told => _) = _; rw [hp]] at h
      cases h
    | some told =>
      rw [show whole rs its (n :: w) = whole rs (cut told).1 w from by show (match put rs its n with | none => false | some told => _) = _; rw [hp]] at h
      obtain ⟨v, rest, body, rfl, h2, rfl⟩ := put_some hp
      have ih := whole_way (led_cut _) h
      rw [xs_cut, xs_app] at ih
      exact .step h2 ih
def spWhole (K : PySem.W.Frag) : Sp := fun vs H Q _ => ∃ (gv wv : V) (m : Nat) (rs : List Ru) (way : List Nat), vs = [gv, wv] ∧ Dq K H (grD m rs) gv ∧ GOk m rs ∧ Dq K H (rowD way) wv ∧ way.length ≤ 100 ∧ (∀ n ∈ way, n < rs.length) ∧ ∀ H', Same H H' → Q (.bl (whole rs [.X 0] way)) H'
abbrev s__law_less : Stmt := top 40
abbrev nm__law_less : List Str := ["uses_so", "number"]
abbrev pr__law_less : List Str := ["uses_so", "number"]
theorem sc__law_less : FnScope nm__law_less pr__law_less (defScope s__law_less) := ⟨rfl, rfl, rfl, by decide +kernel, rfl, by decide +kernel, by decide +kernel⟩
abbrev s__law_whole : Stmt := top 42
abbrev nm__law_whole : List Str := ["grammar_so", "way_so", "items", "number"]
abbrev pr__law_whole : List Str := ["grammar_so", "way_so"]
theorem sc__law_whole : FnScope nm__law_whole pr__law_whole (defScope s__law_whole) := ⟨rfl, rfl, rfl, by decide +kernel, rfl, by decide +kernel, by decide +kernel⟩
section
variable {K : PySem.W.Frag}
theorem sq_go {te : TE} {i : Nat} {u : TS} {D : Ends} {σ : L2.St} {H : Hp} (h : te σ H fun v H1 => u D (σ.set i (some v)) H1) : tSeq (tAsg te (gName i)) u D σ H := h
theorem sq_if0 {t : TT} {r u : TS} {D : Ends} {σ : L2.St} {H : Hp} (h : t σ H fun b H1 => if b = true then r { D with nx := u D } σ H1 else u D σ H1) : tSeq (tIfS t r tNext) u D σ H := h
theorem sq_fr {w : TI} {g : TG} {b u : TS} {D : Ends} {σ : L2.St} {H : Hp} (h : tFor w g b { D with nx := u D } σ H) : tSeq (tFor w g b) u D σ H := h
theorem settled_ok {i : Nat} {its : List Itm} {iv : V} {σ : L2.St} {H : Hp} {Q : VK} (hi : σ[i]? = some (some iv)) (hd : Dq K H (itsD its) iv) (hz : its.length ≤ 9000) (q : ∀ H' z, Same H H' → Dq K H' (itsD (cut its).1) z → Q z H') :
    tOp (rIxT K) (tCa (spSettled K) E0 (tCons (tVar i) (tCons (tTupF tNil) tNil))) (tC (V.int 0)) σ H Q := by
  refine ⟨_, hi, by show 0 ≤ sizeLine; decide, fun p o hp ho => ⟨iv, .ref p, its, [], rfl, hd.new hp, .tup (.new ho) .nil_, by omega, by decide, fun H2 u e hu => ?_⟩⟩
  obtain ⟨T, ws, rfl, hT, hw⟩ := hu.tup_inv
  obtain ⟨z1, z2, rfl, hz1, _⟩ := hw.two
  exact ⟨T, _, 0, _, rfl, rfl, hT.sq, rfl, q _ _ ((Same.new hp).trans e) hz1⟩
end
section
variable {P : Program} {w : World} {K : PySem.W.Frag} {mg : Str → Option Value} {base : Heap} {SA BG BP TG : Addr}
theorem ok_less (B : Bl mg) (D : Dt K mg "_law_less" s__law_less pr__law_less) : Df P w K mg base CX0 1 "_law_less" pr__law_less (spLess K) := by
  refine D.ok sc__law_less (fun vs H Q E h => ?_) (fun f cdv A outer s H vs Q E hr h => ?_)
  · obtain ⟨uv, n, u, rfl, _⟩ := h
    rfl
  · obtain ⟨uv, n, u, rfl, hu, hn, hp, hz, k⟩ := h
    obtain ⟨b, rfl, hb⟩ := hu.row_inv
    refine ⟨_, (pss_one (ps_ret (pe_op op_catF (pe_op op_catF (pe_slice sl_tupF (pv 0) po_none (po_some (pv 1))) (pe_tupF (pa_cons (pe_op op_sub (pe_ix ix_tup (pv 0) (pv 1) (fun _ _ => rfl)) pe_int) pa_nil))) (pe_slice sl_tupF (pv 0) (po_some (pe_op op_add (pv 1) pe_int)) po_none)))), ?_⟩
    walk_at "nf"
    walk_at "sx"
    have eu : u.getD n 0 = u[n] := by rw [List.getD_eq_getElem?_getD, List.getElem?_eq_getElem hn]; rfl
    have ez : ((u[n] : Nat) : Int) - 1 = ((u[n] - 1 : Nat) : Int) := by rw [eu] at hp; omega
    refine slF_ok hb fun r1 H1 e1 h1 => ⟨_, (hb.same e1).sq, _, atI_get (nIv_at hn), _, rfl, by decide, fun p o hp ho => ?_⟩
    rw [cutV_to] at h1
    have s2 := Same.new (o := .frz o (.tup [V.int (((u[n] : Nat) : Int) - 1)])) hp
    refine catF_ok (h1.same s2) (.new ho) (by rw [List.length_take, nIv_len, List.length_singleton]; omega) fun r2 H3 e3 h3 => slF_ok (((hb.same e1).same s2).same e3) fun r3 H4 e4 h4 => ?_
    rw [show (n : Int) + 1 = ((n + 1 : Nat) : Int) from by omega, cutV_from] at h4
    refine catF_ok (h3.same e4) h4 (by rw [List.length_append, List.length_take, List.length_drop, nIv_len, List.length_singleton]; omega) fun r5 H5 e5 h5 => k _ _ (((e1.trans s2).trans e3).trans (e4.trans e5)) (.row ?_)
    have efew : ((nI u).map V.int).take n ++ [V.int (((u[n] : Nat) : Int) - 1)] ++ ((nI u).map V.int).drop (n + 1) = (nI (decL u n)).map V.int := by
      unfold decL
      rw [eu, List.set_eq_take_append_cons_drop, if_pos hn]
      unfold nI
      rw [List.map_append, List.map_append, List.map_take, List.map_take, List.map_cons, List.map_cons, List.map_drop, List.map_drop, List.append_assoc, List.singleton_append, ← ez]
    rw [← efew]
    exact h5
theorem ok_whole (B : Bl mg) (F1 : Df P w K mg base CX0 1 "_law_put" pr__law_put (spPut K)) (F2 : Df P w K mg base CX0 1 "_law_settled" pr__law_settled (spSettled K)) (D : Dt K mg "_law_whole" s__law_whole pr__law_whole) : Df P w K mg base CX0 2 "_law_whole" pr__law_whole (spWhole K) := by
  refine D.ok sc__law_whole (fun vs H Q E h => ?_) (fun f cdv A outer s H vs Q E hr h => ?_)
  · obtain ⟨gv, wv, m, rs, way, rfl, _⟩ := h
    rfl
  · obtain ⟨gv, wv, m, rs, way, rfl, hg, o, hw, hwl, hwn, k⟩ := h
    obtain ⟨b, rfl, hb⟩ := hw.row_inv
    refine ⟨_, (pss_cons (ps_set (i := 2) sc__law_whole.nd rfl (Or.inl rfl) (pe_tupF (pa_cons (pe_tupF (pa_cons pe_str (pa_cons pe_int pa_nil))) pa_nil))) (pss_cons (ps_for PassesOwn.never rfl (pi_tup (pv 1)) (pg_name (i := 3) sc__law_whole.nd rfl (Or.inl rfl)) (pss_cons (ps_set (i := 2) sc__law_whole.nd rfl (Or.inl rfl) (pe_f F1 (hr.mono (by decide)) pass0 (pa_cons (pe_ix ix_tup (pv 0) pe_int (fun _ _ => rfl)) (pa_cons (pv 2) (pa_cons (pv 3) pa_nil))))) (pss_cons (ps_if (pt_cmpR op_isN (pv 2) pe_non (nomark _)) (pss_one (ps_ret pe_bl)) pss_nil) (pss_one (ps_set (i := 2) sc__law_whole.nd rfl (Or.inl rfl) (pe_ix ix_tup (pe_f F2 (hr.mono (by decide)) pass0 (pa_cons (pv 2) (pa_cons (pe_tupF pa_nil) pa_nil))) pe_int (fun _ _ => rfl))))))) (pss_one (ps_ret (pe_cmpR (op_eqD hr.units) (pv 2) (pe_tupF pa_nil) (nomark _)))))), ?_⟩
    dsimp only [cxOf, Cx.nox]
    refine sq_go ((show QE K _ _ (itsD [.X 0]) from by walk_at "qe") _ _ fun H1 iv e1 h1 => ?_)
    refine sq_fr ⟨_, rfl, b, rfl, ⟨_, (hb.same e1).sq⟩, for_it (walk_tup (K := K) (a := b) (xs := (nI way).map V.int)) (fun i σ H' => Same H H' ∧ ∃ iv v3 its, σ = [some gv, some (.ref b), some iv, v3] ∧ Dq K H' (itsD its) iv ∧ Led its ∧ whole rs [.X 0] way = whole rs its (way.drop i) ∧ its.length ≤ 1 + 6 * i) ⟨e1, iv, _, [.X 0], rfl, h1, .inr ⟨0, [], rfl⟩, rfl, by decide⟩ (fun i σ H' _ p => (hb.same p.1).sq) (fun i x σ H3 H4 hi p y => ?_) (fun σ H3 p => ?_)⟩
    · obtain ⟨s3, iv, v3, its, rfl, hit, led, ew, hl⟩ := p
      obtain ⟨rfl, hx⟩ := y
      obtain ⟨n, hn, rfl⟩ := nI_get hx
      have hi100 : i < 100 := by have := (List.getElem?_eq_some_iff.mp hn).1; omega
      have hnr := hwn n (List.mem_of_getElem? hn)
      obtain ⟨ga, gu, rfl, hga, hgu⟩ := gr_q (hg.to s3)
      have ed : way.drop i = n :: way.drop (i + 1) := by
        have := List.drop_eq_getElem_cons (List.getElem?_eq_some_iff.mp hn).1
        rw [this, (List.getElem?_eq_some_iff.mp hn).2]
      refine sq_go ⟨_, rfl, ga, _, 1, _, rfl, rfl, hga.sq, rfl, _, rfl, _, rfl, gu, iv, rs, its, n, rfl, hgu, hit, led, hnr, by omega, fun r hr => by have := o.body r hr; omega, fun H5 u e5 hu => ?_⟩
      cases hp : put rs its n with
      | none =>
        have eu : u = .non := by
          unfold putD at hu
          rw [hp] at hu
          simpa only [Dq] using hu
        subst eu
        refine sq_if0 ⟨_, rfl, rfl, _, rfl, iteT ?_⟩
        have q := k _ (s3.trans e5)
        have : whole rs its (n :: way.drop (i + 1)) = false := by show (match put rs its n with | none => false | some told => _) = _; rw [hp]
        rw [ew, ed, this] at q
        exact q
      | some told =>
        have hu' : Dq K H5 (itsD told) u := by
          unfold putD at hu
          rw [hp] at hu
          exact hu
        have nu : u ≠ .non := by
          obtain ⟨au, xu, e, _⟩ := hu'.tup_inv
          rw [e]
          exact fun z => by cases z
        have ew2 : whole rs its (n :: way.drop (i + 1)) = whole rs (cut told).1 (way.drop (i + 1)) := by show (match put rs its n with | none => false | some told => _) = _; rw [hp]
        obtain ⟨v, rest, body, rfl, h2, rfl⟩ := put_some hp
        have hb6 : body.length ≤ 6 := o.body _ (List.mem_of_getElem? h2)
        rw [List.length_cons] at hl
        refine sq_if0 ⟨_, rfl, rfl, _, rfl, ?_⟩
        rw [decide_eq_false nu]
        refine iteF (settled_ok rfl hu' (by rw [List.length_append]; omega) fun H6 z e6 hz => ?_)
        refine ⟨(s3.trans e5).trans e6, z, _, _, rfl, hz, led_cut _, by rw [ew, ed, ew2], ?_⟩
        have := cut_le (body ++ rest)
        rw [List.length_append] at this
        omega
    · obtain ⟨s3, iv, v3, its, rfl, hit, led, ew, hl⟩ := p
      rw [nIv_len, List.drop_length] at ew
      refine ⟨_, rfl, by show 0 ≤ sizeLine; decide, fun p op hp hop => ⟨itsD its, .tuple [], (hit.new hp).dp, .tup (.inl (.inr ⟨_, upd_same⟩)) .nil, lay_its its, rfl, ?_⟩⟩
      have q := k _ (s3.then_new (o := .frz op (.tup [])) hp)
      rw [ew] at q
      have : PyData.eqv (itsD its) (.tuple []) = whole rs its [] := by cases its <;> rfl
      rw [this]
      exact q
end
end Ws
/-! ## E46o -/
namespace Ws
open PySem PySem.Spec PyProof.Rows L2 RZ Gm
local macro_rules | `(tactic| walk_at "nf") => `(tactic| dsimp only [tNext, tSeq, tDrop, tRet, tRetN, tIfS, tAsg, gName, gTup, gCons, gNil, tVar, tC, tOp, tUn, rI, rI0, rU, rEq, rNe, tTest, tChain, tAnd, tOr, tNot, tAndV, tOrV, tNotV, tIf, tCB, tCKw, tCons, tNil, tTup, tLst, tCa, tCallS, tB, rIxT, rIxL, rIxS, cxOf, Cx.nox, Cx.wish, Cx.blk, L2.start, tPar, tPar3, tNever, tYes, tBits, tRz, tBM, rAppend, tyV, tXf, suiteEnds, gSub, rSetL, tBreak, rMax, tDGet, sDPut, tSl, tNoPart, tPart, tDisp, tPairs, tDGet2, tDNewK, tAugS, ipI, rGetL, tDIn, tDNotIn, tBM0, rPop, tBMT, tTupF])
local macro_rules | `(tactic| walk_at "sx") => `(tactic| simp only [wipe, List.cons.injEq, and_assoc, exists_and_left, and_true, List.map_cons, List.map_nil, List.length_cons, List.length_nil, List.cons_append, List.nil_append, List.append_nil, Nat.reduceAdd, Nat.reduceSub, List.replicate, List.getElem?_cons_zero, List.getElem?_cons_succ, List.set_cons_zero, List.set_cons_succ, Option.some.injEq, V.int.injEq, V.bl.injEq, V.ref.injEq, V.str.injEq, exists_eq_left', exists_eq_left, true_and, Bool.true_eq_false, Bool.false_eq_true, if_true, if_false])

local macro_rules | `(tactic| walk_at "qe") => `(tactic| repeat' first | exact QE.int | exact QE.str | exact QE.non | exact QE.bl | exact QEs.nil | refine QEs.cons ?_ ?_ | refine QE.tup ?_)
theorem sq_as {te : TE} {g : TG} {u : TS} {D : Ends} {σ : L2.St} {H : Hp} (h : te σ H fun v H1 => g v σ H1 fun σ2 H2 => u D σ2 H2) : tSeq (tAsg te g) u D σ H := h
theorem fmap_int (keep : Nat → Bool) (n : Nat) : (((List.range n).filter keep).map fun i => V.int (i : Nat)) = (nI ((List.range n).filter keep)).map V.int := by unfold nI; rw [List.map_map]; rfl
def spDrawnWay (K : PySem.W.Frag) : Sp := fun vs H Q _ => ∃ (a l c : Addr) (n t : Nat) (gv : V) (m : Nat) (rs : List Ru), vs = [.ref a, gv, .int (t : Nat)] ∧ LSt H a l c n ∧ n ≤ 800000 ∧ t ≤ 30 ∧ Dq K H (grD m rs) gv ∧ GOk m rs ∧
  ∀ H' x way, Sbt a l H H' → LSt H' a l c (n + 30) → Dq K H' (rowD way) x → way.length ≤ 30 → (∀ z ∈ way, z < rs.length) → Q x H'
abbrev s__law_drawn_way : Stmt := top 33
abbrev nm__law_drawn_way : List Str := ["state", "grammar_so", "most", "items", "word", "found", "step", "able", "number", "k", "rule"]
abbrev pr__law_drawn_way : List Str := ["state", "grammar_so", "most"]
theorem sc__law_drawn_way : FnScope nm__law_drawn_way pr__law_drawn_way (defScope s__law_drawn_way) := ⟨rfl, rfl, rfl, by decide +kernel, rfl, by decide +kernel, by decide +kernel⟩
section
variable {P : Program} {w : World} {K : PySem.W.Frag} {mg : Str → Option Value} {base : Heap} {SA BG BP TG : Addr}
theorem ok_drawn_way (B : Bl mg) (F1 : Df P w K mg base CX0 2 "_law_draw" pr__law_draw spDrawW) (F2 : Df P w K mg base CX0 1 "_law_put" pr__law_put (spPut K)) (F3 : Df P w K mg base CX0 1 "_law_settled" pr__law_settled (spSettled K)) (D : Dt K mg "_law_drawn_way" s__law_drawn_way pr__law_drawn_way) : Df P w K mg base CX0 3 "_law_drawn_way" pr__law_drawn_way (spDrawnWay K) := by
  refine D.ok sc__law_drawn_way (fun vs H Q E h => ?_) (fun f cdv A outer s H vs Q E hr h => ?_)
  · obtain ⟨a, l, c, n, t, gv, m, rs, rfl, _⟩ := h
    rfl
  · obtain ⟨a, l, c, n, t, gv, m, rs, rfl, hl, hn, ht, hg, o, k⟩ := h
    refine ⟨_, (pss_cons (ps_asg (pe_tupF (pa_cons (pe_tupF (pa_cons (pe_tupF (pa_cons pe_str (pa_cons pe_int pa_nil))) pa_nil)) (pa_cons (pe_tupF pa_nil) (pa_cons (pe_tupF pa_nil) pa_nil)))) (pg_tup rfl (pgs_cons (pg_name (i := 3) sc__law_drawn_way.nd rfl (Or.inr rfl)) (pgs_cons (pg_name (i := 4) sc__law_drawn_way.nd rfl (Or.inl rfl)) (pgs_cons (pg_name (i := 5) sc__law_drawn_way.nd rfl (Or.inl rfl)) pgs_nil))))) (pss_cons (ps_for PassesOwn.never rfl (pi_range1 (by rfl) B.range (pa_cons (pv 2) pa_nil)) (pg_name (i := 6) sc__law_drawn_way.nd rfl (Or.inl rfl)) (pss_one (ps_if (pt_cmpR (op_neD hr.units) (pv 3) (pe_tupF pa_nil) (nomark _)) (pss_cons (ps_setLc (i := 7) (own := [("k", 9), ("rule", 10)]) (g := gTup K 2 (gCons (gName 9) (gCons (gName 10) gNil))) (tt := (tTest (tOp rEq (tOp (rIxT K) (tVar 10) (tC (V.int 0))) (tOp (rIxT K) (tOp (rIxT K) (tVar 3) (tC (V.int 0))) (tC (V.int 1)))))) rfl sc__law_drawn_way.nd rfl rfl (sw_true rfl rfl rfl (by decide +kernel)) (pi_enumT (by rfl) B.enumerate (pa_cons (pe_ix ix_tup (pv 1) pe_int (fun _ _ => rfl)) pa_nil)) (blkOk_by (own := [("k", 9), ("rule", 10)]) (N := nm__law_drawn_way) (sc := defScope s__law_drawn_way) (by decide +kernel)) (fun _ _ _ _ _ => pg_tup rfl (pgs_cons (pg_name (i := 9) sc__law_drawn_way.nd rfl (Or.inl rfl)) (pgs_cons (pg_name (i := 10) sc__law_drawn_way.nd rfl (Or.inl rfl)) pgs_nil))) (fun _ _ _ _ _ => (pts_one (pt_cmpR op_eq (pe_ix ix_tup (pv 10) pe_int (fun _ _ => rfl)) (pe_ix ix_tup (pe_ix ix_tup (pv 3) pe_int (fun _ _ => rfl)) pe_int (fun _ _ => rfl)) (nomark _)))) (fun _ _ _ _ _ => (pv 9))) (pss_one (ps_if (pt_cmpR (op_neD hr.units) (pv 7) (pe_lst pa_nil) (nomark _)) (pss_cons (ps_set (i := 8) sc__law_drawn_way.nd rfl (Or.inl rfl) (pe_ix ix_list (pv 7) (pe_f F1 (hr.mono (by decide)) pass0 (pa_cons (pv 0) (pa_cons (pe_callB call_len_seq (by rfl) B.len PySem.boot_len (pa_cons (pv 7) pa_nil)) pa_nil))) (fun _ _ => rfl))) (pss_cons (ps_set (i := 5) sc__law_drawn_way.nd rfl (Or.inl rfl) (pe_op op_catF (pv 5) (pe_tupF (pa_cons (pv 8) pa_nil)))) (pss_one (ps_asg (pe_f F3 (hr.mono (by decide)) pass0 (pa_cons (pe_f F2 (hr.mono (by decide)) pass0 (pa_cons (pe_ix ix_tup (pv 1) pe_int (fun _ _ => rfl)) (pa_cons (pv 3) (pa_cons (pv 8) pa_nil)))) (pa_cons (pv 4) pa_nil))) (pg_tup rfl (pgs_cons (pg_name (i := 3) sc__law_drawn_way.nd rfl (Or.inr rfl)) (pgs_cons (pg_name (i := 4) sc__law_drawn_way.nd rfl (Or.inl rfl)) pgs_nil))))))) pss_nil))) pss_nil))) (pss_one (ps_ret (pv 5))))), ?_⟩
    dsimp only [cxOf, Cx.nox]
    refine sq_as ((show QE K _ _ (.tuple [itsD [.X 0], .tuple [], .tuple []]) from by walk_at "qe") _ _ fun H1 v1 e1 h1 => ?_)
    obtain ⟨T1, ws1, rfl, hT1, hw1⟩ := h1.tup_inv
    obtain ⟨z1, z2, z3, rfl, hz1, hz2, hz3⟩ := hw1.three
    refine ⟨T1, _, rfl, hT1.sq, rfl, _, _, rfl, _, _, rfl, _, _, rfl, rfl, ?_⟩
    have s1 := hl.same e1
    refine sq_fr ⟨_, rfl, _, rfl, by omega, by omega, ?_⟩
    rw [Int.toNat_natCast]
    refine for_it walk_range (fun i σ H' => ∃ iv wv fv v6 v7 v8, σ = [some (V.ref a), some gv, some (.int (t : Nat)), some iv, some wv, some fv, v6, v7, v8, none, none] ∧ Sbt a l H H' ∧ LSt H' a l c (n + i) ∧ ∃ its wd way, Dq K H' (itsD its) iv ∧ Led its ∧ its.length + wd.length ≤ 1 + 6 * i ∧ Dq K H' (rowD wd) wv ∧ Dq K H' (rowD way) fv ∧ way.length ≤ i ∧ ∀ z ∈ way, z < rs.length) ⟨z1, z2, z3, _, _, _, rfl, Sbt.of e1, s1, [.X 0], [], [], hz1, .inr ⟨0, [], rfl⟩, by decide, hz2, hz3, by decide, by simp⟩ (fun _ _ _ _ _ => trivial) (fun i x σ H3 H4 hi p y => ?_) (fun σ H3 p => ?_)
    · obtain ⟨iv, wv, fv, v6, v7, v8, rfl, e3, s3, its, wd, way, hit, led, hil, hwd, hway, hyl, hyn⟩ := p
      obtain ⟨rfl, rfl⟩ := y
      have hit' : i < t := hi
      refine ⟨_, rfl, by show 0 ≤ sizeLine; decide, fun pe oe hpe hoe => ?_⟩
      have n5 := Same.new (o := .frz oe (.tup [])) hpe
      have e5 := e3.same n5
      have s5 := s3.same n5
      have hit5 := hit.to n5
      have hwd5 := hwd.to n5
      have hway5 := hway.to n5
      have hpe5 : SqP K (upd H4 pe (.frz oe (.tup []))) pe [] := .new hoe
      generalize (upd H4 pe (.frz oe (.tup []))) = H5 at n5 e5 s5 hit5 hwd5 hway5 hpe5 ⊢
      refine ⟨itsD its, .tuple [], hit5.dp, .tup hpe5.sq .nil, lay_its its, rfl, _, rfl, ?_⟩
      rcases led with rfl | ⟨v0, rest, rfl⟩
      · exact iteF ⟨iv, wv, fv, _, _, _, rfl, e5, s5.mono (by omega), [], wd, way, hit5, .inl rfl, by omega, hwd5, hway5, by omega, hyn⟩
      · refine iteT ?_
        have hg5 := hg.st e5 hl
        obtain ⟨ga, gu, rfl, hga, hgu⟩ := gr_q hg5
        obtain ⟨ra, zs, rfl, hra, hzl, hzat, _⟩ := q_view hgu
        obtain ⟨ia, ws, rfl, hia, hwsl, hwat, _⟩ := q_view hit5
        obtain ⟨w0, hw0⟩ : ∃ w0, ws[0]? = some w0 := ⟨_, List.getElem?_eq_getElem (by rw [hwsl]; simp)⟩
        obtain ⟨t0, ht0, hd0⟩ := hwat 0 w0 hw0
        obtain rfl : Itm.X v0 = t0 := by simpa using ht0
        have l8 := o.l2
        refine sq_go ⟨_, rfl, ga, _, 1, _, rfl, rfl, hga.sq, rfl, ra, _, rfl, hra.sq, fun D hD => lcF (walk_enumT (K := K) (a := ra) (xs := zs)) hD (by rw [hzl]; exact slt (by omega)) (fun j => decide ((rs.getD j (0, [])).1 = v0)) (fun j y H => y = .int (j : Nat)) (fun i y H H' e n q => q) (fun H1 e => Same.seqT e hra.sq) (fun j x H9 H10 Q1 Q0 hj e y q1 q0 => ?_) (fun H9 ys e hD1 g => ?_)⟩
        · obtain ⟨T, x1, x2, rfl, hT, rfl, h1, h2⟩ := y
          obtain rfl : V.int (j : Nat) = x1 := Option.some.inj h1
          obtain ⟨r, hr1, hdr⟩ := hzat j x2 h2
          have e10 := Same.new (o := HO.tup [V.int (j : Nat), x2]) hT
          obtain ⟨p1, u1, rfl, hs1, _⟩ := ru_q ((hdr.to e).to e10)
          have er : rs.getD j (0, []) = r := by rw [List.getD_eq_getElem?_getD, hr1]; rfl
          rw [er] at q1 q0
          have hia' := (hia.same e).same e10
          obtain ⟨p0, rfl, hs0⟩ := it_q ((hd0.to e).to e10)
          walk_at "nf"
          refine ⟨T, _, rfl, .of upd_same, rfl, ?_⟩
          walk_at "sx"
          refine ⟨_, hs1.sq, _, rfl, _, hia'.sq, _, atI_get (j := 0) hw0, p0, rfl, _, hs0.sq, _, rfl, rfl, ?_⟩
          by_cases cz : r.1 = v0
          · rw [decide_eq_true (show V.int (r.1 : Nat) = V.int ((Itm.X v0).no : Nat) from by rw [cz]; rfl)]
            exact iteT (q1 (by rw [cz]; simp) _ _ rfl e10)
          · rw [decide_eq_false (show ¬ V.int (r.1 : Nat) = V.int ((Itm.X v0).no : Nat) from fun z => cz (by
              have z2 : V.int (r.1 : Nat) = V.int (v0 : Nat) := z
              have := V.int.inj z2
              omega))]
            exact iteF (q0 (by simp [cz]) _ e10)
        · have ev := g.vals (fun i => V.int (i : Nat)) (fun i y h => h)
          rw [hzl, fmap_int] at ev
          have hin : ∀ z ∈ (List.range rs.length).filter fun j => decide ((rs.getD j (0, [])).1 = v0), z < rs.length ∧ (rs.getD z (0, [])).1 = v0 := fun z hz => by
            rw [List.mem_filter, List.mem_range] at hz
            exact ⟨hz.1, by simpa using hz.2⟩
          have hle : ((List.range rs.length).filter fun j => decide ((rs.getD j (0, [])).1 = v0)).length ≤ 8 := by
            refine Nat.le_trans (List.length_filter_le _ _) ?_
            rw [List.length_range]
            exact l8
          generalize (List.range rs.length).filter (fun j => decide ((rs.getD j (0, [])).1 = v0)) = ab at ev hin hle
          subst ev
          obtain ⟨Da, Dl, _⟩ := s5.off hD
          have s9 := s5.same e
          have e9 := e5.same e
          refine ⟨_, rfl, by show 0 ≤ sizeLine; decide, fun pn hpn => ?_⟩
          have n6 := Same.new (o := .lst []) hpn
          have hD6 := n6 _ _ hD1
          have hpn6 : (upd H9 pn (.lst [])) pn = some (.lst []) := upd_same
          have s10 := s9.same n6
          have e10 := e9.same n6
          have nn := e.trans n6
          generalize (upd H9 pn (.lst [])) = H10 at n6 hD6 hpn6 s10 e10 nn ⊢
          refine ⟨.list ((nI ab).map PyData.int), .list [], .lst (.of hD6) (DpAll.ints _), .lst (.of hpn6) .nil, SN.shaped (n := 1) (.list fun d hd => by
            obtain ⟨z, _, rfl⟩ := List.mem_map.mp hd
            exact .int z) (by decide), SN.shaped (n := 1) (.list (by simp)) (by decide), _, rfl, ?_⟩
          rw [eqv_nil_list]
          cases ab with
          | nil => exact iteF ⟨_, _, fv, _, _, _, rfl, e10, s10.mono (by omega), .X v0 :: rest, wd, way, hit5.to nn, .inr ⟨v0, rest, rfl⟩, by omega, hwd5.to nn, hway5.to nn, by omega, hyn⟩
          | cons ab0 ab1 =>
            refine iteT ?_
            generalize hab : ab0 :: ab1 = ab at hD6 hin hle
            have hne : 0 < ab.length := by rw [← hab]; simp
            clear hab
            refine sq_go ⟨_, rfl, _, rfl, _, rfl, D, _, rfl, .inl (.of hD6), ?_⟩
            rw [nIv_len]
            refine ⟨a, l, c, _, _, rfl, s10, by omega, by omega, by omega, fun H11 d0 e11 s11 d1 d2 => ?_⟩
            obtain ⟨d0, rfl⟩ : ∃ y : Nat, d0 = (y : Nat) := ⟨d0.toNat, by omega⟩
            have hd0' : d0 < ab.length := by omega
            obtain ⟨hj, hjv⟩ := hin _ (List.getElem_mem hd0')
            refine ⟨D, _, _, _, rfl, rfl, .of (e11 _ _ hD6 Da Dl), atI_get (nIv_at hd0'), ?_⟩
            have n5b := nn
            have hit11 := (hit5.to nn).st e11 s10
            have hwd11 := (hwd5.to nn).st e11 s10
            have hway11 := (hway5.to nn).st e11 s10
            have hg11 := (hg5.to nn).st e11 s10
            refine sq_go ⟨_, rfl, _, rfl, by show 1 ≤ sizeLine; decide, fun p12 o12 hp12 ho12 => ?_⟩
            obtain ⟨fb, rfl, hfb⟩ := hway11.row_inv
            have n12 := Same.new (o := .frz o12 (.tup [V.int (ab[d0] : Nat)])) hp12
            refine catF_ok (hfb.same n12) (.new ho12) (by rw [nIv_len, List.length_singleton]; omega) fun r13 H13 e13 h13 => ?_
            have nn13 := n12.trans e13
            have hg13 := hg11.to nn13
            obtain ⟨ga', gu', ega, hga', hgu'⟩ := gr_q hg13
            cases ega
            have hr : rs[ab[d0]]? = some (rs[ab[d0]]) := List.getElem?_eq_getElem hj
            have hrv : rs[ab[d0]].1 = v0 := by rw [List.getD_eq_getElem?_getD, hr] at hjv; exact hjv
            refine ⟨_, rfl, ga, _, 1, _, rfl, rfl, hga'.sq, rfl, _, rfl, _, rfl, gu', .ref ia, rs, _, ab[d0], rfl, hgu', hit11.to nn13, .inr ⟨v0, rest, rfl⟩, hj, by omega, fun r hr => by have := o.body r hr; omega, fun H14 u e14 hu => ⟨_, rfl, ?_⟩⟩
            have ep : put rs (.X v0 :: rest) ab[d0] = some (rs[ab[d0]].2 ++ rest) := by
              unfold put
              rw [hr]
              exact if_pos hrv
            have hu' : Dq K H14 (itsD (rs[ab[d0]].2 ++ rest)) u := by
              unfold putD at hu
              rw [ep] at hu
              exact hu
            have hb6 := o.body _ (List.getElem_mem hj)
            have nn14 := nn13.trans e14
            rw [List.length_cons] at hil
            refine ⟨u, wv, _, wd, rfl, hu', hwd11.to nn14, by rw [List.length_append]; omega, by omega, fun H15 u2 e15 hu2 => ?_⟩
            obtain ⟨T2, ws2, rfl, hT2, hw2⟩ := hu2.tup_inv
            obtain ⟨y1, y2, rfl, hy1, hy2⟩ := hw2.two
            have nn15 := nn14.trans e15
            have cl := cut_len (rs[ab[d0]].2 ++ rest)
            rw [List.length_append (as := rs[ab[d0]].2)] at cl
            refine ⟨T2, _, rfl, hT2.sq, rfl, _, _, rfl, _, _, rfl, rfl, y1, y2, .ref r13, _, _, _, rfl, (e10.trans e11).same nn15, (s11.same nn15).mono (by omega), (cut (rs[ab[d0]].2 ++ rest)).1, wd ++ (cut (rs[ab[d0]].2 ++ rest)).2, way ++ [ab[d0]], hy1, led_cut _, by rw [List.length_append]; omega, hy2, ?_, by rw [List.length_append, List.length_singleton]; omega, fun z hz => ?_⟩
            · refine Dq.to (.row ?_) (e14.trans e15)
              rw [nI_app, List.map_append]
              exact h13
            · rcases List.mem_append.mp hz with m | m
              · exact hyn z m
              · rw [List.mem_singleton.mp m]; exact hj
    · obtain ⟨iv, wv, fv, v6, v7, v8, rfl, e3, s3, its, wd, way, hit, led, hil, hwd, hway, hyl, hyn⟩ := p
      exact ⟨_, rfl, k _ _ way e3 (s3.mono (by omega)) hway (by omega) hyn⟩
end
end Ws
/-! ## E46p -/
namespace Ws
open PySem PySem.Spec PyProof.Rows L2 RZ Gm
local macro_rules | `(tactic| walk_at "nf") => `(tactic| dsimp only [tNext, tSeq, tDrop, tRet, tRetN, tIfS, tAsg, gName, gTup, gCons, gNil, tVar, tC, tOp, tUn, rI, rI0, rU, rEq, rNe, tTest, tChain, tAnd, tOr, tNot, tAndV, tOrV, tNotV, tIf, tCB, tCKw, tCons, tNil, tTup, tLst, tCa, tCallS, tB, rIxT, rIxL, rIxS, cxOf, Cx.nox, Cx.wish, Cx.blk, L2.start, tPar, tPar3, tNever, tYes, tBits, tRz, tBM, rAppend, tyV, tXf, suiteEnds, gSub, rSetL, tBreak, rMax, tDGet, sDPut, tSl, tNoPart, tPart, tDisp, tPairs, tDGet2, tDNewK, tAugS, ipI, rGetL, tDIn, tDNotIn, tBM0, rPop, tBMT, tTupF])
local macro_rules | `(tactic| walk_at "sx") => `(tactic| simp only [wipe, List.cons.injEq, and_assoc, exists_and_left, and_true, List.map_cons, List.map_nil, List.length_cons, List.length_nil, List.cons_append, List.nil_append, List.append_nil, Nat.reduceAdd, Nat.reduceSub, List.replicate, List.getElem?_cons_zero, List.getElem?_cons_succ, List.set_cons_zero, List.set_cons_succ, Option.some.injEq, V.int.injEq, V.bl.injEq, V.ref.injEq, V.str.injEq, exists_eq_left', exists_eq_left, true_and, Bool.true_eq_false, Bool.false_eq_true, if_true, if_false])

local macro_rules | `(tactic| walk_at "qe") => `(tactic| repeat' first | exact QE.int | exact QE.str | exact QE.non | exact QE.bl | exact QEs.nil | refine QEs.cons ?_ ?_ | refine QE.tup ?_)
theorem find_snoc (p : Nat → Bool) (j : Nat) : (List.range (j + 1)).find? p = match (List.range j).find? p with
    | some n => some n
    | none => if p j = true then some j else none := by
  rw [List.range_succ, List.find?_append]
  cases (List.range j).find? p with
  | some n => rfl
  | none =>
    cases e : p j <;> simp [e]
theorem pickV_non {o : Option Nat} : (pickV o = V.non) = (o = none) := by
  cases o with
  | none => simp [pickV]
  | some n => simp [pickV]
theorem fit_no {rs : List Ru} {u : List Nat} {its : List Itm} {n : Nat} (led : Led its) (hn : n < rs.length) (h : put rs its n = none) : fit rs u (xs its) n = false := by
  have hr : rs[n]? = some rs[n] := List.getElem?_eq_getElem hn
  have er : rs.getD n (0, []) = rs[n] := by rw [List.getD_eq_getElem?_getD, hr]; rfl
  unfold fit
  rw [er]
  rcases led with rfl | ⟨v, rest, rfl⟩
  · rfl
  · have : ¬ rs[n].1 = v := fun z => by
      unfold put at h
      rw [hr] at h
      simp [z] at h
    have e : decide (some rs[n].1 = (xs (Itm.X v :: rest)).head?) = false := decide_eq_false fun z => this (Option.some.inj z)
    rw [e]
    rfl
theorem fit_yes {rs : List Ru} {u : List Nat} {its told : List Itm} {n : Nat} (h : put rs its n = some told) (hu : 0 < u.getD n 0) : fit rs u (xs its) n = conB rs (decL u n) (metN (psOf rs (decL u n)) 4 (xs told)) := by
  obtain ⟨v, rest, body, rfl, h2, rfl⟩ := put_some h
  have er : rs.getD n (0, []) = (v, body) := by rw [List.getD_eq_getElem?_getD, h2]; rfl
  unfold fit
  rw [er]
  have e : decide (some v = (xs (Itm.X v :: rest)).head?) = true := decide_eq_true rfl
  show (decide (some v = (xs (Itm.X v :: rest)).head?) && _ && _) = _
  rw [e, decide_eq_true hu, xs_app]
  rfl
theorem fit_zero {rs : List Ru} {u A : List Nat} {n : Nat} (h : ¬ 0 < u.getD n 0) : fit rs u A n = false := by
  unfold fit
  rw [decide_eq_false h]
  simp
def leastD (rs : List Ru) (u : List Nat) : PyData := match least rs u.sum u [0] with
  | some way => rowD way
  | none => .none
def spLeast (K : PySem.W.Frag) : Sp := fun vs H Q _ => ∃ (gv uv : V) (m : Nat) (rs : List Ru) (u : List Nat), vs = [gv, uv] ∧ Dq K H (grD m rs) gv ∧ GOk m rs ∧ Dq K H (rowD u) uv ∧ u.length = rs.length ∧ u.sum ≤ 1000 ∧ ∀ H' x, Same H H' → Dq K H' (leastD rs u) x → Q x H'
abbrev s__law_least : Stmt := top 41
abbrev nm__law_least : List Str := ["grammar_so", "uses_so", "rules_so", "items", "left", "found", "step", "picked", "number", "told", "open_so", "item"]
abbrev pr__law_least : List Str := ["grammar_so", "uses_so"]
theorem sc__law_least : FnScope nm__law_least pr__law_least (defScope s__law_least) := ⟨rfl, rfl, rfl, by decide +kernel, rfl, by decide +kernel, by decide +kernel⟩
section
variable {P : Program} {w : World} {K : PySem.W.Frag} {mg : Str → Option Value} {base : Heap} {SA BG BP TG : Addr}
theorem ok_least (B : Bl mg) (F1 : Df P w K mg base CX0 1 "_law_put" pr__law_put (spPut K)) (F2 : Df P w K mg base CX0 1 "_law_settled" pr__law_settled (spSettled K)) (F3 : Df P w K mg base CX0 1 "_law_less" pr__law_less (spLess K)) (F4 : Df P w K mg base CX0 2 "_law_linked" pr__law_linked (spLinked K)) (D : Dt K mg "_law_least" s__law_least pr__law_least) : Df P w K mg base CX0 3 "_law_least" pr__law_least (spLeast K) := by
  refine D.ok sc__law_least (fun vs H Q E h => ?_) (fun f cdv A outer s H vs Q E hr h => ?_)
  · obtain ⟨gv, uv, m, rs, u, rfl, _⟩ := h
    rfl
  · obtain ⟨gv, uv, m, rs, u, rfl, hg, o, hu, hul, hsum, k⟩ := h
    refine ⟨_, (pss_cons (ps_asg (pe_tupF (pa_cons (pe_ix ix_tup (pv 0) pe_int (fun _ _ => rfl)) (pa_cons (pe_tupF (pa_cons (pe_tupF (pa_cons pe_str (pa_cons pe_int pa_nil))) pa_nil)) (pa_cons (pv 1) (pa_cons (pe_tupF pa_nil) pa_nil))))) (pg_tup rfl (pgs_cons (pg_name (i := 2) sc__law_least.nd rfl (Or.inl rfl)) (pgs_cons (pg_name (i := 3) sc__law_least.nd rfl (Or.inl rfl)) (pgs_cons (pg_name (i := 4) sc__law_least.nd rfl (Or.inl rfl)) (pgs_cons (pg_name (i := 5) sc__law_least.nd rfl (Or.inl rfl)) pgs_nil)))))) (pss_cons (ps_for PassesOwn.never rfl (pi_range1 (by rfl) B.range (pa_cons (pe_callB (cr_sumT rfl) (by rfl) B.sum boot_sum (pa_cons (pv 1) pa_nil)) pa_nil)) (pg_name (i := 6) sc__law_least.nd rfl (Or.inl rfl)) (pss_cons (ps_set (i := 7) sc__law_least.nd rfl (Or.inl rfl) pe_non) (pss_cons (ps_for PassesOwn.never rfl (pi_range1 (by rfl) B.range (pa_cons (pe_callB call_len_seq (by rfl) B.len PySem.boot_len (pa_cons (pv 2) pa_nil)) pa_nil)) (pg_name (i := 8) sc__law_least.nd rfl (Or.inl rfl)) (pss_one (ps_if (PW.pt (pw_and (pt_cmpR op_isN (pv 7) pe_non (nomark _)) (pw_and1 (pt_cmpR op_gt (pe_ix ix_tup (pv 4) (pv 8) (fun _ _ => rfl)) pe_int (nomark _))))) (pss_cons (ps_set (i := 9) sc__law_least.nd rfl (Or.inl rfl) (pe_f F1 (hr.mono (by decide)) pass0 (pa_cons (pv 2) (pa_cons (pv 3) (pa_cons (pv 8) pa_nil))))) (pss_one (ps_if (pt_cmpR op_notN (pv 9) pe_non (nomark _)) (pss_cons (ps_setLc (i := 10) (own := [("item", 11)]) (g := gName 11) (tt := (tTest (tOp rEq (tOp (rIxT K) (tVar 11) (tC (V.int 0))) (tC (V.str "variable"))))) (te := tOp (rIxT K) (tVar 11) (tC (V.int 1))) rfl sc__law_least.nd rfl rfl (sw_true rfl rfl rfl (by decide +kernel)) (pi_tup (pv 9)) (blkOk_by (own := [("item", 11)]) (N := nm__law_least) (sc := defScope s__law_least) (by decide +kernel)) (fun _ _ _ _ _ => pg_name (i := 11) sc__law_least.nd rfl (Or.inl rfl)) (fun _ _ _ _ _ => (pts_one (pt_cmpR op_eq (pe_ix ix_tup (pv 11) pe_int (fun _ _ => rfl)) pe_str (nomark _)))) (fun _ _ _ _ _ => (pe_ix ix_tup (pv 11) pe_int (fun _ _ => rfl)))) (pss_one (ps_if (pt_val (pe_f F4 (hr.mono (by decide)) pass0 (pa_cons (pv 2) (pa_cons (pe_f F3 (hr.mono (by decide)) pass0 (pa_cons (pv 4) (pa_cons (pv 8) pa_nil))) (pa_cons (pv 10) pa_nil))))) (pss_one (ps_set (i := 7) sc__law_least.nd rfl (Or.inl rfl) (pv 8))) pss_nil))) pss_nil))) pss_nil))) (pss_cons (ps_if (pt_cmpR op_isN (pv 7) pe_non (nomark _)) (pss_one (ps_ret pe_non)) pss_nil) (pss_cons (ps_set (i := 3) sc__law_least.nd rfl (Or.inl rfl) (pe_ix ix_tup (pe_f F2 (hr.mono (by decide)) pass0 (pa_cons (pe_f F1 (hr.mono (by decide)) pass0 (pa_cons (pv 2) (pa_cons (pv 3) (pa_cons (pv 7) pa_nil)))) (pa_cons (pe_tupF pa_nil) pa_nil))) pe_int (fun _ _ => rfl))) (pss_one (ps_par (i := 4) (j := 5) (by rfl) sc__law_least.nd rfl rfl (by decide) rfl rfl (pa_cons (pe_f F3 (hr.mono (by decide)) pass0 (pa_cons (pv 4) (pa_cons (pv 7) pa_nil))) (pa_cons (pe_op op_catF (pv 5) (pe_tupF (pa_cons (pv 7) pa_nil))) pa_nil)) (by rfl)))))))) (pss_one (ps_ret (pv 5))))), ?_⟩
    dsimp only [cxOf, Cx.nox]
    obtain ⟨ga, gu, rfl, hga, hgu⟩ := gr_q hg
    obtain ⟨b, rfl, hb⟩ := hu.row_inv
    have l8 := o.l2
    refine sq_as ⟨_, rfl, ga, _, 1, _, rfl, rfl, hga.sq, rfl, (show QE K _ _ (itsD [.X 0]) from by walk_at "qe") _ _ fun H1 iv e1 h1 => ⟨_, rfl, by show 0 ≤ sizeLine; decide, fun pf o1 hpf ho1 => ⟨by show 4 ≤ sizeLine; decide, fun T oT hT hoT => ⟨T, _, rfl, (SqP.new hoT).sq, rfl, _, _, rfl, _, _, rfl, _, _, rfl, _, _, rfl, rfl, ?_⟩⟩⟩⟩
    have n1 := e1.then_new (o := .frz o1 (.tup [])) hpf
    have hf1 : Dq K (upd H1 pf (.frz o1 (.tup []))) (rowD []) (.ref pf) := .tup (.new ho1) .nil_
    have h1' := h1.new (o := .frz o1 (.tup [])) hpf
    generalize (upd H1 pf (.frz o1 (.tup []))) = H2 at n1 hf1 h1' hT ⊢
    have n2 := n1.then_new (o := .frz oT (.tup [gu, iv, .ref b, .ref pf])) hT
    have hf2 := hf1.new (o := .frz oT (.tup [gu, iv, .ref b, .ref pf])) hT
    have h2 := h1'.new (o := .frz oT (.tup [gu, iv, .ref b, .ref pf])) hT
    generalize (upd H2 T (.frz oT (.tup [gu, iv, .ref b, .ref pf]))) = H3 at n2 hf2 h2 ⊢
    clear hf1 h1' n1 hT h1 hpf
    refine sq_fr ⟨_, rfl, b, nI u, rfl, n2.seqT hb.sq, _, rfl, by rw [nI_sum]; omega, by rw [nI_sum]; omega, ?_⟩
    rw [nI_sum, Int.toNat_natCast]
    refine for_it walk_range (fun i σ H' => ∃ iv lv fv v6 v7 v8 v9 v10, σ = [some (V.ref ga), some (.ref b), some gu, some iv, some lv, some fv, v6, v7, v8, v9, v10, none] ∧ Same H H' ∧ ∃ its uL w0, Dq K H' (itsD its) iv ∧ Led its ∧ its.length ≤ 1 + 6 * i ∧ Dq K H' (rowD uL) lv ∧ uL.length = rs.length ∧ uL.sum + i = u.sum ∧ Dq K H' (rowD w0) fv ∧ w0.length = i ∧ least rs u.sum u [0] = (least rs (u.sum - i) uL (xs its)).map (w0 ++ ·)) ⟨iv, _, _, _, _, _, _, _, rfl, n2, [.X 0], u, [], h2, .inr ⟨0, [], rfl⟩, by decide, hu.to n2, hul, rfl, hf2, rfl, by simp [xs]⟩ (fun _ _ _ _ _ => trivial) (fun i x σ H4 H5 hi p y => ?_) (fun σ H4 p => ?_)
    · obtain ⟨iv, lv, fv, v6, v7, v8, v9, v10, rfl, t4, its, uL, w0, hit, led, hil, hlv, hll, hls, hfv, hfl, le⟩ := p
      obtain ⟨rfl, rfl⟩ := y
      have hiN : i < u.sum := hi
      obtain ⟨lb, rfl, hlb⟩ := hlv.row_inv
      refine sq_go ?_
      obtain ⟨ra, zs, rfl, hra, hzl, hzat, _⟩ := q_view hgu
      refine sq_fr ⟨_, rfl, ra, zs, rfl, .inr (t4.seqT hra.sq), _, rfl, by omega, by omega, ?_⟩
      rw [Int.toNat_natCast, hzl]
      refine for_it walk_range (fun j σ H' => Same H5 H' ∧ ∃ v8 v9 v10, σ = [some (V.ref ga), some (.ref b), some (.ref ra), some iv, some (.ref lb), some fv, some (.int (0 + (i : Int))), some (pickV ((List.range j).find? (fit rs uL (xs its)))), v8, v9, v10, none]) ⟨Same.refl _, _, _, _, rfl⟩ (fun _ _ _ _ _ => trivial) (fun j x σ H6 H7 hj p y => ?_) (fun σ H6 p => ?_)
      · obtain ⟨t6, v8, v9, v10, rfl⟩ := p
        obtain ⟨rfl, rfl⟩ := y
        have hjr : j < rs.length := hj
        have zj : (0 + (j : Int)) = ((j : Nat) : Int) := by omega
        dsimp only [gName]
        rw [zj]
        have t7 : Same H H7 := t4.trans t6
        have hll' : j < uL.length := by rw [hll]; exact hjr
        have eg : uL.getD j 0 = uL[j] := by rw [List.getD_eq_getElem?_getD, List.getElem?_eq_getElem hll']; rfl
        cases cf : (List.range j).find? (fit rs uL (xs its)) with
        | some n =>
          have e1 : (List.range (j + 1)).find? (fit rs uL (xs its)) = some n := by rw [find_snoc, cf]
          refine ⟨_, rfl, rfl, _, rfl, ?_⟩
          rw [decide_eq_false (show ¬ (pickV (some n) = V.non) from fun z => by cases z)]
          exact iteF (iteF ⟨t6, _, _, _, by rw [e1]; rfl⟩)
        | none =>
          have e1 : ∀ bb, fit rs uL (xs its) j = bb → (List.range (j + 1)).find? (fit rs uL (xs its)) = if bb = true then some j else none := fun bb hb => by rw [find_snoc, cf, hb]
          refine ⟨_, rfl, rfl, _, rfl, ?_⟩
          rw [decide_eq_true (show pickV none = V.non from rfl)]
          refine iteT ⟨_, rfl, _, rfl, lb, _, _, _, rfl, rfl, (hlb.same t6).sq, atI_get (nIv_at hll'), _, _, rfl, rfl, _, rfl, ?_⟩
          by_cases c2 : 0 < uL[j]
          · rw [decide_eq_true (show (0 : Int) < ((uL[j] : Nat) : Int) by omega)]
            refine iteT (sq_go ⟨_, rfl, _, rfl, _, rfl, .ref ra, iv, rs, its, j, rfl, hgu.to t7, hit.to t6, led, hjr, by omega, fun r hr => by have := o.body r hr; omega, fun H8 u8 e8 hu8 => ?_⟩)
            have t8 := t6.trans e8
            cases hp : put rs its j with
            | none =>
              have eu : u8 = .non := by
                unfold putD at hu8
                rw [hp] at hu8
                simpa only [Dq] using hu8
              subst eu
              refine ⟨_, rfl, rfl, _, rfl, ?_⟩
              exact iteF ⟨t8, _, _, _, by rw [e1 false (fit_no led hjr hp)]; rfl⟩
            | some told =>
              have hu' : Dq K H8 (itsD told) u8 := by
                unfold putD at hu8
                rw [hp] at hu8
                exact hu8
              obtain ⟨pt, ts, rfl, hpt, htl, htat, _⟩ := q_view hu'
              obtain ⟨v0, rest0, body0, eits, q2, q3⟩ := put_some hp
              have tl : told.length ≤ 7000 := by
                have b6 : body0.length ≤ 6 := o.body _ (List.mem_of_getElem? q2)
                rw [eits] at hil
                simp only [List.length_cons] at hil
                rw [q3, List.length_append]
                omega
              refine ⟨_, rfl, rfl, _, rfl, ?_⟩
              rw [decide_eq_false (show ¬ (V.ref pt = V.non) from fun z => by cases z)]
              refine iteT (sq_go ⟨_, rfl, pt, rfl, ⟨_, hpt.sq⟩, fun D hD => lcF (walk_tup (K := K) (a := pt) (xs := ts)) hD (by rw [htl]; exact slt (by omega)) (fun i => isX (told.getD i (.L 0))) (fun i y H => y = .int ((told.getD i (.L 0)).no : Nat)) (fun i y H H' e n q => q) (fun H1 e => Same.seqT e hpt.sq) (fun i x H9 H10 Q1 Q0 hi e y q1 q0 => ?_) (fun H9 ys e hD1 g => ?_)⟩)
              · obtain ⟨rfl, hx1⟩ := y
                obtain ⟨t0, ht0, hdt⟩ := htat i x hx1
                obtain ⟨p2, rfl, hs2⟩ := it_q (hdt.to e)
                have et : told.getD i (.L 0) = t0 := by rw [List.getD_eq_getElem?_getD, ht0]; rfl
                rw [et] at q1 q0
                refine ⟨rfl, _, rfl, p2, _, 0, _, rfl, rfl, hs2.sq, rfl, rfl, _, rfl, ?_⟩
                have ek : decide (V.str t0.kd = V.str (Str.ofString "variable")) = isX t0 := by rw [← kd_var]; exact decide_eq_decide.mpr ⟨fun z => V.str.inj z, fun z => by rw [z]⟩
                rw [ek]
                cases c : isX t0 with
                | true => exact iteT ⟨_, rfl, p2, _, 1, _, rfl, rfl, hs2.sq, rfl, q1 c _ _ rfl (Same.refl _)⟩
                | false => exact iteF (q0 c _ (Same.refl _))
              · have ev := g.vals (fun i => V.int ((told.getD i (.L 0)).no : Nat)) (fun i y h => h)
                have hx : ys = (nI (xs told)).map V.int := by
                  rw [ev, htl, xs_filter, nI, List.map_map, List.map_map]
                  rfl
                subst hx
                have t9 := t8.trans e
                refine ⟨_, rfl, _, rfl, _, rfl, .ref lb, j, uL, rfl, hlv.to t9, hll', by rw [eg]; exact c2, by omega, fun H10 lv e10 h10 => ⟨_, rfl, .ref ra, lv, D, m, rs, decL uL j, xs told, rfl, hgu.to ((t4.trans t9).trans e10), h10.dp, .of (e10 _ _ hD1), by have := xs_le told; omega, o, by rw [decL_len]; exact hll, fun H11 e11 => ⟨_, rfl, ?_⟩⟩⟩
                have t11 := (t9.trans e10).trans e11
                have hy := fit_yes (u := uL) hp (by rw [eg]; exact c2)
                cases cb : conB rs (decL uL j) (metN (psOf rs (decL uL j)) 4 (xs told)) with
                | true =>
                  rw [cb] at hy
                  exact iteT ⟨_, rfl, t11, _, _, _, by rw [e1 true hy]; rfl⟩
                | false =>
                  rw [cb] at hy
                  exact iteF ⟨t11, _, _, _, by rw [e1 false hy]; rfl⟩
          · rw [decide_eq_false (show ¬ (0 : Int) < ((uL[j] : Nat) : Int) by omega)]
            exact iteF ⟨t6, _, _, _, by rw [e1 false (fit_zero (by rw [eg]; exact c2))]; rfl⟩
      · obtain ⟨t6, v8, v9, v10, rfl⟩ := p
        have ep : (List.range rs.length).find? (fit rs uL (xs its)) = pick rs uL (xs its) := rfl
        rw [ep]
        dsimp only
        have ek : u.sum - i = (u.sum - (i + 1)) + 1 := by omega
        have t7 : Same H H6 := t4.trans t6
        cases cp : pick rs uL (xs its) with
        | none =>
          refine sq_if0 ⟨_, rfl, rfl, _, rfl, iteT (k _ _ t7 ?_)⟩
          have : least rs (u.sum - i) uL (xs its) = none := by
            rw [ek]
            show (match pick rs uL (xs its) with | none => none | some n => _) = _
            rw [cp]
          rw [this] at le
          unfold leastD
          rw [le]
          show Dq K H6 .none .non
          simp only [Dq]
        | some n =>
          obtain ⟨g1, g2, g3⟩ := first_of cp
          have hun : 0 < uL.getD n 0 := by
            by_cases c : 0 < uL.getD n 0
            · exact c
            · rw [fit_zero c] at g2; cases g2
          have hnl : n < uL.length := by rw [hll]; exact g1
          cases hp : put rs its n with
          | none => rw [fit_no led g1 hp] at g2; cases g2
          | some told =>
            have sd := sum_dec uL n hun
            obtain ⟨v0, rest0, body0, eits, q2, q3⟩ := put_some hp
            have hb6 : body0.length ≤ 6 := o.body _ (List.mem_of_getElem? q2)
            have tl : told.length ≤ 6 * (i + 1) := by
              rw [eits] at hil
              simp only [List.length_cons] at hil
              rw [q3, List.length_append]
              omega
            refine sq_if0 ⟨_, rfl, rfl, _, rfl, ?_⟩
            rw [decide_eq_false (show ¬ (pickV (some n) = V.non) from fun z => by cases z)]
            refine iteF (sq_go ⟨_, rfl, _, rfl, _, rfl, .ref ra, iv, rs, its, n, rfl, hgu.to t7, hit.to t6, led, g1, by omega, fun r hr => by have := o.body r hr; omega, fun H8 u8 e8 hu8 => ?_⟩)
            have hu' : Dq K H8 (itsD told) u8 := by
              unfold putD at hu8
              rw [hp] at hu8
              exact hu8
            refine ⟨by show 0 ≤ sizeLine; decide, fun p9 o9 hp9 ho9 => ⟨u8, .ref p9, told, [], rfl, hu'.new hp9, .tup (.new ho9) .nil_, by omega, by decide, fun H10 u10 e10 hu10 => ?_⟩⟩
            obtain ⟨T, ws, rfl, hT, hw⟩ := hu10.tup_inv
            obtain ⟨z1, z2, rfl, hz1, _⟩ := hw.two
            have s10 := (t6.trans e8).trans ((Same.new (o := .frz o9 (.tup [])) hp9).trans e10)
            refine ⟨T, _, 0, _, rfl, rfl, hT.sq, rfl, ?_⟩
            obtain ⟨fb, rfl, hfb⟩ := hfv.row_inv
            refine ⟨_, rfl, _, rfl, .ref lb, n, uL, rfl, hlv.to s10, hnl, hun, by omega, fun H11 lv2 e11 h11 => ⟨_, rfl, _, rfl, by show 1 ≤ sizeLine; decide, fun p12 o12 hp12 ho12 => ?_⟩⟩
            have s12 := (s10.trans e11).then_new (o := .frz o12 (.tup [V.int (n : Nat)])) hp12
            refine catF_ok (hfb.same s12) (.new ho12) (by rw [nIv_len, List.length_singleton]; omega) fun r13 H13 e13 h13 => ⟨_, _, rfl, ?_⟩
            have s13 := s12.trans e13
            refine ⟨z1, lv2, .ref r13, _, _, _, _, _, rfl, t4.trans s13, (cut told).1, decL uL n, w0 ++ [n], hz1.to (e11.trans ((Same.new hp12).trans e13)), led_cut _, ?_, h11.to ((Same.new hp12).trans e13), by rw [decL_len]; exact hll, by omega, .row (by rw [nI_app, List.map_append]; exact h13), by rw [List.length_append, hfl]; rfl, ?_⟩
            · have := cut_le told
              omega
            · rw [le, ek, least_step cp, xs_cut, q3, xs_app]
              have er : (rs.getD n (0, [])).2 = body0 := by rw [List.getD_eq_getElem?_getD, q2]; rfl
              have et : (xs its).tail = xs rest0 := by rw [eits]; rfl
              rw [er, et, Option.map_map]
              congr 1
              funext z
              show w0 ++ (n :: z) = (w0 ++ [n]) ++ z
              rw [List.append_assoc]
              rfl
    · obtain ⟨iv, lv, fv, v6, v7, v8, v9, v10, rfl, t4, its, uL, w0, hit, led, hil, hlv, hll, hls, hfv, hfl, le⟩ := p
      refine ⟨_, rfl, k _ _ t4 ?_⟩
      rw [Nat.sub_self] at le
      have le : least rs u.sum u [0] = some (w0 ++ []) := le
      unfold leastD
      rw [le, List.append_nil]
      exact hfv
end
end Ws
/-! ## E46q -/
namespace Ws
open PySem PySem.Spec PyProof.Rows L2 RZ Gm
local macro_rules | `(tactic| walk_at "nf") => `(tactic| dsimp only [tNext, tSeq, tDrop, tRet, tRetN, tIfS, tAsg, gName, gTup, gCons, gNil, tVar, tC, tOp, tUn, rI, rI0, rU, rEq, rNe, tTest, tChain, tAnd, tOr, tNot, tAndV, tOrV, tNotV, tIf, tCB, tCKw, tCons, tNil, tTup, tLst, tCa, tCallS, tB, rIxT, rIxL, rIxS, cxOf, Cx.nox, Cx.wish, Cx.blk, L2.start, tPar, tPar3, tNever, tYes, tBits, tRz, tBM, rAppend, tyV, tXf, suiteEnds, gSub, rSetL, tBreak, rMax, tDGet, sDPut, tSl, tNoPart, tPart, tDisp, tPairs, tDGet2, tDNewK, tAugS, ipI, rGetL, tDIn, tDNotIn, tBM0, rPop, tBMT, tTupF])
local macro_rules | `(tactic| walk_at "sx") => `(tactic| simp only [wipe, List.cons.injEq, and_assoc, exists_and_left, and_true, List.map_cons, List.map_nil, List.length_cons, List.length_nil, List.cons_append, List.nil_append, List.append_nil, Nat.reduceAdd, Nat.reduceSub, List.replicate, List.getElem?_cons_zero, List.getElem?_cons_succ, List.set_cons_zero, List.set_cons_succ, Option.some.injEq, V.int.injEq, V.bl.injEq, V.ref.injEq, V.str.injEq, exists_eq_left', exists_eq_left, true_and, Bool.true_eq_false, Bool.false_eq_true, if_true, if_false])

structure ExW (K : PySem.W.Frag) (mg : Str → Option Value) (SA BG BP TG : Addr) : Prop where
  say : mg "SayError" = some (.ref SA)
  gg : PySem.W.exmOne K (.ref BG) (.ref BG) = some true
  pg : PySem.W.exmOne K (.ref BP) (.ref BG) = some false
  pp : PySem.W.exmOne K (.ref BP) (.ref BP) = some true
  tg : PySem.W.exmOne K (.ref TG) (.ref BG) = some false
  tp : PySem.W.exmOne K (.ref TG) (.ref BP) = some false
  tt : PySem.W.exmOne K (.ref TG) (.ref TG) = some true
def paperD : PyData := .list [.str "BadPaper", .str "uses"]
def spRefusal (K : PySem.W.Frag) : Sp := fun vs H Q _ => ∃ (gv uv : V) (gd d : PyData), vs = [gv, uv] ∧ Dp K H gv gd ∧ Dp K H uv d ∧
  ((∃ p, gFault gd = some p ∧ ∀ H' u, Same H H' → Dp K H' u (.list [.str "BadGrammar", p]) → Q u H') ∨ ∃ m rs, gd = grD m rs ∧ GOk m rs ∧ (areUsesD rs.length d = false → ∀ H' u, Same H H' → Dp K H' u paperD → Q u H') ∧ ∀ u', d = rowD u' → u'.length = rs.length →
    (useB rs u' = false → ∀ H' u, Same H H' → Dp K H' u paperD → Q u H') ∧ (useB rs u' = true → 400 < u'.sum → ∀ H' u, Same H H' → Dp K H' u (.list [.str "TooGreat", .int 400]) → Q u H') ∧
    (useB rs u' = true → u'.sum ≤ 400 → ∀ H', Same H H' → Q .non H'))
abbrev s__law_refusal : Stmt := top 43
abbrev nm__law_refusal : List Str := ["grammar_so", "uses_so", "found", "error"]
abbrev pr__law_refusal : List Str := ["grammar_so", "uses_so"]
theorem sc__law_refusal : FnScope nm__law_refusal pr__law_refusal (defScope s__law_refusal) := ⟨rfl, rfl, rfl, by decide +kernel, rfl, by decide +kernel, by decide +kernel⟩
abbrev eRef (K : PySem.W.Frag) (SA BG BP TG : Addr) (Q : VK) (gv uv : V) : XK := (WE
        (wManyB K 3 (fun x x_1 x_2 x_3 => False)
          { nx := tRet (tVar 2) { nx := fun x H' => Q V.non H', rt := Q }, rt := Q }
          [(true, Value.ref BG, fun a cls d => tAsg (tLst (tCons (tC (V.str "BadGrammar")) (tCons (tXf a cls d BG (Str.ofString "place") (tVar 3)) tNil))) (gName 2)),
            (true, Value.ref BP, fun a cls d => tAsg (tLst (tCons (tC (V.str "BadPaper")) (tCons (tXf a cls d BP (Str.ofString "word") (tVar 3)) tNil))) (gName 2)),
            (true, Value.ref TG, fun a cls d => tAsg (tLst (tCons (tC (V.str "TooGreat")) (tCons (tXf a cls d TG (Str.ofString "most") (tVar 3)) tNil))) (gName 2)),
            (false, Value.ref SA, fun a cls d => tAsg (tLst (tCons (tC (V.str "another")) tNil)) (gName 2))])
        [some gv, some uv, some V.non, none])
section
variable {P : Program} {w : World} {K : PySem.W.Frag} {mg : Str → Option Value} {base : Heap} {SA BG BP TG : Addr}
theorem ok_refusal (X : ExW K mg SA BG BP TG) (T : ErW P w K mg base BG BP TG) (F1 : Df P w K mg base (L2.CX P w) 7 "way_with" pr_way_with (spWay K BG BP TG)) (D : Dt K mg "_law_refusal" s__law_refusal pr__law_refusal) :
    Df P w K mg base CX0 8 "_law_refusal" pr__law_refusal (spRefusal K) := by
  refine D.ok sc__law_refusal (fun vs H Q E h => ?_) (fun f cdv A outer s H vs Q E hr h => ?_)
  · obtain ⟨gv, uv, gd, d, rfl, _⟩ := h
    rfl
  · obtain ⟨gv, uv, gd, d, rfl, hg, hu, k⟩ := h
    refine ⟨_, (pss_cons (ps_set (i := 2) sc__law_refusal.nd rfl (Or.inl rfl) pe_non) (pss_cons (ps_try_manyB (i := 3) (tb := _) (Wout := _) rfl rfl sc__law_refusal.nd rfl rfl takes0 (fun W pn xe tk _ => (pss_one (ps_expr (pe_fS (E := WE W) F1 (hr.mono (by decide)) (fun σ => passAt tk σ) (pa_cons (pv 0) (pa_cons (pv 1) pa_nil)))))) (HdsB.cons (m := true) ⟨rfl, by decide, Or.inl T.BadGrammar.mgC⟩ (fun a oe cls d pn hz hf => (pss_one (ps_set (i := 2) sc__law_refusal.nd rfl (Or.inl rfl) (pe_lst (pa_cons pe_str (pa_cons (pe_xf T.BadGrammar.xf T.BadGrammar.no hz hf (pv 3)) pa_nil)))))) (HdsB.cons (m := true) ⟨rfl, by decide, Or.inl T.BadPaper.mgC⟩ (fun a oe cls d pn hz hf => (pss_one (ps_set (i := 2) sc__law_refusal.nd rfl (Or.inl rfl) (pe_lst (pa_cons pe_str (pa_cons (pe_xf T.BadPaper.xf T.BadPaper.no hz hf (pv 3)) pa_nil)))))) (HdsB.cons (m := true) ⟨rfl, by decide, Or.inl T.TooGreat.mgC⟩ (fun a oe cls d pn hz hf => (pss_one (ps_set (i := 2) sc__law_refusal.nd rfl (Or.inl rfl) (pe_lst (pa_cons pe_str (pa_cons (pe_xf T.TooGreat.xf T.TooGreat.no hz hf (pv 3)) pa_nil)))))) (HdsB.cons (m := false) ⟨rfl, by decide, Or.inl X.say⟩ (fun a oe cls d pn hz hf => (pss_one (ps_set (i := 2) sc__law_refusal.nd rfl (Or.inl rfl) (pe_lst (pa_cons pe_str pa_nil))))) .nil))))) (pss_one (ps_ret (pv 2))))), ?_⟩
    walk_at "nf"
    walk_at "sx"
    have grm : ∀ p, (∀ H' u, Same H H' → Dp K H' u (.list [.str "BadGrammar", p]) → Q u H') → OutF K BG "place" p H (eRef K SA BG BP TG Q gv uv) := fun p q => by
      intro H1 dd u e hu hdd
      refine ⟨true, X.gg, fun _ a ha => ?_, fun z => by cases z⟩
      rw [if_pos rfl]
      walk_at "nf"
      walk_at "sx"
      exact ⟨_, hdd, u, rfl, by decide, fun p2 hp2 => q _ _ (e.then_new hp2) (.lst (.of upd_same) (.cons (.str _) (.cons (hu.to (Same.new hp2)) .nil)))⟩
    have ppr : (∀ H' u, Same H H' → Dp K H' u paperD → Q u H') → OutF K BP "word" (.str "uses") H (eRef K SA BG BP TG Q gv uv) := fun q => by
      intro H1 dd u e hu hdd
      refine ⟨false, X.pg, (fun z => by cases z), fun _ => ⟨true, X.pp, fun _ a ha => ?_, fun z => by cases z⟩⟩
      rw [if_pos rfl]
      walk_at "nf"
      walk_at "sx"
      exact ⟨_, hdd, u, rfl, by decide, fun p2 hp2 => q _ _ (e.then_new hp2) (.lst (.of upd_same) (.cons (.str _) (.cons (hu.to (Same.new hp2)) .nil)))⟩
    have grt : (∀ H' u, Same H H' → Dp K H' u (.list [.str "TooGreat", .int 400]) → Q u H') → OutF K TG "most" (.int 400) H (eRef K SA BG BP TG Q gv uv) := fun q => by
      intro H1 dd u e hu hdd
      refine ⟨false, X.tg, (fun z => by cases z), fun _ => ⟨false, X.tp, (fun z => by cases z), fun _ => ⟨true, X.tt, fun _ a ha => ?_, fun z => by cases z⟩⟩⟩
      rw [if_pos rfl]
      walk_at "nf"
      walk_at "sx"
      exact ⟨_, hdd, u, rfl, by decide, fun p2 hp2 => q _ _ (e.then_new hp2) (.lst (.of upd_same) (.cons (.str _) (.cons (hu.to (Same.new hp2)) .nil)))⟩
    refine ⟨gv, uv, gd, d, rfl, hg, hu, ?_⟩
    rcases k with ⟨p, e, q⟩ | ⟨m, rs, e, o, k0, k1⟩
    · exact .inl ⟨p, e, grm p q⟩
    · refine .inr ⟨m, rs, e, o, fun z => ppr (k0 z), fun u' e' hl => ?_⟩
      obtain ⟨q1, q2, q3⟩ := k1 u' e' hl
      exact ⟨fun z => ppr (q1 z), fun z1 z2 => grt (q2 z1 z2), fun z1 z2 way _ H' x s _ => q3 z1 z2 H' s⟩
end
end Ws
/-! ## E46r -/
namespace Ws
open PySem PySem.Spec PyProof.Rows L2 RZ Gm
local macro_rules | `(tactic| walk_at "nf") => `(tactic| dsimp only [tNext, tSeq, tDrop, tRet, tRetN, tIfS, tAsg, gName, gTup, gCons, gNil, tVar, tC, tOp, tUn, rI, rI0, rU, rEq, rNe, tTest, tChain, tAnd, tOr, tNot, tAndV, tOrV, tNotV, tIf, tCB, tCKw, tCons, tNil, tTup, tLst, tCa, tCallS, tB, rIxT, rIxL, rIxS, cxOf, Cx.nox, Cx.wish, Cx.blk, L2.start, tPar, tPar3, tNever, tYes, tBits, tRz, tBM, rAppend, tyV, tXf, suiteEnds, gSub, rSetL, tBreak, rMax, tDGet, sDPut, tSl, tNoPart, tPart, tDisp, tPairs, tDGet2, tDNewK, tAugS, ipI, rGetL, tDIn, tDNotIn, tBM0, rPop, tBMT, tTupF])
local macro_rules | `(tactic| walk_at "sx") => `(tactic| simp only [wipe, List.cons.injEq, and_assoc, exists_and_left, and_true, List.map_cons, List.map_nil, List.length_cons, List.length_nil, List.cons_append, List.nil_append, List.append_nil, Nat.reduceAdd, Nat.reduceSub, List.replicate, List.getElem?_cons_zero, List.getElem?_cons_succ, List.set_cons_zero, List.set_cons_succ, Option.some.injEq, V.int.injEq, V.bl.injEq, V.ref.injEq, V.str.injEq, exists_eq_left', exists_eq_left, true_and, Bool.true_eq_false, Bool.false_eq_true, if_true, if_false])

local macro_rules | `(tactic| walk_at "qe") => `(tactic| repeat' first | exact QE.int | exact QE.str | exact QE.non | exact QE.bl | exact QEs.nil | refine QEs.cons ?_ ?_ | refine QE.tup ?_)
def loopR : List Ru := [(0, [.X 0]), (0, [.L 0])]
theorem loop_ok : GOk 1 loopR := ⟨by decide, by decide, by decide, by decide, by unfold Small; decide, by decide, by decide⟩
theorem loop_a : useB loopR [400, 1] = true := by decide +kernel
theorem loop_b : useB loopR [10 ^ 30, 2] = false := by decide +kernel
theorem loop_c : useB loopR [60, 1] = true := by decide +kernel
theorem loop_d : least loopR 61 [60, 1] [0] = some (List.replicate 60 0 ++ [1]) := by decide +kernel
def dueP (b : Bool) : PyData := if b = true then .none else paperD
def badsD : List PyData := [.tuple [.none, .tuple []], .tuple [.tuple [.int 4, .tuple []], .tuple [.int 1]], .tuple [.tuple [.int 1, .tuple [.tuple [.int 0, .tuple []], .tuple [.int 0, .none]]], .tuple [.int 1, .int 1]]]
theorem SmA.lst' {N D : Nat} {xs : List PyData} (h : SmA N D xs) : Sm N (D + 1) (.list xs) :=
  ⟨by simpa only [PyData.showable] using h.sh, by simpa only [PyData.leavesShort] using h.lv, by simpa only [PyData.hasDict] using h.nd, by simpa only [PyData.bulk] using h.bk, by simp only [PyData.depth]; have := h.dp; omega⟩
theorem Sm.str' {N D : Nat} {x : Str} (h1 : (x.cps.toList.all fun c => decide (c < 16 ^ 8)) = true) (h2 : x.cps.size ≤ N) : Sm N D (.str x) := ⟨rfl, h1, rfl, h2, Nat.zero_le _⟩
theorem paper_sm : Sm 100 1 paperD := SmA.lst' (SmA.mono (N := 23) (SmA.cons' (n := 10) (m := 11) (Sm.str' (by decide +kernel) (by decide +kernel)) (SmA.cons' (n := 9) (m := 0) (Sm.str' (by decide +kernel) (by decide +kernel)) SmA.nil' (by decide)) (by decide)) (by decide))
theorem great_sm : Sm 100 1 (.list [.str "TooGreat", .int 400]) := SmA.lst' (SmA.mono (N := 23) (SmA.cons' (n := 10) (m := 11) (Sm.str' (by decide +kernel) (by decide +kernel)) (SmA.cons' (n := 9) (m := 0) (Sm.int' (by decide)) SmA.nil' (by decide)) (by decide)) (by decide))
theorem gram_sm {p : PyData} (h : Sm 10 1 p) : Sm 100 2 (.list [.str "BadGrammar", p]) := SmA.lst' (SmA.mono (N := 30) (SmA.cons' (n := 12) (m := 11) (Sm.str' (by decide +kernel) (by decide +kernel)) (SmA.cons' (n := 10) (m := 0) h SmA.nil' (by decide)) (by decide)) (by decide))
theorem dueP_sm (b : Bool) : Sm 100 1 (dueP b) := by
  cases b with
  | true => exact Sm.none'
  | false => exact paper_sm
theorem bads_all : ∀ d ∈ badsD, ∃ dv dp, d = .tuple [dv, dp] ∧ gFault dv = some dp ∧ Sm 10 1 dp := by
  intro d hd
  simp only [badsD, List.mem_cons, List.not_mem_nil, or_false] at hd
  rcases hd with rfl | rfl | rfl
  · exact ⟨_, _, rfl, rfl, (SmA.nil' (N := 10) (D := 0)).tup⟩
  · refine ⟨_, _, rfl, rfl, (SmA.mono (N := 1) (M := 10) (SmA.cons' (n := 0) (m := 0) (Sm.int' (by decide)) (SmA.nil' (N := 0)) (by decide)) (by decide)).tup⟩
  · refine ⟨_, _, rfl, rfl, (SmA.mono (N := 2) (M := 10) (SmA.cons' (n := 0) (m := 1) (Sm.int' (by decide)) (SmA.cons' (n := 0) (m := 0) (Sm.int' (by decide)) (SmA.nil' (N := 0)) (by decide)) (by decide)) (by decide)).tup⟩
theorem rowD_inj2 {u v : List Nat} (h : rowD u = rowD v) : u = v := rowD_inj h
section
variable {K : PySem.W.Frag}
theorem for_lst {ta : TA} {ds : List PyData} {g : TG} {b : TS} {D : Ends} {σ : L2.St} {H : Hp} (r : QEs K ta σ ds) (q : ∀ H' p ys, Same H H' → H p = none → H' p = some (.lst ys) → DqA K H' ds ys → tFor (fun _ H1 R => R (Itl K p) H1) g b D σ H') (hl : ds.length ≤ 1000 := by decide) : tFor (iList K (tLst ta)) g b D σ H := by
  unfold tFor iList
  exact QEs.lst r (fun H' p ys e n h a => ⟨p, rfl, ⟨_, .of h⟩, q H' p ys e n h a⟩) hl
theorem due_ok {i j m : Nat} {rs : List Ru} {u : List Nat} {σ : L2.St} {gv uv : V} {H : Hp} {Q : VK} (hi : σ[i]? = some (some gv)) (hj : σ[j]? = some (some uv)) (hg : Dq K H (grD m rs) gv) (hu : Dq K H (rowD u) uv) (o : GOk m rs) (hul : u.length = rs.length) (q : ∀ H', Same H H' → Q (.bl (useB rs u)) H') :
    tAndV (tCa (spBalL K) E0 (tCons (tOp (rIxT K) (tVar i) (tC (V.int 1))) (tCons (tVar j) tNil))) (tCa (spLinked K) E0 (tCons (tOp (rIxT K) (tVar i) (tC (V.int 1))) (tCons (tVar j) (tCons (tLst (tCons (tC (V.int 0)) tNil)) tNil)))) σ H Q := by
  obtain ⟨ga, gu, rfl, hga, hgu⟩ := gr_q hg
  refine ⟨_, hi, ga, _, 1, _, rfl, rfl, hga.sq, rfl, _, hj, gu, uv, m, rs, u, rfl, hgu, hu.dp, o, hul, fun H1 e1 => ⟨_, rfl, ?_⟩⟩
  cases c : balB rs u with
  | false =>
    refine iteF ?_
    have := q H1 e1
    unfold useB at this
    rwa [c, Bool.false_and] at this
  | true =>
    refine iteT ⟨_, hi, ga, _, 1, _, rfl, rfl, e1.seqT hga.sq, rfl, _, hj, by decide, fun p hp => ?_⟩
    have e2 := Same.new (o := HO.lst [V.int 0]) hp
    refine ⟨gu, uv, p, m, rs, u, [0], rfl, (hgu.to e1).to e2, ((hu.to e1).to e2).dp, .of upd_same, by decide, o, hul, fun H2 e3 => ?_⟩
    have := q H2 ((e1.trans e2).trans e3)
    unfold useB at this
    rwa [c, Bool.true_and] at this
theorem dueP_ok {i : Nat} {b : Bool} {σ : L2.St} {H : Hp} {Q : VK} (hi : σ[i]? = some (some (.bl b))) (q : ∀ H' v, Same H H' → Dp K H' v (dueP b) → Q v H') :
    tIf (tB (tVar i)) (tC V.non) (tLst (tCons (tC (V.str "BadPaper")) (tCons (tC (V.str "uses")) tNil))) σ H Q := by
  refine ⟨_, hi, _, rfl, ?_⟩
  cases b with
  | true => exact iteT (q _ _ (Same.refl _) .non)
  | false => exact iteF ⟨by show 2 ≤ sizeLine; decide, fun p hp => q _ _ (Same.new hp) (.lst (.of upd_same) (.cons (.str _) (.cons (.str _) .nil)))⟩
/-- what _law_refusal tells of a row of uses -/
theorem ref_row {gv uv : V} {m : Nat} {rs : List Ru} {u : List Nat} {H : Hp} {Q : VK} {X : XK} (hg : Dq K H (grD m rs) gv) (hu : Dq K H (rowD u) uv) (o : GOk m rs) (hul : u.length = rs.length) (hs : u.sum ≤ 400) (q : ∀ H' v, Same H H' → Dp K H' v (dueP (useB rs u)) → Q v H') : spRefusal K [gv, uv] H Q X := by
  refine ⟨gv, uv, _, _, rfl, hg.dp, hu.dp, .inr ⟨m, rs, rfl, o, fun z => ?_, fun u' e hl => ?_⟩⟩
  · rw [areUses_row hul] at z
    cases z
  · obtain rfl := rowD_inj e
    refine ⟨fun z H' x s hx => q H' x s ?_, fun z1 z2 => by omega, fun z1 z2 H' s => q H' _ s ?_⟩
    · rw [z]; exact hx
    · rw [z1]; exact .non
theorem ref_odd {gv uv : V} {m : Nat} {rs : List Ru} {d : PyData} {H : Hp} {Q : VK} {X : XK} (hg : Dq K H (grD m rs) gv) (hu : Dp K H uv d) (o : GOk m rs) (hb : areUsesD rs.length d = false) (q : ∀ H' v, Same H H' → Dp K H' v paperD → Q v H') : spRefusal K [gv, uv] H Q X := by
  refine ⟨gv, uv, _, _, rfl, hg.dp, hu, .inr ⟨m, rs, rfl, o, fun _ => q, fun u' e hl => ?_⟩⟩
  rw [e, areUses_row hl] at hb
  cases hb
theorem paper_lst {σ : L2.St} {H : Hp} {Q : VK} (q : ∀ H' v, Same H H' → Dp K H' v paperD → Q v H') : tLst (tCons (tC (V.str "BadPaper")) (tCons (tC (V.str "uses")) tNil)) σ H Q :=
  ⟨by show 2 ≤ sizeLine; decide, fun p hp => q _ _ (Same.new hp) (.lst (.of upd_same) (.cons (.str _) (.cons (.str _) .nil)))⟩
end
theorem flat1 (k : Nat) (x : V) : (List.replicate k [x]).flatten = List.replicate k x := by
  induction k with
  | zero => rfl
  | succ k ih => rw [List.replicate_succ, List.flatten_cons, ih]; rfl
theorem dp_rep {K : PySem.W.Frag} {H : Hp} {x : V} {d : PyData} (h : Dp K H x d) : ∀ k : Nat, DpAll K H (List.replicate k x) (List.replicate k d)
  | 0 => .nil
  | k + 1 => .cons h (dp_rep h k)
theorem rep_ok {K : PySem.W.Frag} {H : Hp} {Q : VK} {l : Addr} {k : Nat} {x : V} {d : PyData} (hl : SqT K H l [x]) (hd : ∀ H, Dp K H x d) (h1 : 1 ≤ k) (h2 : k ≤ 1000) (q : ∀ H' v, Same H H' → Dp K H' v (.tuple (List.replicate k d)) → Q v H') : rRepB K (.ref l) (.int (k : Nat)) H Q := by
  refine ⟨l, _, _, rfl, rfl, hl, by omega, by omega, by show 1 ≤ 1000; decide, fun z => q _ _ (Same.refl _) ?_, fun _ _ p hp => q _ _ (Same.new hp) ?_⟩
  · rcases z with z | z
    · cases z
    · have : k = 1 := by omega
      subst this
      exact .tup hl (.cons (hd _) .nil)
  · refine .tup (.of (by rw [upd_same, Int.toNat_natCast, flat1])) (dp_rep (hd _) k)
theorem rep_bad {N k : Nat} {d : PyData} (h : isNatD d = false) (hk : 1 ≤ k) : areUsesD N (.tuple (List.replicate k d)) = false := by
  show (decide ((List.replicate k d).length = N) && (List.replicate k d).all isNatD) = false
  have : (List.replicate k d).all isNatD = false := by
    rw [Bool.eq_false_iff]
    intro z
    have := List.all_eq_true.mp z d (List.mem_replicate.mpr ⟨by omega, rfl⟩)
    rw [h] at this
    cases this
  rw [this, Bool.and_false]
theorem sum_le3 : ∀ (u : List Nat) (k : Nat), (∀ z ∈ u, z ≤ k) → u.sum ≤ k * u.length
  | [], k, _ => by simp
  | x :: u, k, h => by
    have a := h x (List.mem_cons_self ..)
    have b := sum_le3 u k fun z hz => h z (List.mem_cons_of_mem _ hz)
    rw [List.sum_cons, List.length_cons, Nat.mul_succ]
    omega
def spRefRight (K : PySem.W.Frag) : Sp := fun vs H Q _ => ∃ (a l c : Addr) (n : Nat) (gv : V) (m : Nat) (rs : List Ru), vs = [.ref a, gv] ∧ LSt H a l c n ∧ n ≤ 800000 ∧ Dq K H (grD m rs) gv ∧ GOk m rs ∧ rs.length ≤ 4 ∧ ∀ H', Sbt a l H H' → LSt H' a l c (n + 4) → Q (.bl true) H'
abbrev s__law_refusals_right : Stmt := top 44
abbrev nm__law_refusals_right : List Str := ["state", "grammar_so", "many_so", "uses_so", "is_good", "due", "odd", "bad", "place", "loop_so", "k"]
abbrev pr__law_refusals_right : List Str := ["state", "grammar_so"]
theorem sc__law_refusals_right : FnScope nm__law_refusals_right pr__law_refusals_right (defScope s__law_refusals_right) := ⟨rfl, rfl, rfl, by decide +kernel, rfl, by decide +kernel, by decide +kernel⟩
section
variable {P : Program} {w : World} {K : PySem.W.Frag} {mg : Str → Option Value} {base : Heap} {SA BG BP TG : Addr}
theorem ok_ref_right (B : Bl mg) (F1 : Df P w K mg base CX0 2 "_law_draw" pr__law_draw spDrawW) (F2 : Df P w K mg base CX0 1 "_law_balanced" pr__law_balanced (spBalL K)) (F3 : Df P w K mg base CX0 2 "_law_linked" pr__law_linked (spLinked K)) (F4 : Df P w K mg base CX0 8 "_law_refusal" pr__law_refusal (spRefusal K)) (FL : DfG P w K mg base CX0 1 "_law_like" pr__law_like (spLike K)) (F5 : Df P w K mg base (L2.CX P w) 7 "way_with" pr_way_with (spWay K BG BP TG))
    (D : Dt K mg "_law_refusals_right" s__law_refusals_right pr__law_refusals_right) : DfG P w K mg base CX0 9 "_law_refusals_right" pr__law_refusals_right (spRefRight K) := by
  refine D.okG sc__law_refusals_right (fun vs H Q E h => ?_) (fun f cdv A outer s H vs Q E hG hr h => ?_)
  · obtain ⟨a, l, c, n, gv, m, rs, rfl, _⟩ := h
    rfl
  · obtain ⟨a, l, c, n, gv, m, rs, rfl, hl, hn, hg, o, l4, k⟩ := h
    refine ⟨_, (pss_cons (ps_set (i := 2) sc__law_refusals_right.nd rfl (Or.inl rfl) (pe_callB call_len_seq (by rfl) B.len PySem.boot_len (pa_cons (pe_ix ix_tup (pv 1) pe_int (fun _ _ => rfl)) pa_nil))) (pss_cons (ps_set (i := 3) sc__law_refusals_right.nd rfl (Or.inl rfl) (pe_callTy call_tupleF (by rfl) B.tuple PyProof.Rows.boot_tuple (pa_cons (pe_lc (own := [("k", 10)]) (g := gName 10) (tt := tYes) (by rfl) sc__law_refusals_right.nd (pi_range1 (by rfl) B.range (pa_cons (pv 2) pa_nil)) (blkOk_by (own := [("k", 10)]) (N := nm__law_refusals_right) (sc := defScope s__law_refusals_right) (by decide +kernel)) (fun _ _ _ _ _ => pg_name (i := 10) sc__law_refusals_right.nd rfl (Or.inl rfl)) (fun _ _ _ _ _ => pts_nil) (fun _ _ _ _ _ => (pe_f F1 (hr.mono (by decide)) pass0 (pa_cons (pv 0) (pa_cons pe_int pa_nil))))) pa_nil))) (pss_cons (ps_set (i := 4) sc__law_refusals_right.nd rfl (Or.inl rfl) (pe_and (pe_f F2 (hr.mono (by decide)) pass0 (pa_cons (pe_ix ix_tup (pv 1) pe_int (fun _ _ => rfl)) (pa_cons (pv 3) pa_nil))) (pe_one (pe_f F3 (hr.mono (by decide)) pass0 (pa_cons (pe_ix ix_tup (pv 1) pe_int (fun _ _ => rfl)) (pa_cons (pv 3) (pa_cons (pe_lst (pa_cons pe_int pa_nil)) pa_nil))))))) (pss_cons (ps_set (i := 5) sc__law_refusals_right.nd rfl (Or.inl rfl) (pe_ifExp (pt_val (pv 4)) pe_non (pe_lst (pa_cons pe_str (pa_cons pe_str pa_nil))))) (pss_cons (ps_if (pt_not (pt_val (pe_fG FL hG (hr.mono (by decide)) pass0 (pa_cons (pe_f F4 (hr.mono (by decide)) pass0 (pa_cons (pv 1) (pa_cons (pv 3) pa_nil))) (pa_cons (pv 5) pa_nil))))) (pss_one (ps_ret pe_bl)) pss_nil) (pss_cons (ps_for PassesOwn.never rfl (pi_list (pe_lst (pa_cons pe_non (pa_cons (pe_tupF pa_nil) (pa_cons (pe_callTy call_list_of (by rfl) B.list PyProof.Rows.boot_list (pa_cons (pv 3) pa_nil)) (pa_cons (pe_op op_repB (pe_tupF (pa_cons (pe_un un_neg pe_int) pa_nil)) (pv 2)) (pa_cons (pe_op op_repB (pe_tupF (pa_cons pe_bl pa_nil)) (pv 2)) pa_nil))))))) (pg_name (i := 6) sc__law_refusals_right.nd rfl (Or.inl rfl)) (pss_one (ps_if (pt_not (pt_val (pe_fG FL hG (hr.mono (by decide)) pass0 (pa_cons (pe_f F4 (hr.mono (by decide)) pass0 (pa_cons (pv 1) (pa_cons (pv 6) pa_nil))) (pa_cons (pe_lst (pa_cons pe_str (pa_cons pe_str pa_nil))) pa_nil))))) (pss_one (ps_ret pe_bl)) pss_nil))) (pss_cons (ps_for PassesOwn.never rfl (pi_list (pe_lst (pa_cons (pe_tupF (pa_cons pe_non (pa_cons (pe_tupF pa_nil) pa_nil))) (pa_cons (pe_tupF (pa_cons (pe_tupF (pa_cons pe_int (pa_cons (pe_tupF pa_nil) pa_nil))) (pa_cons (pe_tupF (pa_cons pe_int pa_nil)) pa_nil))) (pa_cons (pe_tupF (pa_cons (pe_tupF (pa_cons pe_int (pa_cons (pe_tupF (pa_cons (pe_tupF (pa_cons pe_int (pa_cons (pe_tupF pa_nil) pa_nil))) (pa_cons (pe_tupF (pa_cons pe_int (pa_cons pe_non pa_nil))) pa_nil))) pa_nil))) (pa_cons (pe_tupF (pa_cons pe_int (pa_cons pe_int pa_nil))) pa_nil))) pa_nil))))) (pg_tup rfl (pgs_cons (pg_name (i := 7) sc__law_refusals_right.nd rfl (Or.inl rfl)) (pgs_cons (pg_name (i := 8) sc__law_refusals_right.nd rfl (Or.inl rfl)) pgs_nil))) (pss_one (ps_if (pt_not (pt_val (pe_fG FL hG (hr.mono (by decide)) pass0 (pa_cons (pe_f F4 (hr.mono (by decide)) pass0 (pa_cons (pv 7) (pa_cons pe_non pa_nil))) (pa_cons (pe_lst (pa_cons pe_str (pa_cons (pv 8) pa_nil))) pa_nil))))) (pss_one (ps_ret pe_bl)) pss_nil))) (pss_cons (ps_set (i := 9) sc__law_refusals_right.nd rfl (Or.inl rfl) (pe_tupF (pa_cons pe_int (pa_cons (pe_tupF (pa_cons (pe_tupF (pa_cons pe_int (pa_cons (pe_tupF (pa_cons (pe_tupF (pa_cons pe_str (pa_cons pe_int pa_nil))) pa_nil)) pa_nil))) (pa_cons (pe_tupF (pa_cons pe_int (pa_cons (pe_tupF (pa_cons (pe_tupF (pa_cons pe_str (pa_cons pe_int pa_nil))) pa_nil)) pa_nil))) pa_nil))) pa_nil)))) (pss_cons (ps_if (pt_not (pt_val (pe_fG FL hG (hr.mono (by decide)) pass0 (pa_cons (pe_f F4 (hr.mono (by decide)) pass0 (pa_cons (pv 9) (pa_cons (pe_tupF (pa_cons pe_int (pa_cons pe_int pa_nil))) pa_nil))) (pa_cons (pe_lst (pa_cons pe_str (pa_cons pe_int pa_nil))) pa_nil))))) (pss_one (ps_ret pe_bl)) pss_nil) (pss_cons (ps_if (pt_not (pt_val (pe_fG FL hG (hr.mono (by decide)) pass0 (pa_cons (pe_f F4 (hr.mono (by decide)) pass0 (pa_cons (pv 9) (pa_cons (pe_tupF (pa_cons (pe_op op_pow pe_int pe_int) (pa_cons pe_int pa_nil))) pa_nil))) (pa_cons (pe_lst (pa_cons pe_str (pa_cons pe_str pa_nil))) pa_nil))))) (pss_one (ps_ret pe_bl)) pss_nil) (pss_one (ps_ret (pe_fG FL hG (hr.mono (by decide)) pass0 (pa_cons (pe_fS (E := fun _ => E0) F5 (hr.mono (by decide)) (fun σ => passAt takes0 σ) (pa_cons (pv 9) (pa_cons (pe_tupF (pa_cons pe_int (pa_cons pe_int pa_nil))) pa_nil))) (pa_cons (pe_op op_catA (pe_op op_repA (pe_tupF (pa_cons pe_int pa_nil)) pe_int) (pe_tupF (pa_cons pe_int pa_nil))) pa_nil))))))))))))))), ?_⟩
    dsimp only [cxOf, Cx.nox]
    obtain ⟨ga, gu, rfl, hga, hgu⟩ := gr_q hg
    obtain ⟨ra, zs, rfl, hra, hzl, hzat, _⟩ := q_view hgu
    have l1 := o.l1
    refine sq_go ⟨_, rfl, ga, _, 1, _, rfl, rfl, hga.sq, rfl, ra, zs, rfl, .inr hra.sq, ?_⟩
    rw [hzl]
    refine sq_go ⟨_, rfl, _, rfl, by omega, by omega, fun D hD => ?_⟩
    rw [Int.toNat_natCast]
    refine lcQ (K := K) walk_range 1 hD (slt (by omega)) (fun _ d => ∃ v : Nat, d = .int (v : Nat) ∧ v ≤ 3) hl (fun _ _ => trivial) (fun i x H6 H7 Q1 hi e6 s6 y q6 => ?_) (fun H6 ys ds e6 s6 hD6 ha6 hn6 hR => ?_)
    · obtain ⟨rfl, rfl⟩ := y
      exact ⟨rfl, _, rfl, a, l, c, _, _, rfl, s6, by omega, by decide, by decide, fun H8 z e8 s8 z1 z2 => by
        obtain ⟨z, rfl⟩ : ∃ y : Nat, z = (y : Nat) := ⟨z.toNat, by omega⟩
        exact q6 _ _ _ ⟨z, rfl, by omega⟩ .int_ e8 (s8.mono (by omega))⟩
    · obtain ⟨u, rfl, hu3⟩ := by_f (f := fun v : Nat => PyData.int (v : Nat)) (P := fun v => v ≤ 3) hR
      rw [List.length_map] at hn6
      refine ⟨D, ys, rfl, .inl ⟨.of hD6, fun t ot ht hot => ?_⟩⟩
      have eu : u.map (fun v : Nat => PyData.int (v : Nat)) = (nI u).map PyData.int := by unfold nI; rw [List.map_map]; rfl
      rw [eu] at ha6
      have e7 := e6.same (Same.new (o := .frz ot (.tup ys)) ht)
      have s7 := s6.new (o := .frz ot (.tup ys)) ht
      have hu7 : Dq K (upd H6 t (.frz ot (.tup ys))) (rowD u) (.ref t) := .tup (.new hot) (ha6.new ht)
      generalize (upd H6 t (.frz ot (.tup ys))) = H7 at e7 s7 hu7 ⊢
      have hg7 := hg.st e7 hl
      have hsum : u.sum ≤ 400 := by have := sum_le3 u 3 hu3; omega
      refine sq_go (due_ok (i := 1) (j := 3) rfl rfl hg7 hu7 o hn6 fun H8 e8 => ?_)
      refine sq_go (dueP_ok (K := K) (i := 4) rfl fun H9 dv e9 hdv => ?_)
      have n9 := e8.trans e9
      refine sq_if0 ⟨_, rfl, _, rfl, ref_row (X := E0) (hg7.to n9) (hu7.to n9) o hn6 hsum fun H10 rv e10 hrv => ⟨_, rfl, rv, dv, _, 100, 1, rfl, hrv, hdv.to e10, dueP_sm _, by decide, by decide, _, rfl, iteF ?_⟩⟩
      have n10 := n9.trans e10
      have hu10 := hu7.to n10
      obtain ⟨tb, etb, htb⟩ := hu10.row_inv
      cases etb
      have e10' := e7.same n10
      have s10 := s7.same n10
      refine sq_fr ⟨by show 0 ≤ sizeLine; decide, fun p1 o1 hp1 ho1 => ⟨_, rfl, t, _, rfl, .inr ((htb.same (Same.new hp1)).sq), fun L hL => ⟨1, rfl, by show 1 ≤ sizeLine; decide, fun p2 o2 hp2 ho2 => ⟨_, rfl, rep_ok (d := .int (-1)) (SqP.new ho2).sq (fun _ => .int _) l1 (by omega) fun H11 w1 e11 hw1 => ⟨by show 1 ≤ sizeLine; decide, fun p3 o3 hp3 ho3 => ⟨_, rfl, rep_ok (d := .bool true) (SqP.new ho3).sq (fun _ => .bl _) l1 (by omega) fun H12 w2 e12 hw2 => ⟨by show 5 ≤ sizeLine; decide, fun p4 hp4 => ⟨p4, rfl, ⟨_, .of upd_same⟩, ?_⟩⟩⟩⟩⟩⟩⟩⟩
      have c1 := Same.new (o := .frz o1 (.tup [])) hp1
      have c2 := Same.new (o := .lst ((nI u).map V.int)) hL
      have c3 := Same.new (o := .frz o2 (.tup [V.int (-1)])) hp2
      have c4 := Same.new (o := .frz o3 (.tup [V.bl true])) hp3
      have c5 := Same.new (o := .lst [V.non, .ref p1, .ref L, w1, w2]) hp4
      have dL : Dp K (upd (upd H10 p1 (.frz o1 (.tup []))) L (.lst ((nI u).map V.int))) (.ref L) (.list ((nI u).map PyData.int)) := .lst (.of upd_same) (DpAll.ints _)
      have d1 : Dp K (upd H10 p1 (.frz o1 (.tup []))) (.ref p1) (.tuple []) := .tup (.inl (.inr ⟨_, upd_same⟩)) .nil
      have cc := ((((c1.trans c2).trans c3).trans e11).trans c4).trans (e12.trans c5)
      have e13 := e10'.same cc
      have s13 := s10.same cc
      have h13 : (upd H12 p4 (.lst [V.non, .ref p1, .ref L, w1, w2])) p4 = some (.lst [V.non, .ref p1, .ref L, w1, w2]) := upd_same
      have all13 : ∀ y ∈ [V.non, .ref p1, .ref L, w1, w2], ∃ d, Dp K (upd H12 p4 (.lst [V.non, .ref p1, .ref L, w1, w2])) y d ∧ areUsesD rs.length d = false := fun y hy => by
        simp only [List.mem_cons, List.not_mem_nil, or_false] at hy
        rcases hy with rfl | rfl | rfl | rfl | rfl
        · exact ⟨.none, .non, rfl⟩
        · refine ⟨.tuple [], d1.to ((((c2.trans c3).trans e11).trans c4).trans (e12.trans c5)), ?_⟩
          show (decide (0 = rs.length) && true) = false
          rw [decide_eq_false (by omega)]
          rfl
        · exact ⟨_, dL.to (((c3.trans e11).trans c4).trans (e12.trans c5)), rfl⟩
        · exact ⟨_, hw1.to (c4.trans (e12.trans c5)), rep_bad rfl l1⟩
        · exact ⟨_, hw2.to c5, rep_bad rfl l1⟩
      generalize (upd H12 p4 (.lst [V.non, .ref p1, .ref L, w1, w2])) = H13 at e13 s13 h13 all13 ⊢
      have hg13 := hg.st e13 hl
      refine for_it walk_list (fun i σ H' => Same H13 H' ∧ ∃ v6, σ = [some (V.ref a), some (.ref ga), some (.int (rs.length : Nat)), some (.ref t), some (.bl (useB rs u)), some dv, v6, none, none, none, none]) ⟨Same.refl _, _, rfl⟩ (fun i σ H' _ p => .of (p.1 _ _ h13)) (fun i x σ H14 H15 hi p y => ?_) (fun σ H14 p => ?_)
      · obtain ⟨e14, v6, rfl⟩ := p
        obtain ⟨rfl, hx⟩ := y
        obtain ⟨d, hd, hbad⟩ := all13 x (List.mem_of_getElem? hx)
        refine ⟨_, rfl, _, rfl, ref_odd (X := E0) (hg13.to e14) (hd.to e14) o hbad fun H16 v e16 hv => paper_lst fun H17 v2 e17 hv2 => ⟨v, v2, paperD, 100, 1, rfl, hv.to e17, hv2, paper_sm, by decide, by decide, _, rfl, iteF ⟨(e14.trans e16).trans e17, _, rfl⟩⟩⟩
      · obtain ⟨e14, v6, rfl⟩ := p
        dsimp only
        refine sq_fr (for_lst (ds := badsD) (by walk_at "qe") fun H15 p15 y15 e15 n15 h15 a15 => ?_)
        refine for_it walk_list (fun i σ H' => Same H15 H' ∧ ∃ v7 v8, σ = [some (V.ref a), some (.ref ga), some (.int (rs.length : Nat)), some (.ref t), some (.bl (useB rs u)), some dv, v6, v7, v8, none, none]) ⟨Same.refl _, _, _, rfl⟩ (fun i σ H' _ p => .of (p.1 _ _ h15)) (fun i x σ H16 H17 hi p y => ?_) (fun σ H16 p => ?_)
        · obtain ⟨e16, v7, v8, rfl⟩ := p
          obtain ⟨rfl, hx⟩ := y
          obtain ⟨d, hd1, hd2⟩ := (a15.to e16).at_ hx
          obtain ⟨dw, dp, rfl, hf, hsm⟩ := bads_all d (List.mem_of_getElem? hd1)
          obtain ⟨T, ws, rfl, hT, hws⟩ := hd2.tup_inv
          obtain ⟨z1, z2, rfl, hz1, hz2⟩ := hws.two
          refine ⟨T, _, rfl, hT.sq, rfl, _, _, rfl, _, _, rfl, rfl, ?_⟩
          exact ⟨_, rfl, z1, .non, dw, .none, rfl, hz1.dp, .non, .inl ⟨dp, hf, fun H18 v e18 hv => ⟨_, rfl, by show 2 ≤ sizeLine; decide, fun p19 hp19 => ⟨v, .ref p19, _, 100, 2, rfl, hv.to (Same.new hp19), .lst (.of upd_same) (.cons (.str _) (.cons ((hz2.to e18).new hp19).dp .nil)), gram_sm hsm, by decide, by decide, _, rfl, iteF ⟨(e16.trans e18).then_new hp19, _, _, rfl⟩⟩⟩⟩⟩
        · obtain ⟨e16, v7, v8, rfl⟩ := p
          dsimp only
          have e17 := ((e13.same e14).same e15).same e16
          have s17 := ((s13.same e14).same e15).same e16
          refine sq_go ((show QE K _ _ (grD 1 loopR) from by walk_at "qe") _ _ fun H18 gv2 e18 h18 => ?_)
          refine sq_if0 ⟨_, rfl, (show QE K _ _ (rowD [400, 1]) from by walk_at "qe") _ _ fun H19 uv2 e19 h19 => ⟨gv2, uv2, _, _, rfl, (h18.to e19).dp, h19.dp, .inr ⟨1, loopR, rfl, loop_ok, fun z => ?_, fun u' e hl' => ?_⟩⟩⟩
          · rw [areUses_row (n := loopR.length) (u := [400, 1]) rfl] at z
            cases z
          · obtain rfl := rowD_inj e
            refine ⟨fun z => ?_, fun _ _ H20 x e20 hx => ⟨by show 2 ≤ sizeLine; decide, fun p21 hp21 => ⟨x, .ref p21, _, 100, 1, rfl, hx.to (Same.new hp21), .lst (.of upd_same) (.cons (.str _) (.cons (.int _) .nil)), great_sm, by decide, by decide, _, rfl, iteF ?_⟩⟩, fun _ z => absurd z (by decide)⟩
            · rw [loop_a] at z
              cases z
            · have e21 : Same H18 (upd H20 p21 (.lst [V.str (Str.ofString "TooGreat"), V.int 400])) := (e19.trans e20).then_new hp21
              generalize (upd H20 p21 (.lst [V.str (Str.ofString "TooGreat"), V.int 400])) = H21 at e21 ⊢
              refine sq_if0 ⟨_, rfl, _, _, rfl, rfl, ⟨by decide, by decide, by decide⟩, by show 2 ≤ sizeLine; decide, fun p22 o22 hp22 ho22 => ?_⟩
              have big : (10 : Int) ^ (30 : Int).toNat = ((10 ^ 30 : Nat) : Int) := by decide +kernel
              have h22 : Dq K (upd H21 p22 (.frz o22 (.tup [V.int (10 ^ (30 : Int).toNat), V.int 2]))) (rowD [10 ^ 30, 2]) (.ref p22) := by
                rw [big]
                exact .row (.new ho22)
              have e22 := e21.then_new (o := .frz o22 (.tup [V.int (10 ^ (30 : Int).toNat), V.int 2])) hp22
              generalize (upd H21 p22 (.frz o22 (.tup [V.int (10 ^ (30 : Int).toNat), V.int 2]))) = H22 at h22 e22 ⊢
              refine ⟨gv2, .ref p22, _, _, rfl, (h18.to e22).dp, h22.dp, .inr ⟨1, loopR, rfl, loop_ok, fun z => ?_, fun u' e hl' => ?_⟩⟩
              · rw [areUses_row (n := loopR.length) (u := [10 ^ 30, 2]) rfl] at z
                cases z
              · have eu' := rowD_inj e
                have ub : useB loopR u' = false := by rw [← eu']; exact loop_b
                refine ⟨fun _ H23 x e23 hx => paper_lst fun H24 v2 e24 hv2 => ⟨x, v2, paperD, 100, 1, rfl, hx.to e24, hv2, paper_sm, by decide, by decide, _, rfl, iteF ?_⟩, (fun z => by rw [ub] at z; cases z), (fun z => by rw [ub] at z; cases z)⟩
                have e25 := (e22.trans e23).trans e24
                have e26 := ((e17.same e18).same e25)
                have s26 := ((s17.same e18).same e25)
                refine ⟨_, rfl, (show QE K _ _ (rowD [60, 1]) from by walk_at "qe") _ _ fun H27 uv3 e27 h27 => ⟨gv2, uv3, _, _, rfl, ((h18.to e25).to e27).dp, h27.dp, .inr ⟨1, loopR, rfl, loop_ok, fun z => ?_, fun u' e hl' => ?_⟩⟩⟩
                · rw [areUses_row (n := loopR.length) (u := [60, 1]) rfl] at z
                  cases z
                · obtain rfl := rowD_inj e
                  refine ⟨(fun z => by rw [loop_c] at z; cases z), (fun _ z => absurd z (by decide)), fun _ _ way hw H28 x e28 hx => ?_⟩
                  have ew : way = List.replicate 60 0 ++ [1] := by
                    have := loop_d
                    rw [show least loopR 61 [60, 1] [0] = some way from hw] at this
                    exact Option.some.inj this
                  subst ew
                  refine ⟨by show 1 ≤ sizeLine; decide, fun p29 o29 hp29 ho29 => ⟨p29, 60, [V.int 0], rfl, rfl, (SqP.new ho29).sq, by decide, by decide, by decide, (fun z => nomatch z), fun _ p30 hp30 => ⟨by show 1 ≤ sizeLine; decide, fun p31 o31 hp31 ho31 => ?_⟩⟩⟩
                  have c1 := (Same.new (o := .frz o29 (.tup [V.int 0])) hp29).then_new (o := .tup (List.replicate (60 : Int).toNat [V.int 0]).flatten) hp30
                  have hA : SqT K (upd (upd H28 p29 (.frz o29 (.tup [V.int 0]))) p30 (.tup (List.replicate (60 : Int).toNat [V.int 0]).flatten)) p30 (List.replicate (60 : Int).toNat [V.int 0]).flatten := .of upd_same
                  have c2 := Same.new (o := .frz o31 (.tup [V.int 1])) hp31
                  refine ⟨p30, p31, _, _, rfl, rfl, c2.seqT hA, (SqP.new ho31).sq, by decide, (fun z => nomatch z), (fun _ z => nomatch z), fun _ _ p32 hp32 => ?_⟩
                  have c3 := (c1.trans c2).then_new (o := .tup ((List.replicate (60 : Int).toNat [V.int 0]).flatten ++ [V.int 1])) hp32
                  refine ⟨x, .ref p32, rowD (List.replicate 60 0 ++ [1]), 100, 1, rfl, (hx.to c3).dp, ?_, Sm.ints (fun n hn => ?_) (by decide), by decide, by decide, k _ (((e26.same e27).same e28).same c3) ((((s26.same e27).same e28).same c3).mono (by omega))⟩
                  · exact Dp.tup_ints (.of (by rw [upd_same]; rfl))
                  · rcases List.mem_append.mp hn with m | m
                    · rw [(List.mem_replicate.mp m).2]; decide
                    · rw [List.mem_singleton.mp m]; decide
end
end Ws
/-! ## E46s -/
namespace Ws
open PySem PySem.Spec PyProof.Rows L2 RZ Gm
local macro_rules | `(tactic| walk_at "nf") => `(tactic| dsimp only [tNext, tSeq, tDrop, tRet, tRetN, tIfS, tAsg, gName, gTup, gCons, gNil, tVar, tC, tOp, tUn, rI, rI0, rU, rEq, rNe, tTest, tChain, tAnd, tOr, tNot, tAndV, tOrV, tNotV, tIf, tCB, tCKw, tCons, tNil, tTup, tLst, tCa, tCallS, tB, rIxT, rIxL, rIxS, cxOf, Cx.nox, Cx.wish, Cx.blk, L2.start, tPar, tPar3, tNever, tYes, tBits, tRz, tBM, rAppend, tyV, tXf, suiteEnds, gSub, rSetL, tBreak, rMax, tDGet, sDPut, tSl, tNoPart, tPart, tDisp, tPairs, tDGet2, tDNewK, tAugS, ipI, rGetL, tDIn, tDNotIn, tBM0, rPop, tBMT, tTupF])
local macro_rules | `(tactic| walk_at "sx") => `(tactic| simp only [wipe, List.cons.injEq, and_assoc, exists_and_left, and_true, List.map_cons, List.map_nil, List.length_cons, List.length_nil, List.cons_append, List.nil_append, List.append_nil, Nat.reduceAdd, Nat.reduceSub, List.replicate, List.getElem?_cons_zero, List.getElem?_cons_succ, List.set_cons_zero, List.set_cons_succ, Option.some.injEq, V.int.injEq, V.bl.injEq, V.ref.injEq, V.str.injEq, exists_eq_left', exists_eq_left, true_and, Bool.true_eq_false, Bool.false_eq_true, if_true, if_false])

local macro_rules | `(tactic| walk_at "qe") => `(tactic| repeat' first | exact QE.int | exact QE.str | exact QE.non | exact QE.bl | exact QEs.nil | refine QEs.cons ?_ ?_ | refine QE.tup ?_)
theorem way_lt {rs : List Ru} : ∀ {way A : List Nat}, Way rs A way → ∀ z ∈ way, z < rs.length
  | [], _, _, z, hz => by cases hz
  | n :: w, _, h, z, hz => by
    cases h with
    | step h1 h2 =>
      rcases List.mem_cons.mp hz with rfl | m
      · exact (List.getElem?_eq_some_iff.mp h1).1
      · exact way_lt h2 z m
theorem counted_sum (way : List Nat) (m : Nat) : (counted m way).sum ≤ way.length := by
  unfold counted
  induction way with
  | nil =>
    have : ∀ m : Nat, ((List.range m).map fun k => ([] : List Nat).count k).sum = 0 := fun m => by
      induction m with
      | zero => rfl
      | succ m ih => rw [List.range_succ, List.map_append, List.sum_append, ih]; rfl
    rw [this]
    exact Nat.zero_le _
  | cons n w ih =>
    have : ∀ m : Nat, ((List.range m).map fun k => (n :: w).count k).sum = ((List.range m).map fun k => w.count k).sum + (if n < m then 1 else 0) := fun m => by
      induction m with
      | zero => rfl
      | succ m ih2 =>
        rw [List.range_succ, List.map_append, List.map_append, List.sum_append, List.sum_append, ih2]
        simp only [List.map_cons, List.map_nil, List.sum_cons, List.sum_nil, List.count_cons, beq_iff_eq]
        split <;> split <;> split <;> omega
    rw [this, List.length_cons]
    split <;> omega
theorem lst_way {rs : List Ru} {way : List Nat} (h : Way rs [0] way) : Lst rs (counted rs.length way) [0] := by
  obtain ⟨b, c⟩ := h.bal
  exact ⟨b.congr fun i hi => (counted_g hi).symm, c.congr fun i hi => (counted_g hi).symm, counted_len .., by simp⟩
theorem use_way {rs : List Ru} {way : List Nat} (sm' : Small rs) (h : Way rs [0] way) : useB rs (counted rs.length way) = true :=
  (useB_iff (counted_len ..) sm').mpr ⟨(lst_way h).bal, (lst_way h).con⟩
def backR : List Ru := [(2, [.L 0]), (1, [.X 2]), (0, [.X 1])]
theorem back_ok : GOk 1 backR := ⟨by decide, by decide, by decide, by decide, by unfold Small; decide, by decide, by decide⟩
theorem back_use : useB backR [1, 1, 1] = true := by decide
theorem back_least : least backR 3 [1, 1, 1] [0] = some [2, 1, 0] := by decide +kernel
theorem chain_ok {rs : List Ru} (h : ∀ r, r ∈ rs ↔ r ∈ chainR) (hl : rs.length = 8) : GOk 2 rs where
  m1 := by decide
  m2 := by decide
  l1 := by omega
  l2 := by omega
  small := fun r hr => (show ∀ r ∈ chainR, r.1 < 4 ∧ ∀ v ∈ xs r.2, v < 4 from by decide) r ((h r).mp hr)
  body := fun r hr => (show ∀ r ∈ chainR, r.2.length ≤ 6 from by decide) r ((h r).mp hr)
  lets := fun r hr => (show ∀ r ∈ chainR, ∀ l ∈ Gm.ls r.2, l < 2 from by decide) r ((h r).mp hr)
def spWayRight (K : PySem.W.Frag) : Sp := fun vs H Q _ => ∃ (gv wv : V) (m : Nat) (rs : List Ru) (way : List Nat), vs = [gv, wv] ∧ Dq K H (grD m rs) gv ∧ GOk m rs ∧ Dq K H (rowD way) wv ∧ way.length ≤ 100 ∧ Way rs [0] way ∧ ∀ H', Same H H' → Q (.bl true) H'
def spChainRight (K : PySem.W.Frag) : Sp := fun vs H Q _ => ∃ (a l c : Addr) (n : Nat), vs = [.ref a] ∧ LSt H a l c n ∧ n ≤ 700000 ∧ ∀ H', Q (.bl true) H'
abbrev s__law_way_right : Stmt := top 46
abbrev nm__law_way_right : List Str := ["grammar_so", "way_so", "uses_so", "due"]
abbrev pr__law_way_right : List Str := ["grammar_so", "way_so"]
theorem sc__law_way_right : FnScope nm__law_way_right pr__law_way_right (defScope s__law_way_right) := ⟨rfl, rfl, rfl, by decide +kernel, rfl, by decide +kernel, by decide +kernel⟩
abbrev s__law_chain_right : Stmt := top 47
abbrev nm__law_chain_right : List Str := ["state", "back", "chain", "way_so"]
abbrev pr__law_chain_right : List Str := ["state"]
theorem sc__law_chain_right : FnScope nm__law_chain_right pr__law_chain_right (defScope s__law_chain_right) := ⟨rfl, rfl, rfl, by decide +kernel, rfl, by decide +kernel, by decide +kernel⟩
section
variable {P : Program} {w : World} {K : PySem.W.Frag} {mg : Str → Option Value} {base : Heap} {SA BG BP TG : Addr}
theorem way_call {gv uv : V} {m : Nat} {rs : List Ru} {u way : List Nat} {H : Hp} {Q : VK} {X : XK} (hg : Dq K H (grD m rs) gv) (hu : Dq K H (rowD u) uv) (o : GOk m rs) (hul : u.length = rs.length) (hs : u.sum ≤ 400) (hb : useB rs u = true) (hw : least rs u.sum u [0] = some way) (q : ∀ H' x, Same H H' → Dq K H' (rowD way) x → Q x H') : spWay K BG BP TG [gv, uv] H Q X := by
  refine ⟨gv, uv, _, _, rfl, hg.dp, hu.dp, .inr ⟨m, rs, rfl, o, fun z => ?_, fun u' e hl => ?_⟩⟩
  · rw [areUses_row hul] at z
    cases z
  · obtain rfl := rowD_inj e
    refine ⟨(fun z => by rw [hb] at z; cases z), (fun _ z => by omega), fun _ _ way' hw' => ?_⟩
    rw [hw] at hw'
    obtain rfl := Option.some.inj hw'
    exact q
theorem ok_way_right (B : Bl mg) (F1 : Df P w K mg base CX0 1 "_law_counted" pr__law_counted (spCounted K)) (F2 : Df P w K mg base CX0 3 "_law_least" pr__law_least (spLeast K)) (FL : DfG P w K mg base CX0 1 "_law_like" pr__law_like (spLike K)) (F3 : Df P w K mg base (L2.CX P w) 7 "way_with" pr_way_with (spWay K BG BP TG))
    (D : Dt K mg "_law_way_right" s__law_way_right pr__law_way_right) : DfG P w K mg base CX0 8 "_law_way_right" pr__law_way_right (spWayRight K) := by
  refine D.okG sc__law_way_right (fun vs H Q E h => ?_) (fun f cdv A outer s H vs Q E hG hr h => ?_)
  · obtain ⟨gv, wv, m, rs, way, rfl, _⟩ := h
    rfl
  · obtain ⟨gv, wv, m, rs, way, rfl, hg, o, hw, hwl, hway, k⟩ := h
    refine ⟨_, (pss_cons (ps_set (i := 2) sc__law_way_right.nd rfl (Or.inl rfl) (pe_f F1 (hr.mono (by decide)) pass0 (pa_cons (pe_callB call_len_seq (by rfl) B.len PySem.boot_len (pa_cons (pe_ix ix_tup (pv 0) pe_int (fun _ _ => rfl)) pa_nil)) (pa_cons (pv 1) pa_nil)))) (pss_cons (ps_set (i := 3) sc__law_way_right.nd rfl (Or.inl rfl) (pe_f F2 (hr.mono (by decide)) pass0 (pa_cons (pv 0) (pa_cons (pv 2) pa_nil)))) (pss_cons (ps_if (PW.pt (pw_or (pt_cmpR op_isN (pv 3) pe_non (nomark _)) (pw_or1 (pt_cmpR (op_gtR (hu65 hr)) (pv 3) (pv 1) (nomark _))))) (pss_one (ps_ret pe_bl)) pss_nil) (pss_one (ps_ret (pe_fG FL hG (hr.mono (by decide)) pass0 (pa_cons (pe_fS (E := fun _ => E0) F3 (hr.mono (by decide)) (fun σ => passAt takes0 σ) (pa_cons (pv 0) (pa_cons (pv 2) pa_nil))) (pa_cons (pv 3) pa_nil)))))))), ?_⟩
    walk_at "nf"
    walk_at "sx"
    obtain ⟨ga, gu, rfl, hga, hgu⟩ := gr_q hg
    obtain ⟨ra, zs, rfl, hra, hzl, hzat, _⟩ := q_view hgu
    have l8 := o.l2
    have cs := counted_sum way rs.length
    refine ⟨ga, rfl, _, hga.sq, _, rfl, ra, rfl, zs, .inr hra.sq, ?_⟩
    rw [hzl]
    refine ⟨_, _, way, rfl, hw, by omega, by omega, fun H1 u1 e1 h1 => ?_⟩
    obtain ⟨w0, w1, w2, w3, w4, w5⟩ := least_ok o.small (counted rs.length way).sum _ _ (lst_way hway) rfl
    refine ⟨_, _, m, rs, _, rfl, hg.to e1, o, h1, counted_len .., by omega, fun H2 x e2 hx => ?_⟩
    have hx' : Dq K H2 (rowD w0) x := by
      unfold leastD at hx
      rw [w1] at hx
      exact hx
    have nx : x ≠ .non := by
      obtain ⟨ax, e, _⟩ := hx'.row_inv
      rw [e]
      exact fun z => by cases z
    have e12 := e1.trans e2
    have w6 := w5 way hway fun i hi => (counted_g hi).symm
    have wl := way_lt w2
    dsimp only
    rw [decide_eq_false nx]
    refine iteF ⟨w0, way, hx'.dp, (hw.to e12).dp, _, rfl, ?_⟩
    rw [w6]
    refine iteF (way_call (X := E0) (hg.to e12) (h1.to e2) o (counted_len ..) (by omega) (use_way o.small hway) w1 fun H3 y e3 hy => ⟨y, x, rowD w0, 100, 1, rfl, hy.dp, (hx'.to e3).dp, Sm.ints (fun z hz => ?_) (by omega), by decide, by decide, k _ (e12.trans e3)⟩)
    have h0 : (8 : Nat) < 10 ^ 60 := by decide
    have := wl z hz
    omega
theorem ok_chain_right (B : Bl mg) (F1 : Df P w K mg base CX0 3 "_law_chain" pr__law_chain (spChain K)) (F2 : Df P w K mg base CX0 3 "_law_drawn_way" pr__law_drawn_way (spDrawnWay K)) (F3 : Df P w K mg base CX0 2 "_law_whole" pr__law_whole (spWhole K)) (F4 : DfG P w K mg base CX0 8 "_law_way_right" pr__law_way_right (spWayRight K)) (FL : DfG P w K mg base CX0 1 "_law_like" pr__law_like (spLike K)) (F5 : Df P w K mg base (L2.CX P w) 7 "way_with" pr_way_with (spWay K BG BP TG))
    (D : Dt K mg "_law_chain_right" s__law_chain_right pr__law_chain_right) : DfG P w K mg base CX0 9 "_law_chain_right" pr__law_chain_right (spChainRight K) := by
  refine D.okG sc__law_chain_right (fun vs H Q E h => ?_) (fun f cdv A outer s H vs Q E hG hr h => ?_)
  · obtain ⟨a, l, c, n, rfl, _⟩ := h
    rfl
  · obtain ⟨a, l, c, n, rfl, hl, hn, k⟩ := h
    refine ⟨_, (pss_cons (ps_set (i := 1) sc__law_chain_right.nd rfl (Or.inl rfl) (pe_tupF (pa_cons pe_int (pa_cons (pe_tupF (pa_cons (pe_tupF (pa_cons pe_int (pa_cons (pe_tupF (pa_cons (pe_tupF (pa_cons pe_str (pa_cons pe_int pa_nil))) pa_nil)) pa_nil))) (pa_cons (pe_tupF (pa_cons pe_int (pa_cons (pe_tupF (pa_cons (pe_tupF (pa_cons pe_str (pa_cons pe_int pa_nil))) pa_nil)) pa_nil))) (pa_cons (pe_tupF (pa_cons pe_int (pa_cons (pe_tupF (pa_cons (pe_tupF (pa_cons pe_str (pa_cons pe_int pa_nil))) pa_nil)) pa_nil))) pa_nil)))) pa_nil)))) (pss_cons (ps_if (pt_not (pt_val (pe_fG FL hG (hr.mono (by decide)) pass0 (pa_cons (pe_fS (E := fun _ => E0) F5 (hr.mono (by decide)) (fun σ => passAt takes0 σ) (pa_cons (pv 1) (pa_cons (pe_tupF (pa_cons pe_int (pa_cons pe_int (pa_cons pe_int pa_nil)))) pa_nil))) (pa_cons (pe_tupF (pa_cons pe_int (pa_cons pe_int (pa_cons pe_int pa_nil)))) pa_nil))))) (pss_one (ps_ret pe_bl)) pss_nil) (pss_cons (ps_set (i := 2) sc__law_chain_right.nd rfl (Or.inl rfl) (pe_f F1 (hr.mono (by decide)) pass0 (pa_cons (pv 0) pa_nil))) (pss_cons (ps_set (i := 3) sc__law_chain_right.nd rfl (Or.inl rfl) (pe_f F2 (hr.mono (by decide)) pass0 (pa_cons (pv 0) (pa_cons (pv 2) (pa_cons pe_int pa_nil))))) (pss_one (ps_ret (pe_or (pe_not (pe_f F3 (hr.mono (by decide)) pass0 (pa_cons (pv 2) (pa_cons (pv 3) pa_nil)))) (pe_one (pe_fG F4 hG (hr.mono (by decide)) pass0 (pa_cons (pv 2) (pa_cons (pv 3) pa_nil))))))))))), ?_⟩
    refine sq_go ((show QE K _ _ (grD 1 backR) from by walk_at "qe") _ _ fun H1 gv e1 h1 => ?_)
    have back_len : ([1, 1, 1] : List Nat).length = backR.length := rfl
    refine sq_if0 ⟨_, rfl, (show QE K _ _ (rowD [1, 1, 1]) from by walk_at "qe") _ _ fun H2 uv e2 h2 => way_call (X := E0) (h1.to e2) h2 back_ok back_len (by decide) back_use back_least fun H3 x e3 hx => (show QE K _ _ (rowD [2, 1, 0]) from by walk_at "qe") _ _ fun H4 y e4 hy => ⟨x, y, rowD [2, 1, 0], 10, 1, rfl, (hx.to e4).dp, hy.dp, Sm.ints (by decide) (by decide), by decide, by decide, _, rfl, iteF ?_⟩⟩
    have n4 := ((e1.trans e2).trans e3).trans e4
    refine sq_go ⟨_, rfl, a, l, c, _, rfl, hl.same n4, by omega, fun H5 g rs e5 s5 hg mem len => ?_⟩
    have o := chain_ok mem len
    refine sq_go ⟨_, rfl, _, rfl, a, l, c, _, 24, g, 2, rs, rfl, s5, by omega, by decide, hg, o, fun H6 wv way e6 s6 hw hwl hwn => ?_⟩
    have hg6 := hg.st e6 s5
    refine ⟨_, rfl, _, rfl, g, wv, 2, rs, way, rfl, hg6, o, hw, by omega, hwn, fun H7 e7 => ⟨_, rfl, _, rfl, ?_⟩⟩
    cases cw : whole rs [.X 0] way with
    | false => exact iteT (k _)
    | true => exact iteF ⟨_, rfl, _, rfl, g, wv, 2, rs, way, rfl, hg6.to e7, o, hw.to e7, by omega, whole_way (.inr ⟨0, [], rfl⟩) cw, fun H8 e8 => k _⟩
end
end Ws
/-! ## E46t -/
namespace Ws
open PySem PySem.Spec PyProof.Rows L2 RZ Gm
local macro_rules | `(tactic| walk_at "nf") => `(tactic| dsimp only [tNext, tSeq, tDrop, tRet, tRetN, tIfS, tAsg, gName, gTup, gCons, gNil, tVar, tC, tOp, tUn, rI, rI0, rU, rEq, rNe, tTest, tChain, tAnd, tOr, tNot, tAndV, tOrV, tNotV, tIf, tCB, tCKw, tCons, tNil, tTup, tLst, tCa, tCallS, tB, rIxT, rIxL, rIxS, cxOf, Cx.nox, Cx.wish, Cx.blk, L2.start, tPar, tPar3, tNever, tYes, tBits, tRz, tBM, rAppend, tyV, tXf, suiteEnds, gSub, rSetL, tBreak, rMax, tDGet, sDPut, tSl, tNoPart, tPart, tDisp, tPairs, tDGet2, tDNewK, tAugS, ipI, rGetL, tDIn, tDNotIn, tBM0, rPop, tBMT, tTupF])
local macro_rules | `(tactic| walk_at "sx") => `(tactic| simp only [wipe, List.cons.injEq, and_assoc, exists_and_left, and_true, List.map_cons, List.map_nil, List.length_cons, List.length_nil, List.cons_append, List.nil_append, List.append_nil, Nat.reduceAdd, Nat.reduceSub, List.replicate, List.getElem?_cons_zero, List.getElem?_cons_succ, List.set_cons_zero, List.set_cons_succ, Option.some.injEq, V.int.injEq, V.bl.injEq, V.ref.injEq, V.str.injEq, exists_eq_left', exists_eq_left, true_and, Bool.true_eq_false, Bool.false_eq_true, if_true, if_false])

def spLaw (K : PySem.W.Frag) : Sp := fun vs H Q _ => ∃ (p : Addr) (is : List Int), vs = [.ref p] ∧ SqL K H p (is.map V.int) ∧ is.length ≤ 1000 ∧ ∀ H', Q (.bl true) H'
abbrev s_law : Stmt := top 48
abbrev nm_law : List Str := ["script", "state", "turn", "grammar_so", "many_so", "seen", "listed", "way_so", "word", "uses_so", "others", "step", "row"]
abbrev pr_law : List Str := ["script"]
theorem sc_law : FnScope nm_law pr_law (defScope s_law) := ⟨rfl, rfl, rfl, by decide +kernel, rfl, by decide +kernel, by decide +kernel⟩
theorem sq_as2 {te : TE} {g : TG} {u : TS} {D : Ends} {σ : L2.St} {H : Hp} (h : te σ H fun v H1 => g v σ H1 fun σ2 H2 => u D σ2 H2) : tSeq (tAsg te g) u D σ H := h
theorem sq_dr {te : TE} {u : TS} {D : Ends} {σ : L2.St} {H : Hp} (h : te σ H fun _ H1 => u D σ H1) : tSeq (tDrop te) u D σ H := h
structure LwI (K : PySem.W.Frag) (a l c : Addr) (n : Nat) (g : V) (m : Nat) (rs : List Ru) (q sq : Addr) (ys : List V) (sd : List (List Nat)) (H' : Hp) : Prop where
  st : LSt H' a l c n
  g : Dq K H' (grD m rs) g
  q : H' q = some (.lst ys)
  ys : DqA K H' ((listed rs 4).map wwD) ys
  s : ∃ zs, H' sq = some (.lst zs) ∧ DqA K H' (sd.map rowD) zs
theorem LwI.same {K : PySem.W.Frag} {a l c : Addr} {n : Nat} {g : V} {m : Nat} {rs : List Ru} {q sq : Addr} {ys : List V} {sd : List (List Nat)} {H H' : Hp} (h : LwI K a l c n g m rs q sq ys sd H) (e : Same H H') : LwI K a l c n g m rs q sq ys sd H' :=
  ⟨h.st.same e, h.g.to e, e _ _ h.q, h.ys.to e, let ⟨zs, h1, h2⟩ := h.s; ⟨zs, e _ _ h1, h2.to e⟩⟩
theorem eqv_row : ∀ a b : List Nat, PyData.eqv (rowD a) (rowD b) = decide (a = b)
  | [], [] => rfl
  | [], _ :: _ => rfl
  | _ :: _, [] => rfl
  | x :: a, y :: b => by
    have ih := eqv_row a b
    show ((((x : Nat) : Int) == ((y : Nat) : Int)) && PyData.eqv (rowD a) (rowD b)) = _
    rw [ih]
    by_cases c : x = y
    · subst c; simp
    · have : ¬ ((x : Int) = (y : Int)) := by omega
      simp [c, this]
def othersOf (rs : List Ru) (u : List Nat) : List (List Nat) := ((List.range (listed rs 4).length).filter fun k => decide (counted rs.length ((listed rs 4).getD k ([], [])).1 = u)).map fun k => ((listed rs 4).getD k ([], [])).1
theorem others_mem {rs : List Ru} {u w : List Nat} : w ∈ othersOf rs u ↔ ∃ word, (w, word) ∈ listed rs 4 ∧ counted rs.length w = u := by
  unfold othersOf
  rw [List.mem_map]
  constructor
  · rintro ⟨k, hk, rfl⟩
    rw [List.mem_filter, List.mem_range] at hk
    have e : (listed rs 4).getD k ([], []) = (listed rs 4)[k] := by rw [List.getD_eq_getElem?_getD, List.getElem?_eq_getElem hk.1]; rfl
    have h2 := hk.2
    rw [e] at h2 ⊢
    exact ⟨_, List.getElem_mem hk.1, by simpa using h2⟩
  · rintro ⟨word, hm, hc⟩
    obtain ⟨k, hk, ek⟩ := List.getElem_of_mem hm
    have e : (listed rs 4).getD k ([], []) = (w, word) := by rw [List.getD_eq_getElem?_getD, List.getElem?_eq_getElem hk, ek]; rfl
    refine ⟨k, ?_, by rw [e]⟩
    rw [List.mem_filter, List.mem_range]
    exact ⟨hk, by rw [e]; simpa using hc⟩
theorem least_in {rs : List Ru} (sm' : Small rs) {r : List Nat × List Nat} (hr : r ∈ listed rs 4) {way : List Nat} (hw : Way rs [0] way) (hc : ∀ i, i < rs.length → ct way i = gOf (counted rs.length r.1) i) (hl : way.length = (counted rs.length r.1).sum) : ∃ word, (way, word) ∈ listed rs 4 ∧ counted rs.length way = counted rs.length r.1 := by
  obtain ⟨word, d⟩ := hw.der [.X 0] (.inr ⟨0, [], rfl⟩) rfl
  have h4 := (listed_s hr).2
  have hs := counted_sum r.1 rs.length
  refine ⟨word, listed_c d (by omega), ?_⟩
  refine List.ext_getElem? fun i => ?_
  unfold counted
  rw [List.getElem?_map, List.getElem?_map]
  by_cases hi : i < rs.length
  · rw [List.getElem?_range hi]
    have := hc i hi
    rw [counted_g hi] at this
    exact congrArg some this
  · rw [List.getElem?_eq_none (by simp; omega)]
    rfl
section
variable {P : Program} {w : World} {K : PySem.W.Frag} {mg : Str → Option Value} {base : Heap} {SA BG BP TG : Addr}
theorem fun_okG {x : Str} {st : Stmt} {f : Addr} {fd : FuncData} {N ps : List Str} {k : Nat} {sp : Sp} (F : Fun K x x st f fd) (S : FnScope N ps (defScope st)) (len : ∀ vs H Q E, sp vs H Q E → vs.length = ps.length)
    (hbody : ∀ (cdv : Value) (A : Around) (outer : List Env) (s : Shared) (H : Hp) (vs : List V) (Q : VK) (E : XK), A.guards = some [] → Room k (A.deeper (envOfC x (defScope st) s.heap.objs.size f cdv)) → sp vs H Q E →
      ∃ t, PSs (cxOf CX0 P w K mg base N x (defScope st) f cdv A outer s H E).nox (defBody st) t ∧ t { nx := fun _ H' => Q .non H', rt := Q } (start N vs) H) : FnOkG P w K mg base CX0 (k + 1) f fd ps sp := by
  obtain ⟨oc, od, kV, doc, pm, an, cdv, ct, osl, rfl, lk, hcd⟩ := F.ex
  exact fn_ofG lk hcd S len fun A outer s H vs Q E hg hr hsp => let ⟨t, h, q⟩ := hbody cdv A outer s H vs Q E hg hr hsp; ⟨t, h.nox, q⟩
theorem ok_law (B : Bl mg) (FB : Df P w K mg base CX0 1 "_law_begin" pr__law_begin (spBegin K)) (FG : Df P w K mg base CX0 4 "_law_grammar" pr__law_grammar (spGrammar K)) (FX : DfG P w K mg base CX0 9 "_law_refusals_right" pr__law_refusals_right (spRefRight K)) (FT : Df P w K mg base CX0 2 "_law_listed" pr__law_listed (spListed K))
    (FC : Df P w K mg base CX0 1 "_law_counted" pr__law_counted (spCounted K)) (FD : Df P w K mg base CX0 3 "_law_drawn_way" pr__law_drawn_way (spDrawnWay K)) (FW : Df P w K mg base CX0 2 "_law_whole" pr__law_whole (spWhole K)) (FR : DfG P w K mg base CX0 8 "_law_way_right" pr__law_way_right (spWayRight K)) (FZ : DfG P w K mg base CX0 9 "_law_chain_right" pr__law_chain_right (spChainRight K))
    (FL : DfG P w K mg base CX0 1 "_law_like" pr__law_like (spLike K)) (G1 : Df P w K mg base (L2.CX P w) 7 "way_with" pr_way_with (spWay K BG BP TG)) {f : Addr} {fd : FuncData} (D : Fun K "law" "law" s_law f fd) :
    FnOkG P w K mg base CX0 10 f fd pr_law (spLaw K) := by
  refine fun_okG D sc_law (fun vs H Q E h => ?_) (fun cdv A outer s H vs Q E hG hr h => ?_)
  · obtain ⟨p, is, rfl, _⟩ := h
    rfl
  · obtain ⟨p, is, rfl, hs, hl, k⟩ := h
    refine ⟨_, (pss_cons (ps_set (i := 1) sc_law.nd rfl (Or.inl rfl) (pe_f FB (hr.mono (by decide)) pass0 (pa_cons (pv 0) pa_nil))) (pss_cons (ps_for PassesOwn.never rfl (pi_range1 (by rfl) B.range (pa_cons pe_int pa_nil)) (pg_name (i := 2) sc_law.nd rfl (Or.inl rfl)) (pss_cons (ps_set (i := 3) sc_law.nd rfl (Or.inl rfl) (pe_f FG (hr.mono (by decide)) pass0 (pa_cons (pv 1) (pa_cons pe_int (pa_cons pe_int pa_nil))))) (pss_cons (ps_if (pt_not (pt_val (pe_fG FX hG (hr.mono (by decide)) pass0 (pa_cons (pv 1) (pa_cons (pv 3) pa_nil))))) (pss_one (ps_ret pe_bl)) pss_nil) (pss_cons (ps_asg (pe_tupF (pa_cons (pe_callB call_len_seq (by rfl) B.len PySem.boot_len (pa_cons (pe_ix ix_tup (pv 3) pe_int (fun _ _ => rfl)) pa_nil)) (pa_cons (pe_lst pa_nil) (pa_cons (pe_f FT (hr.mono (by decide)) pass0 (pa_cons (pv 3) (pa_cons pe_int pa_nil))) pa_nil)))) (pg_tup rfl (pgs_cons (pg_name (i := 4) sc_law.nd rfl (Or.inr rfl)) (pgs_cons (pg_name (i := 5) sc_law.nd rfl (Or.inl rfl)) (pgs_cons (pg_name (i := 6) sc_law.nd rfl (Or.inl rfl)) pgs_nil))))) (pss_cons (ps_for PassesOwn.never rfl (pi_list (pv 6)) (pg_tup rfl (pgs_cons (pg_name (i := 7) sc_law.nd rfl (Or.inl rfl)) (pgs_cons (pg_name (i := 8) sc_law.nd rfl (Or.inl rfl)) pgs_nil))) (pss_cons (ps_set (i := 9) sc_law.nd rfl (Or.inr rfl) (pe_f FC (hr.mono (by decide)) pass0 (pa_cons (pv 4) (pa_cons (pv 7) pa_nil)))) (pss_one (ps_if (PW.pt (pw_and (pt_cmpR (op_notInD (hu65 hr)) (pv 9) (pv 5) (by rfl)) (pw_and1 (pt_cmpR op_lt (pe_callB call_len_seq (by rfl) B.len PySem.boot_len (pa_cons (pv 5) pa_nil)) pe_int (nomark _))))) (pss_cons (ps_expr (pe_bm PySem.F.plainAttrs_list PySem.F.slot_list_append PySem.F.type_list_append mt_append (pv 5) (pa_cons (pv 9) pa_nil))) (pss_cons (ps_setLc (i := 10) (own := [("row", 12)]) (g := gName 12) (tt := (tTest (tOp (rEqD K) (tCa (spCounted K) E0 (tCons (tVar 4) (tCons (tOp (rIxT K) (tVar 12) (tC (V.int 0))) tNil))) (tVar 9)))) (te := tOp (rIxT K) (tVar 12) (tC (V.int 0))) rfl sc_law.nd rfl rfl (sw_true rfl rfl rfl (by decide +kernel)) (pi_list (pv 6)) (blkOk_by (own := [("row", 12)]) (N := nm_law) (sc := defScope s_law) (by decide +kernel)) (fun _ _ _ _ _ => pg_name (i := 12) sc_law.nd rfl (Or.inl rfl)) (fun _ _ _ _ _ => (pts_one (pt_cmpR (op_eqD hr.units) (pe_f FC (hr.mono (by decide)) pass0 (pa_cons (pv 4) (pa_cons (pe_ix ix_tup (pv 12) pe_int (fun _ _ => rfl)) pa_nil))) (pv 9) (nomark _)))) (fun _ _ _ _ _ => (pe_ix ix_tup (pv 12) pe_int (fun _ _ => rfl)))) (pss_one (ps_if (pt_not (pt_val (pe_fG FL hG (hr.mono (by decide)) pass0 (pa_cons (pe_fS (E := fun _ => E0) G1 (hr.mono (by decide)) (fun σ => passAt takes0 σ) (pa_cons (pv 3) (pa_cons (pv 9) pa_nil))) (pa_cons (pe_callB (cr_minR rfl (hu65 hr)) (by rfl) B.min boot_min (pa_cons (pv 10) pa_nil)) pa_nil))))) (pss_one (ps_ret pe_bl)) pss_nil)))) pss_nil)))) (pss_one (ps_for PassesOwn.never rfl (pi_range1 (by rfl) B.range (pa_cons pe_int pa_nil)) (pg_name (i := 11) sc_law.nd rfl (Or.inl rfl)) (pss_cons (ps_set (i := 7) sc_law.nd rfl (Or.inl rfl) (pe_f FD (hr.mono (by decide)) pass0 (pa_cons (pv 1) (pa_cons (pv 3) (pa_cons pe_int pa_nil))))) (pss_one (ps_if (PW.pt (pw_and (pt_val (pe_f FW (hr.mono (by decide)) pass0 (pa_cons (pv 3) (pa_cons (pv 7) pa_nil)))) (pw_and1 (pt_not (pt_val (pe_fG FR hG (hr.mono (by decide)) pass0 (pa_cons (pv 3) (pa_cons (pv 7) pa_nil)))))))) (pss_one (ps_ret pe_bl)) pss_nil)))))))))) (pss_one (ps_ret (pe_fG FZ hG (hr.mono (by decide)) pass0 (pa_cons (pv 1) pa_nil)))))), ?_⟩
    dsimp only [cxOf, Cx.nox]
    refine sq_go ⟨_, rfl, p, is, rfl, hs, hl, fun H1 a l c e1 s1 => ?_⟩
    dsimp only
    refine sq_fr ⟨2, rfl, by decide, by decide, for_it walk_range (fun i σ H' => LSt H' a l c (200 * i) ∧ ∃ v2 v3 v4 v5 v6 v7 v8 v9 v10 v11, σ = [some (V.ref p), some (.ref a), v2, v3, v4, v5, v6, v7, v8, v9, v10, v11, none]) ⟨s1, _, _, _, _, _, _, _, _, _, _, rfl⟩ (fun _ _ _ _ _ => trivial) (fun i x σ H3 H4 hi py y => ?_) (fun σ H3 py => ?_)⟩
    · obtain ⟨s3, v2, v3, v4, v5, v6, v7, v8, v9, v10, v11, rfl⟩ := py
      obtain ⟨rfl, rfl⟩ := y
      have hi2 : i < 2 := by simpa using hi
      refine sq_go ⟨_, rfl, a, l, c, _, rfl, s3, by omega, fun H5 g m rs e5 s5 o hg => ?_⟩
      refine sq_if0 ⟨_, rfl, _, rfl, a, l, c, _, g, m, rs, rfl, s5, by omega, hg, o.ok, o.l2, fun H6 e6 s6 => ⟨_, rfl, iteF ?_⟩⟩
      have hg6 := hg.st e6 s5
      obtain ⟨ga, gu, rfl, hga, hgu⟩ := gr_q hg6
      obtain ⟨ra, ws, rfl, hra, hwl, hwat, _⟩ := q_view hgu
      have ol1 := o.l1
      have ol2 := o.l2
      refine sq_as2 ⟨_, rfl, ga, _, 1, _, rfl, rfl, hga.sq, rfl, ra, ws, rfl, .inr hra.sq, by show 0 ≤ sizeLine; decide, fun sq hsq => ⟨_, rfl, .ref ga, m, rs, 4, rfl, rfl, hg6.new hsq, o.ok, o.l2, fun H7 q ys e7 nq hq hys => ⟨by show 3 ≤ sizeLine; decide, fun T oT hT hoT => ⟨T, _, rfl, (SqP.new hoT).sq, rfl, _, _, rfl, _, _, rfl, _, _, rfl, rfl, ?_⟩⟩⟩⟩
      rw [hwl]
      obtain ⟨sa, sl, sc⟩ := s6.off hsq
      have hsq7 := e7 _ _ (show (upd H6 sq (.lst [])) sq = some (.lst []) from upd_same)
      have nsq : sq ≠ q := fun z => by rw [← z, upd_same] at nq; cases nq
      have I0 : LwI K a l c (200 * i + 60 + 4) (.ref ga) m rs q sq ys [] H7 := ⟨(s6.new hsq).same e7, (hg6.new hsq).to e7, hq, hys, [], hsq7, .nil_⟩
      have I1 := I0.same (Same.new (o := .frz oT (.tup [V.int (rs.length : Nat), .ref sq, .ref q])) hT)
      generalize (upd H7 T (.frz oT (.tup [V.int (rs.length : Nat), .ref sq, .ref q]))) = H8 at I1 ⊢
      have ll := hys.len
      rw [List.length_map] at ll
      have lb : (listed rs 4).length ≤ 4 * 4 ^ 4 := (lay_len rs 4 o.l2 4).2
      refine sq_fr ⟨_, rfl, q, rfl, ⟨_, .of I1.q⟩, for_it walk_list (fun j σ H' => ∃ v7 v8 v9 v10 sd, σ = [some (V.ref p), some (.ref a), some (.int (0 + (i : Int))), some (.ref ga), some (.int (rs.length : Nat)), some (.ref sq), some (.ref q), v7, v8, v9, v10, v11, none] ∧ LwI K a l c (200 * i + 64) (.ref ga) m rs q sq ys sd H' ∧ sd.length ≤ 6) ⟨_, _, _, _, [], rfl, I1, by decide⟩ (fun j σ H' _ py => by obtain ⟨_, _, _, _, _, _, h, _⟩ := py; exact .of h.q) (fun j x σ H9 H10 hj py y => ?_) (fun σ H9 py => ?_)⟩
      · obtain ⟨v7, v8, v9, v10, sd, rfl, I, hsd⟩ := py
        obtain ⟨rfl, hx⟩ := y
        have item : ∀ (j : Nat) x, ys[j]? = some x → ∀ H', DqA K H' ((listed rs 4).map wwD) ys → ∃ r yv mv T, (listed rs 4)[j]? = some r ∧ x = .ref T ∧ SqP K H' T [yv, mv] ∧ Dq K H' (rowD r.1) yv := fun j x hx H' hd => by
          obtain ⟨d, hd1, hd2⟩ := hd.at_ hx
          rw [List.getElem?_map] at hd1
          cases er : (listed rs 4)[j]? with
          | none => rw [er] at hd1; cases hd1
          | some r0 =>
            rw [er] at hd1
            obtain rfl := Option.some.inj hd1
            obtain ⟨T, ws, rfl, hT, hws⟩ := hd2.tup_inv
            obtain ⟨yv, mv, rfl, hyv, hmv⟩ := hws.two
            exact ⟨r0, yv, mv, T, rfl, rfl, hT, hyv⟩
        obtain ⟨r, yv, mv, T1, hr0, rfl, hT1, hyv⟩ := item j x hx _ I.ys
        have hrm := List.mem_of_getElem? hr0
        have rl := (listed_s hrm).2
        have rway : Way rs [0] r.1 := (listed_s hrm).1.way
        refine ⟨T1, _, rfl, hT1.sq, rfl, _, _, rfl, _, _, rfl, rfl, ?_⟩
        refine sq_go ⟨_, rfl, _, rfl, yv, rs.length, r.1, rfl, hyv, by omega, by omega, fun H11 u1 e11 hu1 => ?_⟩
        have I2 := I.same e11
        obtain ⟨zs, hz1, hz2⟩ := I2.s
        refine ⟨_, rfl, _, rfl, _, _, hu1.dp, .lst (.of hz1) hz2.dp, (SN.row _).shaped (by decide), (SN.rows _).shaped (by decide), _, rfl, ?_⟩
        cases cn : (!((sd.map rowD).any fun z => PyData.eqv z (rowD (counted rs.length r.1)))) with
        | false => exact iteF (iteF ⟨_, _, _, _, sd, rfl, I2, hsd⟩)
        | true =>
          refine iteT ⟨_, rfl, sq, zs, rfl, .inl (.of hz1), _, _, rfl, rfl, _, rfl, ?_⟩
          have zl := hz2.len
          rw [List.length_map] at zl
          by_cases c6 : zs.length < 6
          · rw [decide_eq_true (by omega : ((zs.length : Nat) : Int) < 6)]
            refine iteT (sq_dr ⟨_, rfl, .inl ⟨rfl, _, .of hz1⟩, _, rfl, sq, zs, u1, rfl, rfl, hz1, slt (by omega), ?_⟩)
            have I3 : LwI K a l c (200 * i + 64) (.ref ga) m rs q sq ys (sd ++ [counted rs.length r.1]) (upd H11 sq (.lst (zs ++ [u1]))) :=
              ⟨I2.st.put sa sl sc, I2.g.lst hz1, by rw [upd_ne (Ne.symm nsq)]; exact I2.q, I2.ys.lst hz1, _, upd_same, by rw [List.map_append]; exact (hz2.lst hz1).app (.one_ (hu1.lst hz1))⟩
            have hu3 := hu1.lst (o := .lst (zs ++ [u1])) hz1
            generalize (upd H11 sq (.lst (zs ++ [u1]))) = H12 at I3 hu3 ⊢
            generalize hue : counted rs.length r.1 = u at I3 hu3
            have hul : u.length = rs.length := by rw [← hue]; exact counted_len ..
            refine sq_go ⟨_, rfl, q, rfl, ⟨_, .of I3.q⟩, fun D hD => lcF (walk_list (K := K) (a := q) (xs := ys)) hD (by rw [ll]; exact slt (by omega)) (fun k => decide (counted rs.length ((listed rs 4).getD k ([], [])).1 = u)) (fun k y H => Dq K H (rowD ((listed rs 4).getD k ([], [])).1) y) (fun i y H H' e n q => q.sbt e n n) (fun H1 e => .of (e _ _ I3.q)) (fun k2 x H13 H14 Q1 Q0 hk e y q1 q0 => ?_) (fun H13 ys2 e hD1 gg => ?_)⟩
            · obtain ⟨rfl, hx2⟩ := y
              obtain ⟨r2, yv2, mv2, T2, hr2, rfl, hT2, hyv2⟩ := item k2 x hx2 _ (I3.ys.to e)
              have er2 : (listed rs 4).getD k2 ([], []) = r2 := by rw [List.getD_eq_getElem?_getD, hr2]; rfl
              rw [er2] at q1 q0
              have rl2 := (listed_s (List.mem_of_getElem? hr2)).2
              refine ⟨rfl, _, rfl, _, rfl, T2, _, 0, _, rfl, rfl, hT2.sq, rfl, yv2, rs.length, r2.1, rfl, hyv2, by omega, by omega, fun H15 v e15 hv => ⟨_, rfl, _, _, hv.dp, ((hu3.to e).to e15).dp, (SN.row _).shaped (by decide), (SN.row _).shaped (by decide), _, rfl, ?_⟩⟩
              rw [eqv_row]
              by_cases cz : counted rs.length r2.1 = u
              · rw [decide_eq_true cz]
                exact iteT ⟨_, rfl, T2, _, 0, _, rfl, rfl, (hT2.same e15).sq, rfl, q1 (decide_eq_true cz) _ _ (hyv2.to e15) e15⟩
              · rw [decide_eq_false cz]
                exact iteF (q0 (decide_eq_false cz) _ e15)
            · have I4 := I3.same e
              have hu4 := hu3.to e
              have hoth : DqA K H13 ((othersOf rs u).map rowD) ys2 := by
                unfold othersOf
                have gl := gg.len
                rw [ll] at gl
                refine DqA.of_all (by rw [gl, List.length_map, List.length_map]) fun j2 y d h1 h2 => ?_
                rw [List.map_map, List.getElem?_map] at h2
                cases e3 : ((List.range (listed rs 4).length).filter fun k => decide (counted rs.length ((listed rs 4).getD k ([], [])).1 = u))[j2]? with
                | none => rw [e3] at h2; cases h2
                | some k3 =>
                  rw [e3] at h2
                  obtain rfl := Option.some.inj h2
                  exact gg.at_ j2 k3 y h1 (by rw [ll]; exact e3)
              have lst := lst_way rway
              rw [hue] at lst
              obtain ⟨w0, w1, w2, w3, w4, w5⟩ := least_ok o.ok.small u.sum u [0] lst rfl
              have use := use_way o.ok.small rway
              rw [hue] at use
              have cs := counted_sum r.1 rs.length
              rw [hue] at cs
              obtain ⟨word, hin, hcin⟩ := least_in o.ok.small hrm w2 (by rw [hue]; exact w3) (by rw [hue]; exact w4)
              rw [hue] at hcin
              have m0 : w0 ∈ othersOf rs u := others_mem.mpr ⟨word, hin, hcin⟩
              have mall : ∀ y ∈ othersOf rs u, rlt y w0 = false := fun y hy => by
                obtain ⟨word2, h1, h2⟩ := others_mem.mp hy
                refine w5 y (listed_s h1).1.way fun i2 hi2 => ?_
                rw [← h2, counted_g hi2]
              cases eo : othersOf rs u with
              | nil => rw [eo] at m0; cases m0
              | cons o0 os =>
                rw [eo] at hoth m0 mall
                have emin := minR_is os o0 m0 mall
                have wl := way_lt w2
                refine ⟨_, rfl, _, rfl, way_call (X := E0) I4.g hu4 o.ok hul (by omega) use w1 fun H15 x e15 hx => ⟨_, rfl, D, ys2, o0, os, rfl, .of (e15 _ _ hD1), (hoth.to e15).dp, fun v hv => ?_⟩⟩
                rw [emin] at hv
                refine ⟨x, v, rowD w0, 100, 1, rfl, hx.dp, hv, Sm.ints (fun z hz => ?_) (by omega), by decide, by decide, _, rfl, iteF ⟨_, _, _, _, _, rfl, I4.same e15, by rw [List.length_append, List.length_singleton]; omega⟩⟩
                have h0 : (8 : Nat) < 10 ^ 60 := by decide
                have := wl z hz
                omega
          · rw [decide_eq_false (by omega : ¬ ((zs.length : Nat) : Int) < 6)]
            exact iteF ⟨_, _, _, _, sd, rfl, I2, hsd⟩
      · obtain ⟨v7, v8, v9, v10, sd, rfl, I, hsd⟩ := py
        dsimp only
        refine ⟨3, rfl, by decide, by decide, for_it walk_range (fun j σ H' => LSt H' a l c (200 * i + 64 + 30 * j) ∧ Dq K H' (grD m rs) (.ref ga) ∧ ∃ v7 v11, σ = [some (V.ref p), some (.ref a), some (.int (0 + (i : Int))), some (.ref ga), some (.int (rs.length : Nat)), some (.ref sq), some (.ref q), v7, v8, v9, v10, v11, none]) ⟨I.st, I.g, _, _, rfl⟩ (fun _ _ _ _ _ => trivial) (fun j x σ H10 H11 hj py y => ?_) (fun σ H10 py => ?_)⟩
        · obtain ⟨t10, g10, v7, v11, rfl⟩ := py
          obtain ⟨rfl, rfl⟩ := y
          have hj3 : j < 3 := by simpa using hj
          refine sq_go ⟨_, rfl, _, rfl, a, l, c, _, 14, .ref ga, m, rs, rfl, t10, by omega, by decide, g10, o.ok, fun H12 wv way e12 s12 hw hwl hwn => ?_⟩
          have g12 := g10.st e12 t10
          refine ⟨_, rfl, _, rfl, .ref ga, wv, m, rs, way, rfl, g12, o.ok, hw, by omega, hwn, fun H13 e13 => ⟨_, rfl, ?_⟩⟩
          cases cw : whole rs [.X 0] way with
          | false => exact iteF (iteF ⟨(s12.same e13).mono (by omega), g12.to e13, _, _, rfl⟩)
          | true => exact iteT ⟨_, rfl, _, rfl, .ref ga, wv, m, rs, way, rfl, g12.to e13, o.ok, hw.to e13, by omega, whole_way (.inr ⟨0, [], rfl⟩) cw, fun H14 e14 => ⟨_, rfl, iteF ⟨((s12.same e13).same e14).mono (by omega), (g12.to e13).to e14, _, _, rfl⟩⟩⟩
        · obtain ⟨t10, g10, v7, v11, rfl⟩ := py
          exact ⟨t10.mono (by omega), _, _, _, _, _, _, _, _, _, _, rfl⟩
    · obtain ⟨s3, v2, v3, v4, v5, v6, v7, v8, v9, v10, v11, rfl⟩ := py
      exact ⟨_, rfl, a, l, c, _, rfl, s3, by decide, k⟩
end
end Ws
/-! ## E46z -/
namespace Ws
open PySem PySem.Spec PyProof.Rows L2
theorem hb_is_integer (kV doc pm : Value) (an : Option Addr) (cdv ct : Value) (us : List Value) (hl : us.length = pr_is_integer.length) : bindArgs (PySem.W.fnOf "is_integer" "is_integer" (defArgs s_is_integer) (defBody s_is_integer) (defScope s_is_integer) .none kV doc pm an cdv ct) ⟨us, []⟩ = pure (pr_is_integer.zip us) :=
  match us, hl with
  | [_], _ => rfl
theorem hb_is_between (kV doc pm : Value) (an : Option Addr) (cdv ct : Value) (us : List Value) (hl : us.length = pr_is_between.length) : bindArgs (PySem.W.fnOf "is_between" "is_between" (defArgs s_is_between) (defBody s_is_between) (defScope s_is_between) .none kV doc pm an cdv ct) ⟨us, []⟩ = pure (pr_is_between.zip us) :=
  match us, hl with
  | [_, _, _], _ => rfl
theorem hb_is_tuple_of (kV doc pm : Value) (an : Option Addr) (cdv ct : Value) (us : List Value) (hl : us.length = pr_is_tuple_of.length) : bindArgs (PySem.W.fnOf "is_tuple_of" "is_tuple_of" (defArgs s_is_tuple_of) (defBody s_is_tuple_of) (defScope s_is_tuple_of) .none kV doc pm an cdv ct) ⟨us, []⟩ = pure (pr_is_tuple_of.zip us) :=
  match us, hl with
  | [_, _], _ => rfl
theorem hb_is_item (kV doc pm : Value) (an : Option Addr) (cdv ct : Value) (us : List Value) (hl : us.length = pr_is_item.length) : bindArgs (PySem.W.fnOf "is_item" "is_item" (defArgs s_is_item) (defBody s_is_item) (defScope s_is_item) .none kV doc pm an cdv ct) ⟨us, []⟩ = pure (pr_is_item.zip us) :=
  match us, hl with
  | [_, _], _ => rfl
theorem hb_is_rule (kV doc pm : Value) (an : Option Addr) (cdv ct : Value) (us : List Value) (hl : us.length = pr_is_rule.length) : bindArgs (PySem.W.fnOf "is_rule" "is_rule" (defArgs s_is_rule) (defBody s_is_rule) (defScope s_is_rule) .none kV doc pm an cdv ct) ⟨us, []⟩ = pure (pr_is_rule.zip us) :=
  match us, hl with
  | [_, _], _ => rfl
theorem hb_need_grammar (kV doc pm : Value) (an : Option Addr) (cdv ct : Value) (us : List Value) (hl : us.length = pr_need_grammar.length) : bindArgs (PySem.W.fnOf "need_grammar" "need_grammar" (defArgs s_need_grammar) (defBody s_need_grammar) (defScope s_need_grammar) .none kV doc pm an cdv ct) ⟨us, []⟩ = pure (pr_need_grammar.zip us) :=
  match us, hl with
  | [_], _ => rfl
theorem hb_variables_of (kV doc pm : Value) (an : Option Addr) (cdv ct : Value) (us : List Value) (hl : us.length = pr_variables_of.length) : bindArgs (PySem.W.fnOf "variables_of" "variables_of" (defArgs s_variables_of) (defBody s_variables_of) (defScope s_variables_of) .none kV doc pm an cdv ct) ⟨us, []⟩ = pure (pr_variables_of.zip us) :=
  match us, hl with
  | [_], _ => rfl
theorem hb_are_uses (kV doc pm : Value) (an : Option Addr) (cdv ct : Value) (us : List Value) (hl : us.length = pr_are_uses.length) : bindArgs (PySem.W.fnOf "are_uses" "are_uses" (defArgs s_are_uses) (defBody s_are_uses) (defScope s_are_uses) .none kV doc pm an cdv ct) ⟨us, []⟩ = pure (pr_are_uses.zip us) :=
  match us, hl with
  | [_, _], _ => rfl
theorem hb_are_balanced (kV doc pm : Value) (an : Option Addr) (cdv ct : Value) (us : List Value) (hl : us.length = pr_are_balanced.length) : bindArgs (PySem.W.fnOf "are_balanced" "are_balanced" (defArgs s_are_balanced) (defBody s_are_balanced) (defScope s_are_balanced) .none kV doc pm an cdv ct) ⟨us, []⟩ = pure (pr_are_balanced.zip us) :=
  match us, hl with
  | [_, _], _ => rfl
theorem hb_are_connected (kV doc pm : Value) (an : Option Addr) (cdv ct : Value) (us : List Value) (hl : us.length = pr_are_connected.length) : bindArgs (PySem.W.fnOf "are_connected" "are_connected" (defArgs s_are_connected) (defBody s_are_connected) (defScope s_are_connected) .none kV doc pm an cdv ct) ⟨us, []⟩ = pure (pr_are_connected.zip us) :=
  match us, hl with
  | [_, _, _], _ => rfl
theorem hb_is_uses (kV doc pm : Value) (an : Option Addr) (cdv ct : Value) (us : List Value) (hl : us.length = pr_is_uses.length) : bindArgs (PySem.W.fnOf "is_uses" "is_uses" (defArgs s_is_uses) (defBody s_is_uses) (defScope s_is_uses) .none kV doc pm an cdv ct) ⟨us, []⟩ = pure (pr_is_uses.zip us) :=
  match us, hl with
  | [_, _], _ => rfl
theorem hb_way_with (kV doc pm : Value) (an : Option Addr) (cdv ct : Value) (us : List Value) (hl : us.length = pr_way_with.length) : bindArgs (PySem.W.fnOf "way_with" "way_with" (defArgs s_way_with) (defBody s_way_with) (defScope s_way_with) .none kV doc pm an cdv ct) ⟨us, []⟩ = pure (pr_way_with.zip us) :=
  match us, hl with
  | [_, _], _ => rfl
theorem hb_next_rule (kV doc pm : Value) (an : Option Addr) (cdv ct : Value) (us : List Value) (hl : us.length = pr_next_rule.length) : bindArgs (PySem.W.fnOf "next_rule" "next_rule" (defArgs s_next_rule) (defBody s_next_rule) (defScope s_next_rule) .none kV doc pm an cdv ct) ⟨us, []⟩ = pure (pr_next_rule.zip us) :=
  match us, hl with
  | [_, _, _], _ => rfl
theorem hb__law_mixed (kV doc pm : Value) (an : Option Addr) (cdv ct : Value) (us : List Value) (hl : us.length = pr__law_mixed.length) : bindArgs (PySem.W.fnOf "_law_mixed" "_law_mixed" (defArgs s__law_mixed) (defBody s__law_mixed) (defScope s__law_mixed) .none kV doc pm an cdv ct) ⟨us, []⟩ = pure (pr__law_mixed.zip us) :=
  match us, hl with
  | [_, _], _ => rfl
theorem hb__law_begin (kV doc pm : Value) (an : Option Addr) (cdv ct : Value) (us : List Value) (hl : us.length = pr__law_begin.length) : bindArgs (PySem.W.fnOf "_law_begin" "_law_begin" (defArgs s__law_begin) (defBody s__law_begin) (defScope s__law_begin) .none kV doc pm an cdv ct) ⟨us, []⟩ = pure (pr__law_begin.zip us) :=
  match us, hl with
  | [_], _ => rfl
theorem hb__law_draw (kV doc pm : Value) (an : Option Addr) (cdv ct : Value) (us : List Value) (hl : us.length = pr__law_draw.length) : bindArgs (PySem.W.fnOf "_law_draw" "_law_draw" (defArgs s__law_draw) (defBody s__law_draw) (defScope s__law_draw) .none kV doc pm an cdv ct) ⟨us, []⟩ = pure (pr__law_draw.zip us) :=
  match us, hl with
  | [_, _], _ => rfl
theorem hb__law_like (kV doc pm : Value) (an : Option Addr) (cdv ct : Value) (us : List Value) (hl : us.length = pr__law_like.length) : bindArgs (PySem.W.fnOf "_law_like" "_law_like" (defArgs s__law_like) (defBody s__law_like) (defScope s__law_like) .none kV doc pm an cdv ct) ⟨us, []⟩ = pure (pr__law_like.zip us) :=
  match us, hl with
  | [_, _], _ => rfl
theorem hb__law_item (kV doc pm : Value) (an : Option Addr) (cdv ct : Value) (us : List Value) (hl : us.length = pr__law_item.length) : bindArgs (PySem.W.fnOf "_law_item" "_law_item" (defArgs s__law_item) (defBody s__law_item) (defScope s__law_item) .none kV doc pm an cdv ct) ⟨us, []⟩ = pure (pr__law_item.zip us) :=
  match us, hl with
  | [_, _], _ => rfl
theorem hb__law_grammar (kV doc pm : Value) (an : Option Addr) (cdv ct : Value) (us : List Value) (hl : us.length = pr__law_grammar.length) : bindArgs (PySem.W.fnOf "_law_grammar" "_law_grammar" (defArgs s__law_grammar) (defBody s__law_grammar) (defScope s__law_grammar) .none kV doc pm an cdv ct) ⟨us, []⟩ = pure (pr__law_grammar.zip us) :=
  match us, hl with
  | [_, _, _], _ => rfl
theorem hb__law_settled (kV doc pm : Value) (an : Option Addr) (cdv ct : Value) (us : List Value) (hl : us.length = pr__law_settled.length) : bindArgs (PySem.W.fnOf "_law_settled" "_law_settled" (defArgs s__law_settled) (defBody s__law_settled) (defScope s__law_settled) .none kV doc pm an cdv ct) ⟨us, []⟩ = pure (pr__law_settled.zip us) :=
  match us, hl with
  | [_, _], _ => rfl
theorem hb__law_put (kV doc pm : Value) (an : Option Addr) (cdv ct : Value) (us : List Value) (hl : us.length = pr__law_put.length) : bindArgs (PySem.W.fnOf "_law_put" "_law_put" (defArgs s__law_put) (defBody s__law_put) (defScope s__law_put) .none kV doc pm an cdv ct) ⟨us, []⟩ = pure (pr__law_put.zip us) :=
  match us, hl with
  | [_, _, _], _ => rfl
theorem hb__law_drawn_way (kV doc pm : Value) (an : Option Addr) (cdv ct : Value) (us : List Value) (hl : us.length = pr__law_drawn_way.length) : bindArgs (PySem.W.fnOf "_law_drawn_way" "_law_drawn_way" (defArgs s__law_drawn_way) (defBody s__law_drawn_way) (defScope s__law_drawn_way) .none kV doc pm an cdv ct) ⟨us, []⟩ = pure (pr__law_drawn_way.zip us) :=
  match us, hl with
  | [_, _, _], _ => rfl
theorem hb__law_shortest (kV doc pm : Value) (an : Option Addr) (cdv ct : Value) (us : List Value) (hl : us.length = pr__law_shortest.length) : bindArgs (PySem.W.fnOf "_law_shortest" "_law_shortest" (defArgs s__law_shortest) (defBody s__law_shortest) (defScope s__law_shortest) .none kV doc pm an cdv ct) ⟨us, []⟩ = pure (pr__law_shortest.zip us) :=
  match us, hl with
  | [_], _ => rfl
theorem hb__law_listed (kV doc pm : Value) (an : Option Addr) (cdv ct : Value) (us : List Value) (hl : us.length = pr__law_listed.length) : bindArgs (PySem.W.fnOf "_law_listed" "_law_listed" (defArgs s__law_listed) (defBody s__law_listed) (defScope s__law_listed) .none kV doc pm an cdv ct) ⟨us, []⟩ = pure (pr__law_listed.zip us) :=
  match us, hl with
  | [_, _], _ => rfl
theorem hb__law_counted (kV doc pm : Value) (an : Option Addr) (cdv ct : Value) (us : List Value) (hl : us.length = pr__law_counted.length) : bindArgs (PySem.W.fnOf "_law_counted" "_law_counted" (defArgs s__law_counted) (defBody s__law_counted) (defScope s__law_counted) .none kV doc pm an cdv ct) ⟨us, []⟩ = pure (pr__law_counted.zip us) :=
  match us, hl with
  | [_, _], _ => rfl
theorem hb__law_balanced (kV doc pm : Value) (an : Option Addr) (cdv ct : Value) (us : List Value) (hl : us.length = pr__law_balanced.length) : bindArgs (PySem.W.fnOf "_law_balanced" "_law_balanced" (defArgs s__law_balanced) (defBody s__law_balanced) (defScope s__law_balanced) .none kV doc pm an cdv ct) ⟨us, []⟩ = pure (pr__law_balanced.zip us) :=
  match us, hl with
  | [_, _], _ => rfl
theorem hb__law_met (kV doc pm : Value) (an : Option Addr) (cdv ct : Value) (us : List Value) (hl : us.length = pr__law_met.length) : bindArgs (PySem.W.fnOf "_law_met" "_law_met" (defArgs s__law_met) (defBody s__law_met) (defScope s__law_met) .none kV doc pm an cdv ct) ⟨us, []⟩ = pure (pr__law_met.zip us) :=
  match us, hl with
  | [_, _, _], _ => rfl
theorem hb__law_linked (kV doc pm : Value) (an : Option Addr) (cdv ct : Value) (us : List Value) (hl : us.length = pr__law_linked.length) : bindArgs (PySem.W.fnOf "_law_linked" "_law_linked" (defArgs s__law_linked) (defBody s__law_linked) (defScope s__law_linked) .none kV doc pm an cdv ct) ⟨us, []⟩ = pure (pr__law_linked.zip us) :=
  match us, hl with
  | [_, _, _], _ => rfl
theorem hb__law_less (kV doc pm : Value) (an : Option Addr) (cdv ct : Value) (us : List Value) (hl : us.length = pr__law_less.length) : bindArgs (PySem.W.fnOf "_law_less" "_law_less" (defArgs s__law_less) (defBody s__law_less) (defScope s__law_less) .none kV doc pm an cdv ct) ⟨us, []⟩ = pure (pr__law_less.zip us) :=
  match us, hl with
  | [_, _], _ => rfl
theorem hb__law_least (kV doc pm : Value) (an : Option Addr) (cdv ct : Value) (us : List Value) (hl : us.length = pr__law_least.length) : bindArgs (PySem.W.fnOf "_law_least" "_law_least" (defArgs s__law_least) (defBody s__law_least) (defScope s__law_least) .none kV doc pm an cdv ct) ⟨us, []⟩ = pure (pr__law_least.zip us) :=
  match us, hl with
  | [_, _], _ => rfl
theorem hb__law_whole (kV doc pm : Value) (an : Option Addr) (cdv ct : Value) (us : List Value) (hl : us.length = pr__law_whole.length) : bindArgs (PySem.W.fnOf "_law_whole" "_law_whole" (defArgs s__law_whole) (defBody s__law_whole) (defScope s__law_whole) .none kV doc pm an cdv ct) ⟨us, []⟩ = pure (pr__law_whole.zip us) :=
  match us, hl with
  | [_, _], _ => rfl
theorem hb__law_refusal (kV doc pm : Value) (an : Option Addr) (cdv ct : Value) (us : List Value) (hl : us.length = pr__law_refusal.length) : bindArgs (PySem.W.fnOf "_law_refusal" "_law_refusal" (defArgs s__law_refusal) (defBody s__law_refusal) (defScope s__law_refusal) .none kV doc pm an cdv ct) ⟨us, []⟩ = pure (pr__law_refusal.zip us) :=
  match us, hl with
  | [_, _], _ => rfl
theorem hb__law_refusals_right (kV doc pm : Value) (an : Option Addr) (cdv ct : Value) (us : List Value) (hl : us.length = pr__law_refusals_right.length) : bindArgs (PySem.W.fnOf "_law_refusals_right" "_law_refusals_right" (defArgs s__law_refusals_right) (defBody s__law_refusals_right) (defScope s__law_refusals_right) .none kV doc pm an cdv ct) ⟨us, []⟩ = pure (pr__law_refusals_right.zip us) :=
  match us, hl with
  | [_, _], _ => rfl
theorem hb__law_chain (kV doc pm : Value) (an : Option Addr) (cdv ct : Value) (us : List Value) (hl : us.length = pr__law_chain.length) : bindArgs (PySem.W.fnOf "_law_chain" "_law_chain" (defArgs s__law_chain) (defBody s__law_chain) (defScope s__law_chain) .none kV doc pm an cdv ct) ⟨us, []⟩ = pure (pr__law_chain.zip us) :=
  match us, hl with
  | [_], _ => rfl
theorem hb__law_way_right (kV doc pm : Value) (an : Option Addr) (cdv ct : Value) (us : List Value) (hl : us.length = pr__law_way_right.length) : bindArgs (PySem.W.fnOf "_law_way_right" "_law_way_right" (defArgs s__law_way_right) (defBody s__law_way_right) (defScope s__law_way_right) .none kV doc pm an cdv ct) ⟨us, []⟩ = pure (pr__law_way_right.zip us) :=
  match us, hl with
  | [_, _], _ => rfl
theorem hb__law_chain_right (kV doc pm : Value) (an : Option Addr) (cdv ct : Value) (us : List Value) (hl : us.length = pr__law_chain_right.length) : bindArgs (PySem.W.fnOf "_law_chain_right" "_law_chain_right" (defArgs s__law_chain_right) (defBody s__law_chain_right) (defScope s__law_chain_right) .none kV doc pm an cdv ct) ⟨us, []⟩ = pure (pr__law_chain_right.zip us) :=
  match us, hl with
  | [_], _ => rfl
theorem hb_law (kV doc pm : Value) (an : Option Addr) (cdv ct : Value) (us : List Value) (hl : us.length = pr_law.length) : bindArgs (PySem.W.fnOf "law" "law" (defArgs s_law) (defBody s_law) (defScope s_law) .none kV doc pm an cdv ct) ⟨us, []⟩ = pure (pr_law.zip us) :=
  match us, hl with
  | [_], _ => rfl
abbrev s_BG : Stmt := inClass (top 2) 0
theorem sc_BG : FnScope ["self", "place"] ["self", "place"] (defScope s_BG) := ⟨rfl, rfl, rfl, by decide +kernel, rfl, by decide +kernel, by decide +kernel⟩
theorem hb_BG (kV doc pm : Value) (an : Option Addr) (cdv ct : Value) (us : List Value) (hl : us.length = (["self", "place"] : List Str).length) : bindArgs (PySem.W.fnOf "__init__" "BadGrammar.__init__" (defArgs s_BG) (defBody s_BG) (defScope s_BG) .none kV doc pm an cdv ct) ⟨us, []⟩ = pure ((["self", "place"] : List Str).zip us) :=
  match us, hl with
  | [_, _], _ => rfl
abbrev s_BP : Stmt := inClass (top 3) 0
theorem sc_BP : FnScope ["self", "word"] ["self", "word"] (defScope s_BP) := ⟨rfl, rfl, rfl, by decide +kernel, rfl, by decide +kernel, by decide +kernel⟩
theorem hb_BP (kV doc pm : Value) (an : Option Addr) (cdv ct : Value) (us : List Value) (hl : us.length = (["self", "word"] : List Str).length) : bindArgs (PySem.W.fnOf "__init__" "BadPaper.__init__" (defArgs s_BP) (defBody s_BP) (defScope s_BP) .none kV doc pm an cdv ct) ⟨us, []⟩ = pure ((["self", "word"] : List Str).zip us) :=
  match us, hl with
  | [_, _], _ => rfl
abbrev s_TG : Stmt := inClass (top 4) 0
theorem sc_TG : FnScope ["self", "most"] ["self", "most"] (defScope s_TG) := ⟨rfl, rfl, rfl, by decide +kernel, rfl, by decide +kernel, by decide +kernel⟩
theorem hb_TG (kV doc pm : Value) (an : Option Addr) (cdv ct : Value) (us : List Value) (hl : us.length = (["self", "most"] : List Str).length) : bindArgs (PySem.W.fnOf "__init__" "TooGreat.__init__" (defArgs s_TG) (defBody s_TG) (defScope s_TG) .none kV doc pm an cdv ct) ⟨us, []⟩ = pure ((["self", "most"] : List Str).zip us) :=
  match us, hl with
  | [_, _], _ => rfl
section
variable {P : Program} {w : World} {K : PySem.W.Frag} {mg : Str → Option Value} {base : Heap} {SA BG BP TG : Addr}
theorem ok_BG {fI : Addr} {fd : FuncData} (T : ErT K mg "BadGrammar" "place" "BadGrammar.__init__" s_BG BG fI fd) : ErC P w K mg base "BadGrammar" "place" BG := T.ok sc_BG fun cdv A outer s H E => pss_one (ps_ost (pv 0) (pv 1))
theorem ok_BP {fI : Addr} {fd : FuncData} (T : ErT K mg "BadPaper" "word" "BadPaper.__init__" s_BP BP fI fd) : ErC P w K mg base "BadPaper" "word" BP := T.ok sc_BP fun cdv A outer s H E => pss_one (ps_ost (pv 0) (pv 1))
theorem ok_TG {fI : Addr} {fd : FuncData} (T : ErT K mg "TooGreat" "most" "TooGreat.__init__" s_TG TG fI fd) : ErC P w K mg base "TooGreat" "most" TG := T.ok sc_TG fun cdv A outer s H E => pss_one (ps_ost (pv 0) (pv 1))
structure DAll (K : PySem.W.Frag) (mg : Str → Option Value) : Prop where
  is_integer : Dt K mg "is_integer" s_is_integer pr_is_integer
  is_between : Dt K mg "is_between" s_is_between pr_is_between
  is_tuple_of : Dt K mg "is_tuple_of" s_is_tuple_of pr_is_tuple_of
  is_item : Dt K mg "is_item" s_is_item pr_is_item
  is_rule : Dt K mg "is_rule" s_is_rule pr_is_rule
  need_grammar : Dt K mg "need_grammar" s_need_grammar pr_need_grammar
  variables_of : Dt K mg "variables_of" s_variables_of pr_variables_of
  are_uses : Dt K mg "are_uses" s_are_uses pr_are_uses
  are_balanced : Dt K mg "are_balanced" s_are_balanced pr_are_balanced
  are_connected : Dt K mg "are_connected" s_are_connected pr_are_connected
  is_uses : Dt K mg "is_uses" s_is_uses pr_is_uses
  way_with : Dt K mg "way_with" s_way_with pr_way_with
  next_rule : Dt K mg "next_rule" s_next_rule pr_next_rule
  _law_mixed : Dt K mg "_law_mixed" s__law_mixed pr__law_mixed
  _law_begin : Dt K mg "_law_begin" s__law_begin pr__law_begin
  _law_draw : Dt K mg "_law_draw" s__law_draw pr__law_draw
  _law_like : Dt K mg "_law_like" s__law_like pr__law_like
  _law_item : Dt K mg "_law_item" s__law_item pr__law_item
  _law_grammar : Dt K mg "_law_grammar" s__law_grammar pr__law_grammar
  _law_settled : Dt K mg "_law_settled" s__law_settled pr__law_settled
  _law_put : Dt K mg "_law_put" s__law_put pr__law_put
  _law_drawn_way : Dt K mg "_law_drawn_way" s__law_drawn_way pr__law_drawn_way
  _law_shortest : Dt K mg "_law_shortest" s__law_shortest pr__law_shortest
  _law_listed : Dt K mg "_law_listed" s__law_listed pr__law_listed
  _law_counted : Dt K mg "_law_counted" s__law_counted pr__law_counted
  _law_balanced : Dt K mg "_law_balanced" s__law_balanced pr__law_balanced
  _law_met : Dt K mg "_law_met" s__law_met pr__law_met
  _law_linked : Dt K mg "_law_linked" s__law_linked pr__law_linked
  _law_less : Dt K mg "_law_less" s__law_less pr__law_less
  _law_least : Dt K mg "_law_least" s__law_least pr__law_least
  _law_whole : Dt K mg "_law_whole" s__law_whole pr__law_whole
  _law_refusal : Dt K mg "_law_refusal" s__law_refusal pr__law_refusal
  _law_refusals_right : Dt K mg "_law_refusals_right" s__law_refusals_right pr__law_refusals_right
  _law_chain : Dt K mg "_law_chain" s__law_chain pr__law_chain
  _law_way_right : Dt K mg "_law_way_right" s__law_way_right pr__law_way_right
  _law_chain_right : Dt K mg "_law_chain_right" s__law_chain_right pr__law_chain_right
theorem all_ok (B : Bl mg) (C : CsG mg) (C2 : CsW mg) (T : ErW P w K mg base BG BP TG) (X : ExW K mg SA BG BP TG) (D : DAll K mg) {f : Addr} {fd : FuncData} (F : Fun K "law" "law" s_law f fd) : FnOkG P w K mg base CX0 10 f fd pr_law (spLaw K) := by
  have T2 : ErG P w K mg base BG BP := ⟨T.BadGrammar, T.BadPaper⟩
  have is_integer : Df P w K mg base CX0 1 "is_integer" pr_is_integer (spIsInteger K) := ok_is_integer B D.is_integer
  have is_between : Df P w K mg base CX0 2 "is_between" pr_is_between (spIsBetween K) := ok_is_between B is_integer D.is_between
  have is_tuple_of : Df P w K mg base CX0 1 "is_tuple_of" pr_is_tuple_of (spIsTupleOf K) := ok_is_tuple_of B D.is_tuple_of
  have is_item : Df P w K mg base CX0 3 "is_item" pr_is_item (spIsItem K) := ok_is_item B C is_between is_tuple_of D.is_item
  have is_rule : Df P w K mg base CX0 4 "is_rule" pr_is_rule (spIsRule K) := ok_is_rule B C is_between is_tuple_of is_item D.is_rule
  have need_gr : Df P w K mg base (L2.CX P w) 5 "need_grammar" pr_need_grammar (spNeedGr K BG) := ok_need_gr B C T2 is_between is_tuple_of is_rule D.need_grammar
  have vars : Df P w K mg base CX0 1 "variables_of" pr_variables_of (spVars K) := ok_vars B D.variables_of
  have are_uses : Df P w K mg base CX0 2 "are_uses" pr_are_uses (spAreUses K) := ok_are_uses B is_integer is_tuple_of D.are_uses
  have bal : Df P w K mg base CX0 2 "are_balanced" pr_are_balanced (spBal K) := ok_bal B vars D.are_balanced
  have con : Df P w K mg base CX0 2 "are_connected" pr_are_connected (spCon K) := ok_con B vars D.are_connected
  have is_uses : Df P w K mg base (L2.CX P w) 6 "is_uses" pr_is_uses (spIsUses K BG) := ok_is_uses need_gr are_uses bal con D.is_uses
  have next : Df P w K mg base CX0 3 "next_rule" pr_next_rule (spNext K) := ok_next B vars con D.next_rule
  have way : Df P w K mg base (L2.CX P w) 7 "way_with" pr_way_with (spWay K BG BP TG) := ok_way B C2 T need_gr is_uses next vars D.way_with
  have mixed : Df P w K mg base CX0 1 "_law_mixed" pr__law_mixed spMixed := ok_mixed B D._law_mixed
  have draw : Df P w K mg base CX0 2 "_law_draw" pr__law_draw spDrawW := ok_draw B mixed D._law_draw
  have like : DfG P w K mg base CX0 1 "_law_like" pr__law_like (spLike K) := ok_like B D._law_like
  have begin_ : Df P w K mg base CX0 1 "_law_begin" pr__law_begin (spBegin K) := ok_begin B D._law_begin
  have item : Df P w K mg base CX0 3 "_law_item" pr__law_item (spItem K) := ok_item draw D._law_item
  have grammar : Df P w K mg base CX0 4 "_law_grammar" pr__law_grammar (spGrammar K) := ok_grammar B draw item D._law_grammar
  have settled : Df P w K mg base CX0 1 "_law_settled" pr__law_settled (spSettled K) := ok_settled B D._law_settled
  have put_ : Df P w K mg base CX0 1 "_law_put" pr__law_put (spPut K) := ok_put B D._law_put
  have shortest : Df P w K mg base CX0 1 "_law_shortest" pr__law_shortest (spShortest K) := ok_shortest B D._law_shortest
  have listed_ : Df P w K mg base CX0 2 "_law_listed" pr__law_listed (spListed K) := ok_listed B put_ shortest settled D._law_listed
  have counted_ : Df P w K mg base CX0 1 "_law_counted" pr__law_counted (spCounted K) := ok_counted B D._law_counted
  have balL : Df P w K mg base CX0 1 "_law_balanced" pr__law_balanced (spBalL K) := ok_balL B D._law_balanced
  have met_ : Df P w K mg base CX0 1 "_law_met" pr__law_met (spMet K) := ok_met B D._law_met
  have linked : Df P w K mg base CX0 2 "_law_linked" pr__law_linked (spLinked K) := ok_linked B met_ D._law_linked
  have less : Df P w K mg base CX0 1 "_law_less" pr__law_less (spLess K) := ok_less B D._law_less
  have whole_ : Df P w K mg base CX0 2 "_law_whole" pr__law_whole (spWhole K) := ok_whole B put_ settled D._law_whole
  have drawn_way : Df P w K mg base CX0 3 "_law_drawn_way" pr__law_drawn_way (spDrawnWay K) := ok_drawn_way B draw put_ settled D._law_drawn_way
  have least_ : Df P w K mg base CX0 3 "_law_least" pr__law_least (spLeast K) := ok_least B put_ settled less linked D._law_least
  have refusal : Df P w K mg base CX0 8 "_law_refusal" pr__law_refusal (spRefusal K) := ok_refusal X T way D._law_refusal
  have ref_right : DfG P w K mg base CX0 9 "_law_refusals_right" pr__law_refusals_right (spRefRight K) := ok_ref_right B draw balL linked refusal like way D._law_refusals_right
  have chain : Df P w K mg base CX0 3 "_law_chain" pr__law_chain (spChain K) := ok_chain B draw D._law_chain
  have way_right : DfG P w K mg base CX0 8 "_law_way_right" pr__law_way_right (spWayRight K) := ok_way_right B counted_ least_ like way D._law_way_right
  have chain_right : DfG P w K mg base CX0 9 "_law_chain_right" pr__law_chain_right (spChainRight K) := ok_chain_right B chain drawn_way whole_ way_right like way D._law_chain_right
  exact ok_law B begin_ grammar ref_right listed_ counted_ drawn_way whole_ way_right chain_right like way F
/-! ### what the top has written -/
theorem ExW.mk' {h : Heap} (mgG : mg "BadGrammar" = some (.ref BG)) (mgP : mg "BadPaper" = some (.ref BP)) (mgT : mg "TooGreat" = some (.ref TG)) (X : K.In h) (G : h.Ns mainGlobals mg)
    (s1 : PySem.W.nsIn K mainGlobals "SayError" = some (some (.ref SA)))
    (b1 : PySem.W.subIn K (.ref BG) (.type "BaseException") = some true) (b2 : PySem.W.isClsIn K BG = true) (b3 : PySem.W.typeIn K (.ref BG) = some (.type "type")) (b4 : PySem.W.subIn K (.ref BG) (.ref BG) = some true)
    (p1 : PySem.W.subIn K (.ref BP) (.type "BaseException") = some true) (p2 : PySem.W.isClsIn K BP = true) (p3 : PySem.W.typeIn K (.ref BP) = some (.type "type")) (p4 : PySem.W.subIn K (.ref BP) (.ref BP) = some true) (p5 : PySem.W.subIn K (.ref BP) (.ref BG) = some false)
    (t1 : PySem.W.subIn K (.ref TG) (.type "BaseException") = some true) (t2 : PySem.W.isClsIn K TG = true) (t3 : PySem.W.typeIn K (.ref TG) = some (.type "type")) (t4 : PySem.W.subIn K (.ref TG) (.ref TG) = some true) (t5 : PySem.W.subIn K (.ref TG) (.ref BG) = some false) (t6 : PySem.W.subIn K (.ref TG) (.ref BP) = some false) : ExW K mg SA BG BP TG :=
  ⟨PySem.W.mg_of X G s1, exm_of b1 b2 b3 b4, exm_of b1 b2 b3 p5, exm_of p1 p2 p3 p4, exm_of b1 b2 b3 t5, exm_of p1 p2 p3 t6, exm_of t1 t2 t3 t4⟩
theorem CsW.mk' {h : Heap} {t1 : Tok} (X : K.In h) (G : h.Ns mainGlobals mg) (y1 : PySem.W.nsIn K mainGlobals "MOST_WAY" = some (some (.int 400 t1))) : CsW mg :=
  ⟨⟨_, PySem.W.mg_of X G y1⟩⟩
theorem Bl.mk' {h : Heap} (X : K.In h) (G : h.Ns mainGlobals mg) (z1 : PySem.W.nsIn K mainGlobals "isinstance" = some none) (z2 : PySem.W.nsIn K mainGlobals "int" = some none) (z3 : PySem.W.nsIn K mainGlobals "bool" = some none) (z4 : PySem.W.nsIn K mainGlobals "tuple" = some none)
    (z5 : PySem.W.nsIn K mainGlobals "list" = some none) (z6 : PySem.W.nsIn K mainGlobals "str" = some none) (z7 : PySem.W.nsIn K mainGlobals "len" = some none) (z8 : PySem.W.nsIn K mainGlobals "all" = some none) (z9 : PySem.W.nsIn K mainGlobals "any" = some none) (z10 : PySem.W.nsIn K mainGlobals "sum" = some none)
    (z11 : PySem.W.nsIn K mainGlobals "max" = some none) (z12 : PySem.W.nsIn K mainGlobals "min" = some none) (z13 : PySem.W.nsIn K mainGlobals "range" = some none) (z14 : PySem.W.nsIn K mainGlobals "enumerate" = some none) (z15 : PySem.W.nsIn K mainGlobals "repr" = some none) (z16 : PySem.W.nsIn K mainGlobals "abs" = some none)
    (z17 : PySem.W.nsIn K mainGlobals "sorted" = some none) (z18 : PySem.W.nsIn K mainGlobals "zip" = some none) : Bl mg :=
  have m := fun {x : Str} (z : PySem.W.nsIn K mainGlobals x = some none) => PySem.W.mg_none_of X G z
  ⟨m z1, m z2, m z3, m z4, m z5, m z6, m z7, m z8, m z9, m z10, m z11, m z12, m z13, m z14, m z15, m z16, m z17, m z18⟩
theorem CsG.mk' {h : Heap} {t1 t2 t3 : Tok} (X : K.In h) (G : h.Ns mainGlobals mg) (y1 : PySem.W.nsIn K mainGlobals "MOST_RULES" = some (some (.int 8 t1)))
    (y2 : PySem.W.nsIn K mainGlobals "MOST_ITEMS" = some (some (.int 6 t2))) (y3 : PySem.W.nsIn K mainGlobals "MOST_VARIABLE" = some (some (.int 3 t3))) : CsG mg :=
  ⟨⟨_, PySem.W.mg_of X G y1⟩, ⟨_, PySem.W.mg_of X G y2⟩, ⟨_, PySem.W.mg_of X G y3⟩⟩
theorem fin {l : PySem.W.OpenLaw} {h : Heap} {f fa fG fP fT : Addr} {fdG fdP fdT : FuncData} {oc : Value} {od an : Option Addr} {osl : Array (Option Value)} {kV doc pm cdv ct : Value} (X : K.In h) (G : h.Ns mainGlobals mg) (hmg : mg "law" = some (.ref fa))
    (a : PySem.W.nsIn K mainGlobals "law" = some (some (.ref f))) (lk : K.lookup f = some ⟨oc, od, .func (PySem.W.fnOf "law" "law" (defArgs s_law) (defBody s_law) (defScope s_law) .none kV doc pm an cdv ct), osl⟩) (c : PySem.W.codeIn K cdv "law" = true) (kp : PySem.W.keepIn K (.ref f) = true)
    (B : Bl mg) (C : CsG mg) (C2 : CsW mg) (EG : ErT K mg "BadGrammar" "place" "BadGrammar.__init__" s_BG BG fG fdG) (EP : ErT K mg "BadPaper" "word" "BadPaper.__init__" s_BP BP fP fdP) (ET : ErT K mg "TooGreat" "most" "TooGreat.__init__" s_TG TG fT fdT) (SX : ExW K mg SA BG BP TG) (D : DAll K mg) :
    ∃ fd : FuncData, (∀ (s : Shared) (u : Value), BindsTo s fd ⟨[u], []⟩ [("script", u)]) ∧ ∀ base : Heap, FnOkG l.prog w K mg base CX0 10 fa fd ["script"] (spLaw K) := by
  cases hmg.symm.trans (PySem.W.mg_of X G a)
  exact ⟨_, fun s u => .of_eq (hb_law kV doc pm an cdv ct [u] rfl), fun base => all_ok B C C2 ⟨ok_BG EG, ok_BP EP, ok_TG ET⟩ SX D (fun_mk lk c kp)⟩
end
end Ws
open PySem PySem.W PyProof.Rows
set_option maxRecDepth 100000 in
set_option maxHeartbeats 0 in
theorem PySem.Challenge.cw_wholesay_k46_whole_least_ways_holds : PySem.Challenge.rw_wholesay_k46_whole_least_ways.Holds := by
  w_on; o_law; k_head; (case hw => w_witness2)
  k_fill
  refine Ws.walkG (l := PySem.Challenge.rw_wholesay_k46_whole_least_ways) (n := 63) (k := 10) (x := "script") (sp := Ws.spLaw) rfl (by decide) rfl ⟨rfl, by decide, by decide⟩ (fun w h Y => PySem.W.kIn_of Y) ?F ?S
  case S => exact fun K H a ns hl _ hS => ⟨a, ns, rfl, hS, by omega, fun _ => rfl⟩
  case F =>
    intro w mg fa h KX G hX hmg
    refine' (fun D_is_integer => ?rD0) (Ws.Dt.mk' (x := "is_integer") (st := Ws.s_is_integer) (ps := Ws.pr_is_integer) KX G ?a0 ?l0 ?c0 ?k0 Ws.hb_is_integer)
    case' a0 => k_is
    case' l0 => k_is
    case' c0 => k_is
    case' k0 => k_is
    refine' (fun D_is_between => ?rD1) (Ws.Dt.mk' (x := "is_between") (st := Ws.s_is_between) (ps := Ws.pr_is_between) KX G ?a1 ?l1 ?c1 ?k1 Ws.hb_is_between)
    case' a1 => k_is
    case' l1 => k_is
    case' c1 => k_is
    case' k1 => k_is
    refine' (fun D_is_tuple_of => ?rD2) (Ws.Dt.mk' (x := "is_tuple_of") (st := Ws.s_is_tuple_of) (ps := Ws.pr_is_tuple_of) KX G ?a2 ?l2 ?c2 ?k2 Ws.hb_is_tuple_of)
    case' a2 => k_is
    case' l2 => k_is
    case' c2 => k_is
    case' k2 => k_is
    refine' (fun D_is_item => ?rD3) (Ws.Dt.mk' (x := "is_item") (st := Ws.s_is_item) (ps := Ws.pr_is_item) KX G ?a3 ?l3 ?c3 ?k3 Ws.hb_is_item)
    case' a3 => k_is
    case' l3 => k_is
    case' c3 => k_is
    case' k3 => k_is
    refine' (fun D_is_rule => ?rD4) (Ws.Dt.mk' (x := "is_rule") (st := Ws.s_is_rule) (ps := Ws.pr_is_rule) KX G ?a4 ?l4 ?c4 ?k4 Ws.hb_is_rule)
    case' a4 => k_is
    case' l4 => k_is
    case' c4 => k_is
    case' k4 => k_is
    refine' (fun D_need_grammar => ?rD5) (Ws.Dt.mk' (x := "need_grammar") (st := Ws.s_need_grammar) (ps := Ws.pr_need_grammar) KX G ?a5 ?l5 ?c5 ?k5 Ws.hb_need_grammar)
    case' a5 => k_is
    case' l5 => k_is
    case' c5 => k_is
    case' k5 => k_is
    refine' (fun D_variables_of => ?rD6) (Ws.Dt.mk' (x := "variables_of") (st := Ws.s_variables_of) (ps := Ws.pr_variables_of) KX G ?a6 ?l6 ?c6 ?k6 Ws.hb_variables_of)
    case' a6 => k_is
    case' l6 => k_is
    case' c6 => k_is
    case' k6 => k_is
    refine' (fun D_are_uses => ?rD7) (Ws.Dt.mk' (x := "are_uses") (st := Ws.s_are_uses) (ps := Ws.pr_are_uses) KX G ?a7 ?l7 ?c7 ?k7 Ws.hb_are_uses)
    case' a7 => k_is
    case' l7 => k_is
    case' c7 => k_is
    case' k7 => k_is
    refine' (fun D_are_balanced => ?rD8) (Ws.Dt.mk' (x := "are_balanced") (st := Ws.s_are_balanced) (ps := Ws.pr_are_balanced) KX G ?a8 ?l8 ?c8 ?k8 Ws.hb_are_balanced)
    case' a8 => k_is
    case' l8 => k_is
    case' c8 => k_is
    case' k8 => k_is
    refine' (fun D_are_connected => ?rD9) (Ws.Dt.mk' (x := "are_connected") (st := Ws.s_are_connected) (ps := Ws.pr_are_connected) KX G ?a9 ?l9 ?c9 ?k9 Ws.hb_are_connected)
    case' a9 => k_is
    case' l9 => k_is
    case' c9 => k_is
    case' k9 => k_is
    refine' (fun D_is_uses => ?rD10) (Ws.Dt.mk' (x := "is_uses") (st := Ws.s_is_uses) (ps := Ws.pr_is_uses) KX G ?a10 ?l10 ?c10 ?k10 Ws.hb_is_uses)
    case' a10 => k_is
    case' l10 => k_is
    case' c10 => k_is
    case' k10 => k_is
    refine' (fun D_way_with => ?rD11) (Ws.Dt.mk' (x := "way_with") (st := Ws.s_way_with) (ps := Ws.pr_way_with) KX G ?a11 ?l11 ?c11 ?k11 Ws.hb_way_with)
    case' a11 => k_is
    case' l11 => k_is
    case' c11 => k_is
    case' k11 => k_is
    refine' (fun D_next_rule => ?rD12) (Ws.Dt.mk' (x := "next_rule") (st := Ws.s_next_rule) (ps := Ws.pr_next_rule) KX G ?a12 ?l12 ?c12 ?k12 Ws.hb_next_rule)
    case' a12 => k_is
    case' l12 => k_is
    case' c12 => k_is
    case' k12 => k_is
    refine' (fun D__law_mixed => ?rD13) (Ws.Dt.mk' (x := "_law_mixed") (st := Ws.s__law_mixed) (ps := Ws.pr__law_mixed) KX G ?a13 ?l13 ?c13 ?k13 Ws.hb__law_mixed)
    case' a13 => k_is
    case' l13 => k_is
    case' c13 => k_is
    case' k13 => k_is
    refine' (fun D__law_begin => ?rD14) (Ws.Dt.mk' (x := "_law_begin") (st := Ws.s__law_begin) (ps := Ws.pr__law_begin) KX G ?a14 ?l14 ?c14 ?k14 Ws.hb__law_begin)
    case' a14 => k_is
    case' l14 => k_is
    case' c14 => k_is
    case' k14 => k_is
    refine' (fun D__law_draw => ?rD15) (Ws.Dt.mk' (x := "_law_draw") (st := Ws.s__law_draw) (ps := Ws.pr__law_draw) KX G ?a15 ?l15 ?c15 ?k15 Ws.hb__law_draw)
    case' a15 => k_is
    case' l15 => k_is
    case' c15 => k_is
    case' k15 => k_is
    refine' (fun D__law_like => ?rD16) (Ws.Dt.mk' (x := "_law_like") (st := Ws.s__law_like) (ps := Ws.pr__law_like) KX G ?a16 ?l16 ?c16 ?k16 Ws.hb__law_like)
    case' a16 => k_is
    case' l16 => k_is
    case' c16 => k_is
    case' k16 => k_is
    refine' (fun D__law_item => ?rD17) (Ws.Dt.mk' (x := "_law_item") (st := Ws.s__law_item) (ps := Ws.pr__law_item) KX G ?a17 ?l17 ?c17 ?k17 Ws.hb__law_item)
    case' a17 => k_is
    case' l17 => k_is
    case' c17 => k_is
    case' k17 => k_is
    refine' (fun D__law_grammar => ?rD18) (Ws.Dt.mk' (x := "_law_grammar") (st := Ws.s__law_grammar) (ps := Ws.pr__law_grammar) KX G ?a18 ?l18 ?c18 ?k18 Ws.hb__law_grammar)
    case' a18 => k_is
    case' l18 => k_is
    case' c18 => k_is
    case' k18 => k_is
    refine' (fun D__law_settled => ?rD19) (Ws.Dt.mk' (x := "_law_settled") (st := Ws.s__law_settled) (ps := Ws.pr__law_settled) KX G ?a19 ?l19 ?c19 ?k19 Ws.hb__law_settled)
    case' a19 => k_is
    case' l19 => k_is
    case' c19 => k_is
    case' k19 => k_is
    refine' (fun D__law_put => ?rD20) (Ws.Dt.mk' (x := "_law_put") (st := Ws.s__law_put) (ps := Ws.pr__law_put) KX G ?a20 ?l20 ?c20 ?k20 Ws.hb__law_put)
    case' a20 => k_is
    case' l20 => k_is
    case' c20 => k_is
    case' k20 => k_is
    refine' (fun D__law_drawn_way => ?rD21) (Ws.Dt.mk' (x := "_law_drawn_way") (st := Ws.s__law_drawn_way) (ps := Ws.pr__law_drawn_way) KX G ?a21 ?l21 ?c21 ?k21 Ws.hb__law_drawn_way)
    case' a21 => k_is
    case' l21 => k_is
    case' c21 => k_is
    case' k21 => k_is
    refine' (fun D__law_shortest => ?rD22) (Ws.Dt.mk' (x := "_law_shortest") (st := Ws.s__law_shortest) (ps := Ws.pr__law_shortest) KX G ?a22 ?l22 ?c22 ?k22 Ws.hb__law_shortest)
    case' a22 => k_is
    case' l22 => k_is
    case' c22 => k_is
    case' k22 => k_is
    refine' (fun D__law_listed => ?rD23) (Ws.Dt.mk' (x := "_law_listed") (st := Ws.s__law_listed) (ps := Ws.pr__law_listed) KX G ?a23 ?l23 ?c23 ?k23 Ws.hb__law_listed)
    case' a23 => k_is
    case' l23 => k_is
    case' c23 => k_is
    case' k23 => k_is
    refine' (fun D__law_counted => ?rD24) (Ws.Dt.mk' (x := "_law_counted") (st := Ws.s__law_counted) (ps := Ws.pr__law_counted) KX G ?a24 ?l24 ?c24 ?k24 Ws.hb__law_counted)
    case' a24 => k_is
    case' l24 => k_is
    case' c24 => k_is
    case' k24 => k_is
    refine' (fun D__law_balanced => ?rD25) (Ws.Dt.mk' (x := "_law_balanced") (st := Ws.s__law_balanced) (ps := Ws.pr__law_balanced) KX G ?a25 ?l25 ?c25 ?k25 Ws.hb__law_balanced)
    case' a25 => k_is
    case' l25 => k_is
    case' c25 => k_is
    case' k25 => k_is
    refine' (fun D__law_met => ?rD26) (Ws.Dt.mk' (x := "_law_met") (st := Ws.s__law_met) (ps := Ws.pr__law_met) KX G ?a26 ?l26 ?c26 ?k26 Ws.hb__law_met)
    case' a26 => k_is
    case' l26 => k_is
    case' c26 => k_is
    case' k26 => k_is
    refine' (fun D__law_linked => ?rD27) (Ws.Dt.mk' (x := "_law_linked") (st := Ws.s__law_linked) (ps := Ws.pr__law_linked) KX G ?a27 ?l27 ?c27 ?k27 Ws.hb__law_linked)
    case' a27 => k_is
    case' l27 => k_is
    case' c27 => k_is
    case' k27 => k_is
    refine' (fun D__law_less => ?rD28) (Ws.Dt.mk' (x := "_law_less") (st := Ws.s__law_less) (ps := Ws.pr__law_less) KX G ?a28 ?l28 ?c28 ?k28 Ws.hb__law_less)
    case' a28 => k_is
    case' l28 => k_is
    case' c28 => k_is
    case' k28 => k_is
    refine' (fun D__law_least => ?rD29) (Ws.Dt.mk' (x := "_law_least") (st := Ws.s__law_least) (ps := Ws.pr__law_least) KX G ?a29 ?l29 ?c29 ?k29 Ws.hb__law_least)
    case' a29 => k_is
    case' l29 => k_is
    case' c29 => k_is
    case' k29 => k_is
    refine' (fun D__law_whole => ?rD30) (Ws.Dt.mk' (x := "_law_whole") (st := Ws.s__law_whole) (ps := Ws.pr__law_whole) KX G ?a30 ?l30 ?c30 ?k30 Ws.hb__law_whole)
    case' a30 => k_is
    case' l30 => k_is
    case' c30 => k_is
    case' k30 => k_is
    refine' (fun D__law_refusal => ?rD31) (Ws.Dt.mk' (x := "_law_refusal") (st := Ws.s__law_refusal) (ps := Ws.pr__law_refusal) KX G ?a31 ?l31 ?c31 ?k31 Ws.hb__law_refusal)
    case' a31 => k_is
    case' l31 => k_is
    case' c31 => k_is
    case' k31 => k_is
    refine' (fun D__law_refusals_right => ?rD32) (Ws.Dt.mk' (x := "_law_refusals_right") (st := Ws.s__law_refusals_right) (ps := Ws.pr__law_refusals_right) KX G ?a32 ?l32 ?c32 ?k32 Ws.hb__law_refusals_right)
    case' a32 => k_is
    case' l32 => k_is
    case' c32 => k_is
    case' k32 => k_is
    refine' (fun D__law_chain => ?rD33) (Ws.Dt.mk' (x := "_law_chain") (st := Ws.s__law_chain) (ps := Ws.pr__law_chain) KX G ?a33 ?l33 ?c33 ?k33 Ws.hb__law_chain)
    case' a33 => k_is
    case' l33 => k_is
    case' c33 => k_is
    case' k33 => k_is
    refine' (fun D__law_way_right => ?rD34) (Ws.Dt.mk' (x := "_law_way_right") (st := Ws.s__law_way_right) (ps := Ws.pr__law_way_right) KX G ?a34 ?l34 ?c34 ?k34 Ws.hb__law_way_right)
    case' a34 => k_is
    case' l34 => k_is
    case' c34 => k_is
    case' k34 => k_is
    refine' (fun D__law_chain_right => ?rD35) (Ws.Dt.mk' (x := "_law_chain_right") (st := Ws.s__law_chain_right) (ps := Ws.pr__law_chain_right) KX G ?a35 ?l35 ?c35 ?k35 Ws.hb__law_chain_right)
    case' a35 => k_is
    case' l35 => k_is
    case' c35 => k_is
    case' k35 => k_is
    refine' (fun E_BG => ?rEBG) (Ws.ErT.mk' (x := "BadGrammar") (f := "place") (q := "BadGrammar.__init__") (st := Ws.s_BG) KX G ?eaCBG ?exLBG ?ervBG ?esaBG ?egaBG ?eggBG ?enbBG ?ea1BG ?et1BG ?el1BG ?ec1BG ?ek1BG ?ekCBG ?eeCBG ?etCBG ?ehCBG Ws.hb_BG)
    case' eaCBG => k_is
    case' exLBG => k_is
    case' ervBG => decide +kernel
    case' esaBG => k_is
    case' egaBG => k_is
    case' eggBG => k_is
    case' enbBG => k_is
    case' ea1BG => k_is
    case' et1BG => k_is
    case' el1BG => k_is
    case' ec1BG => k_is
    case' ek1BG => k_is
    case' ekCBG => k_is
    case' eeCBG => k_is
    case' etCBG => k_is
    case' ehCBG => k_is
    refine' (fun E_BP => ?rEBP) (Ws.ErT.mk' (x := "BadPaper") (f := "word") (q := "BadPaper.__init__") (st := Ws.s_BP) KX G ?eaCBP ?exLBP ?ervBP ?esaBP ?egaBP ?eggBP ?enbBP ?ea1BP ?et1BP ?el1BP ?ec1BP ?ek1BP ?ekCBP ?eeCBP ?etCBP ?ehCBP Ws.hb_BP)
    case' eaCBP => k_is
    case' exLBP => k_is
    case' ervBP => decide +kernel
    case' esaBP => k_is
    case' egaBP => k_is
    case' eggBP => k_is
    case' enbBP => k_is
    case' ea1BP => k_is
    case' et1BP => k_is
    case' el1BP => k_is
    case' ec1BP => k_is
    case' ek1BP => k_is
    case' ekCBP => k_is
    case' eeCBP => k_is
    case' etCBP => k_is
    case' ehCBP => k_is
    refine' (fun E_TG => ?rETG) (Ws.ErT.mk' (x := "TooGreat") (f := "most") (q := "TooGreat.__init__") (st := Ws.s_TG) KX G ?eaCTG ?exLTG ?ervTG ?esaTG ?egaTG ?eggTG ?enbTG ?ea1TG ?et1TG ?el1TG ?ec1TG ?ek1TG ?ekCTG ?eeCTG ?etCTG ?ehCTG Ws.hb_TG)
    case' eaCTG => k_is
    case' exLTG => k_is
    case' ervTG => decide +kernel
    case' esaTG => k_is
    case' egaTG => k_is
    case' eggTG => k_is
    case' enbTG => k_is
    case' ea1TG => k_is
    case' et1TG => k_is
    case' el1TG => k_is
    case' ec1TG => k_is
    case' ek1TG => k_is
    case' ekCTG => k_is
    case' eeCTG => k_is
    case' etCTG => k_is
    case' ehCTG => k_is
    refine' (fun X_ => ?rX) (Ws.ExW.mk' (mgG := E_BG.mgC) (mgP := E_BP.mgC) (mgT := E_TG.mgC) KX G ?xs1 ?xb1 ?xb2 ?xb3 ?xb4 ?xp1 ?xp2 ?xp3 ?xp4 ?xp5 ?xt1 ?xt2 ?xt3 ?xt4 ?xt5 ?xt6)
    case' xs1 => k_is
    case' xb1 => k_is
    case' xb2 => k_is
    case' xb3 => k_is
    case' xb4 => k_is
    case' xp1 => k_is
    case' xp2 => k_is
    case' xp3 => k_is
    case' xp4 => k_is
    case' xp5 => k_is
    case' xt1 => k_is
    case' xt2 => k_is
    case' xt3 => k_is
    case' xt4 => k_is
    case' xt5 => k_is
    case' xt6 => k_is
    refine' (fun B_ => ?rB) (Ws.Bl.mk' KX G ?z1 ?z2 ?z3 ?z4 ?z5 ?z6 ?z7 ?z8 ?z9 ?z10 ?z11 ?z12 ?z13 ?z14 ?z15 ?z16 ?z17 ?z18)
    case' z1 => k_is
    case' z2 => k_is
    case' z3 => k_is
    case' z4 => k_is
    case' z5 => k_is
    case' z6 => k_is
    case' z7 => k_is
    case' z8 => k_is
    case' z9 => k_is
    case' z10 => k_is
    case' z11 => k_is
    case' z12 => k_is
    case' z13 => k_is
    case' z14 => k_is
    case' z15 => k_is
    case' z16 => k_is
    case' z17 => k_is
    case' z18 => k_is
    refine' (fun C_ => ?rC) (Ws.CsG.mk' KX G ?y1 ?y2 ?y3)
    case' y1 => k_is
    case' y2 => k_is
    case' y3 => k_is
    refine' (fun C2_ => ?rC2) (Ws.CsW.mk' KX G ?y4)
    case' y4 => k_is
    refine' Ws.fin KX G hmg ?wa ?wl ?wc ?wk B_ C_ C2_ E_BG E_BP E_TG X_ ⟨D_is_integer, D_is_between, D_is_tuple_of, D_is_item, D_is_rule, D_need_grammar, D_variables_of, D_are_uses, D_are_balanced, D_are_connected, D_is_uses, D_way_with, D_next_rule, D__law_mixed, D__law_begin, D__law_draw, D__law_like, D__law_item, D__law_grammar, D__law_settled, D__law_put, D__law_drawn_way, D__law_shortest, D__law_listed, D__law_counted, D__law_balanced, D__law_met, D__law_linked, D__law_less, D__law_least, D__law_whole, D__law_refusal, D__law_refusals_right, D__law_chain, D__law_way_right, D__law_chain_right⟩
    case' wa => k_is
    case' wl => k_is
    case' wc => k_is
    case' wk => k_is
