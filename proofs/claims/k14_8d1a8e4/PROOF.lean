import PyProof.Rows.All
import Wide.All
import OpenK.AllK
import Wide.FinOn
import KE.GoesMore
import HandS.ForExc
import HandS.ForMost
import HandS.IsInst
import HandS.Walk
import HandS.TupMul
import HandS.TupAny
import HandS.Style
import HandS.ExcInit
import HandS.ExcField
import HandS.TryMany
import HandS.Wide
import HandS.WideBits
import HandS.SortKw
import KE.DataMinMax
import KE.BitLaws
import HandS.TryOnly
import HandS.WordsExc
import HandS.ExcOwn
import HandS.Ends
import PySem.Challenge.RW_wholesay_k14_machines_and_their_runs
set_option Elab.async false
set_option linter.all false
set_option maxRecDepth 100000
set_option maxHeartbeats 2000000
/-! ## Wa -/
/-! enumerate over a tuple -/
namespace Ws
open PySem PySem.Spec PyProof.Rows L2
open AutoSeq1 (wpAny_loadPart')
theorem meets_enum_newT (l : Addr) (items : Array Value) (n : Nat) (dct : Option Addr) (sl : Array (Option Value)) :
    Meets (Builtin.«enumerate.__new__» ⟨[.type "enumerate", .ref l], []⟩) (fun _ R s => s.heap.get? l = some { cls := .type "tuple", dict := dct, data := .seq items n, slots := sl } ∧
      R (.ok (.ret (.ref (s.heap.push { cls := .type "tuple_iterator", data := .fields #[.ref l, .int 0 0] }).objs.size)))
        { s with heap := (s.heap.push { cls := .type "tuple_iterator", data := .fields #[.ref l, .int 0 0] }).push { cls := .type "enumerate", data := .fields #[.none, .bool false, .ref s.heap.objs.size, rawInt 0, .none, .none] } }) :=
  .of_wp fun prog w A R s h => by
    obtain ⟨hp, g, d, tk, os⟩ := s; obtain ⟨hl, h⟩ := h
    have hsub := sub_enumerate
    have hL : Heap.IsTuple (Shared.heap ⟨hp, g, d, tk, os⟩) l items := ⟨_, hl, rfl, n, rfl⟩
    wp_walk using wpAny_loadPart' hl
    refine wpAny_stack_any fun st => wpAny_pure ?_
    split
    · rename_i c _ _ _ _ _
      cases (c == Value.type "enumerate")
      · wp_walk using wpAny_loadPart' hl, wpAny_pyIter_tuple hL
        exact ⟨_, rfl, h⟩
      · wp_walk using wpAny_loadPart' hl, wpAny_pyIter_tuple hL
        exact ⟨_, rfl, h⟩
    · wp_walk using wpAny_loadPart' hl, wpAny_pyIter_tuple hL
      exact ⟨_, rfl, h⟩
section
variable {prog : Program} {w : World} {A : Around} {E : Value → Shared → Prop} {s : Shared}
theorem call_enum_tup {l : Addr} {items : Array Value} {Q : Value → Shared → Prop} (hL : s.heap.IsTuple l items)
    (h : ∀ h', IsEnum h' (s.heap.objs.size + 1) s.heap.objs.size 0 .none → h'.IsTupleIter s.heap.objs.size l 0 → h'.objs.size = s.heap.objs.size + 2 →
      (∀ b o, s.heap.get? b = some o → h'.get? b = some o) → Q (.ref (s.heap.objs.size + 1)) { s with heap := h' }) :
    wpAny (model prog w) A (call (.type "enumerate") [.ref l]) Q E s := by
  obtain ⟨⟨c, dct, dt, sl⟩, hl, hc, n, hd⟩ := hL
  replace hc : c = .type "tuple" := hc
  replace hd : dt = .seq items n := hd
  subst hc hd
  refine callType_new F.called_enumerate (by decide) (F.typeCall_enumerate_1 _) (F.newCall_enumerate_1 _) (fun obj => F.args_object_init_2 obj _) F.entry_enumerate_new
    (meets_enum_newT l items n dct sl) ⟨hl, ?_⟩
  have hz : (s.heap.push { cls := .type "tuple_iterator", data := .fields #[.ref l, .int 0 0] }).objs.size = s.heap.objs.size + 1 := Heap.size_push ..
  show _ ∧ _
  rw [hz]
  have he : IsEnum ((s.heap.push { cls := .type "tuple_iterator", data := .fields #[.ref l, .int 0 0] }).push
      { cls := .type "enumerate", data := .fields #[.none, .bool false, .ref s.heap.objs.size, rawInt 0, .none, .none] }) (s.heap.objs.size + 1) s.heap.objs.size 0 .none := by
    have := Heap.get?_push_size (s.heap.push { cls := .type "tuple_iterator", data := .fields #[.ref l, .int 0 0] })
      (o := { cls := .type "enumerate", data := .fields #[.none, .bool false, .ref s.heap.objs.size, rawInt 0, .none, .none] }) rfl
    rw [hz] at this; exact this
  refine ⟨⟨_, he, rfl⟩, h _ he ⟨_, Heap.get?_push_of_some _ (Heap.get?_push_size _ rfl), rfl, rfl⟩ (by rw [Heap.size_push, hz]) fun b o x => Heap.get?_push_of_some _ (Heap.get?_push_of_some _ x)⟩
end
/-- the tuple at a as it stands at each turn, each item in a new pair -/
def Iteu (K : PySem.W.Frag) (a : Addr) : It :=
  ⟨fun i H => ∃ (xs : List V) (x : V), SqT K H a xs ∧ xs[i]? = some x, fun i H v H' => ∃ T x, v = .ref T ∧ H T = none ∧ H' = upd H T (.tup [.int (i : Nat), x]) ∧ ∀ xs, SqT K H a xs → xs[i]? = some x, fun i H => ∃ xs : List V, SqT K H a xs ∧ xs.length ≤ i⟩
theorem turn_enumT {P : Program} {w : World} {K : PySem.W.Frag} {elts : List Expr} {kk : Nat} {tpos : Pos} (a e it : Addr) :
    Turn P w K (.Tuple elts kk tpos) (Iteu K a) [e, it] e (fun i h => (∃ old, IsEnum h e it ((i : Nat) : Int) old) ∧ h.IsTupleIter it a i ∧ e ≠ it) where
  mem := by simp
  obj := fun i h st b hb => by
    obtain ⟨⟨old, he⟩, ⟨o, ho, hc, hd⟩, _⟩ := st
    have e' : b = e ∨ b = it := by simpa using hb
    rcases e' with z | z
    · rw [z]; exact ⟨_, he, fun v q => nomatch q⟩
    · rw [z]; exact ⟨o, ho, fun v q => by rw [hd] at q; cases q⟩
  keep := fun i h h' st k => let ⟨⟨old, he⟩, hi, hne⟩ := st; ⟨⟨old, k e (by simp) _ he⟩, hi.at fun o q => k it (by simp) o q, hne⟩
  item := by
    intro X hP hw hK hc i pins s σ H E I hf st hg
    subst hP hw hK
    obtain ⟨⟨old, he⟩, hit, hne⟩ := st
    obtain ⟨xs, x, hq, hx⟩ := hg
    obtain ⟨its, rv, p, hz⟩ := I.tuple hq
    obtain ⟨u, hu, ru⟩ := rv.get hx
    have hel : e < s.heap.objs.size := Heap.lt_size he
    have hil : it < s.heap.objs.size := by obtain ⟨_, q, _⟩ := hit; exact Heap.lt_size q
    have hae : a ≠ e := fun z => by
      obtain ⟨o, q, _, n, d⟩ := p
      rw [z, he] at q; cases q; cases d
    have hai : a ≠ it := fun z => by
      obtain ⟨o, q, _, n, d⟩ := p
      obtain ⟨o2, q2, _, d2⟩ := hit
      rw [z, q2] at q; cases q; rw [d2] at d; cases d
    have hlen : i < its.toArray.size := by
      have := (List.getElem?_eq_some_iff.mp hu).1
      simpa using this
    refine wpAny_pyNext_enum_itemD (Draws.tuple (A := X.A.in1) (I.ok.hd hc) it a hai its.toArray) he ⟨hit, p⟩ hlen hne (by simp only [List.mem_cons, List.not_mem_nil, or_false, not_or]; exact ⟨hne, Ne.symm hae⟩) fun x' h' tk hP ho hit' hT hsz hk => ?_
    have ex : x' = u := by
      have q : its.toArray[i]? = some x' := hP
      have q2 : its.toArray[i]? = some u := by simpa using hu
      rw [q2] at q
      exact (Option.some.inj q).symm
    subst ex
    refine ⟨_, rfl, wpAny_letOwnedTupleGo_enum (s := { s with heap := h', toks := tk + 1 }) ho fun h'' he' sb => ?_⟩
    have hT2 : h''.get? s.heap.objs.size = some { cls := .type "tuple", data := .seq #[.int i tk, x'] } := (sb.2 _ (Nat.ne_of_gt hel)).trans hT
    have new : ObjOk X.prog X.w (upd H s.heap.objs.size (.tup [.int (i : Nat), x])) h'' s.heap.objs.size (.tup [.int (i : Nat), x]) :=
      ⟨by show 2 ≤ sizeLine; decide, [.int i tk, x'], .cons ⟨_, rfl⟩ (.cons ru .nil), ⟨_, hT2, rfl, _, rfl⟩⟩
    have I1 : Inv X pins σ (upd H s.heap.objs.size (.tup [.int (i : Nat), x])) { s with heap := h'', toks := tk + 1 } :=
      I.turnedNew (ch := [e, it]) (fun b ob hb q => (sb.2 b (fun z => hb (by simp [z]))).trans (hk b ob (fun z => hb (by simp [z])) (fun z => hb (by simp [z])) q)) hf (Nat.le_refl _) new
    refine ⟨.ref s.heap.objs.size, _, I1, rfl, ⟨_, x, rfl, I.hok.fresh (Nat.le_refl _), rfl, fun ys hy => by rw [I.tuple_inj hy hq]; exact hx⟩, ⟨⟨x', ?_⟩, hit'.1.at fun o q => (sb.2 it (Ne.symm hne)).trans q, hne⟩, fun b hb => ?_⟩
    · have e1 : ((i + 1 : Nat) : Int) = (i : Int) + 1 := by omega
      rw [e1]; exact he'
    · have hb' : b < s.heap.objs.size := by
        have e' : b = e ∨ b = it := by simpa using hb
        rcases e' with z | z
        · rw [z]; exact hel
        · rw [z]; exact hil
      rw [upd_ne (Nat.ne_of_lt hb')]
      exact (hf b hb).1
  done := by
    intro X hP hw hK hc i pins s σ H E I hf st hg
    subst hP hw hK
    obtain ⟨⟨old, he⟩, hit, hne⟩ := st
    obtain ⟨xs, hq, hx⟩ := hg
    obtain ⟨its, rv, p, hz⟩ := I.tuple hq
    obtain ⟨f0, f1, f2, f3, f4, f5⟩ := hf it (by simp)
    have hl := rv.length
    have hai : a ≠ it := fun z => by
      obtain ⟨o, q, _, n, d⟩ := p
      obtain ⟨o2, q2, _, d2⟩ := hit
      rw [z, q2] at q; cases q; rw [d2] at d; cases d
    have hT : s.TypeIs (.ref e) "enumerate" := ⟨_, he, rfl⟩
    unfold pyNext
    refine wpAny_bind (wpAny_attempt (wpAny_callSpecial?_slot (name := Str.ofString "__next__") hT F.slot_enumerate_next
      (wpAny_call_entry F.slot_enumerate_next hT F.entry_enumerate_next ?_ (F.args_enumerate_next_1 _))))
    show wpAny _ _ (field (.ref e) 2 >>= _) _ _ _
    refine wpAny_bind (wpAny_field he rfl (x := .ref it) rfl ?_)
    refine wpAny_bind (wpAny_nextOf_tuple_end (A := X.A.in1) (I.ok.hd hc) hit p (by simp; omega) fun h' x he' hx' => ?_)
    obtain ⟨o, ho, hc'⟩ := hx'
    refine wpAny_bind (wpAny_isInstance (T := "StopIteration") (b := true) ⟨o, ho, hc'⟩ isSubtype_stop ?_)
    exact wpAny_pure ⟨rfl, I.turned (t' := s.toks) (fun b o hb q => he' b o hb q) f0 f1 f3 f4 f5⟩
  self := fun A i s Q E st h => let ⟨⟨_, he⟩, _⟩ := st; wpAny_pyIter_enum he h
def iEnumT (K : PySem.W.Frag) (ta : TA) : TI := fun σ H R => ta σ H fun vs H1 => ∃ a xs, vs = [.ref a] ∧ SqT K H1 a xs ∧ R (Iteu K a) H1
theorem pi_enumT {X : Cx} {e : Expr} {ta : TA} {p pos tpos : Pos} {elts : List Expr} {kk : Nat} (hg : Gl X "enumerate") (hm : X.mg "enumerate" = none) (ha : PA X [e] ta) (hs : starEach [e] X.env = [(false, eval e X.env)] := by rfl) :
    PI X (.Tuple elts kk tpos) (.Call (.Name "enumerate" p) [e] [] pos) (iEnumT X.K ta) := by
  refine ⟨fun pins s σ H R I h => ?_⟩
  refine Call_ (ld_blt I hg hm boot_enumerate (PyProof.Rows.callWith_type1 (thn (ha.run pos pins s σ H _ I h) fun us s1 ⟨vs, H1, I1, r1, q1⟩ => ?_) hs rfl))
  obtain ⟨a, xs, ex, hq, q⟩ := q1
  subst ex
  cases r1 with
  | cons r rr =>
    cases rr
    cases r
    obtain ⟨its, rv, p', hz⟩ := I1.tuple hq
    refine call_enum_tup p' fun h' he hit hsz hk => wpAny_pyIter_enum he ?_
    have I2 : Inv X pins σ H1 { s1 with heap := h' } := I1.kept (t' := s1.toks) hk
    refine ⟨s1.heap.objs.size + 1, [s1.heap.objs.size + 1, s1.heap.objs.size], _, _, H1, rfl, I2, turn_enumT a (s1.heap.objs.size + 1) s1.heap.objs.size, ⟨⟨.none, he⟩, hit, Nat.succ_ne_self _⟩, fun b hb => ?_, q⟩
    have e' : b = s1.heap.objs.size + 1 ∨ b = s1.heap.objs.size := by simpa using hb
    have hle : s1.heap.objs.size ≤ b := by
      rcases e' with z | z
      · rw [z]; exact Nat.le_add_right _ _
      · rw [z]; exact Nat.le_refl _
    exact I1.fpOk hle (I1.hok.fresh hle)
theorem walk_enumT {K : PySem.W.Frag} {a : Addr} {xs : List V} : Walk (Iteu K a) xs.length (fun H => SqT K H a xs) (YPair (fun i => some (.int (i : Nat))) (fun i => xs[i]?)) := by
  refine ⟨fun i _ hi q => ⟨xs, xs[i], q, by simp [hi]⟩, fun _ q => ⟨xs, q, Nat.le_refl _⟩, fun i H v H' _ q y => ?_⟩
  obtain ⟨T, x, h1, h2, h3, h4⟩ := y
  exact ⟨T, .int (i : Nat), x, h1, h2, h3, rfl, h4 xs q⟩
end Ws
/-! ## Wb -/
namespace Ws
open PySem PySem.Spec PyProof.Rows L2
/-! ### defs that know that no guard runs around them (for repr) -/
structure FnOkG (P : Program) (w : World) (K : PySem.W.Frag) (mg : Str → Option Value) (base : Heap) (CX : CXT) (k : Nat) (f : Addr) (fd : FuncData) (ps : List Str) (sp : Sp) : Prop where
  len : ∀ vs H Q E, sp vs H Q E → vs.length = ps.length
  run : ∀ (A : Around) (outer : List Env) (s : Shared) (H : Hp) (args : Args) (us : List Value) (vs : List V) (Q : VK) (E : XK), A.guards = some [] → Room k A → Env0 P w K mg base A outer s H → BindsTo s fd args (ps.zip us) → Vals vs us → sp vs H Q E →
    codeAny (model P w) A (.call (.ref f) args) (CR CX outer P w H s Q E) s
theorem FnOkG.of {P : Program} {w : World} {K : PySem.W.Frag} {mg : Str → Option Value} {base : Heap} {CX : CXT} {k : Nat} {f : Addr} {fd : FuncData} {ps : List Str} {sp : Sp} (F : FnOk P w K mg base CX k f fd ps sp) : FnOkG P w K mg base CX k f fd ps sp :=
  ⟨F.len, fun A outer s H args us vs Q E _ hr he hb hv hs => F.run A outer s H args us vs Q E hr he hb hv hs⟩
theorem fn_ofG {CX : CXT} {P : Program} {w : World} {K : PySem.W.Frag} {mg : Str → Option Value} {base : Heap} {k : Nat} {f : Addr} {name qual : Str} {params : Arguments} {body : List Stmt} {scope : Scope} {dV kV doc pm cdv ct oc : Value} {an od : Option Addr}
    {osl : Array (Option Value)} {N ps : List Str} {sp : Sp} (lk : K.lookup f = some ⟨oc, od, .func (PySem.W.fnOf name qual params body scope dV kV doc pm an cdv ct), osl⟩) (hcd : PySem.W.codeIn K cdv qual = true) (S : FnScope N ps scope)
    (len : ∀ vs H Q E, sp vs H Q E → vs.length = ps.length)
    (hbody : ∀ (A : Around) (outer : List Env) (s : Shared) (H : Hp) (vs : List V) (Q : VK) (E : XK), A.guards = some [] → Room k (A.deeper (envOfC qual scope s.heap.objs.size f cdv)) → sp vs H Q E →
      ∃ t, PSs (cxOf CX P w K mg base N qual scope f cdv A outer s H E) body t ∧ t { nx := fun _ H' => Q .non H', rt := Q } (start N vs) H) :
    FnOkG P w K mg base CX (k + 1) f (PySem.W.fnOf name qual params body scope dV kV doc pm an cdv ct) ps sp := by
  refine ⟨len, fun A outer s H args us vs Q E hG hr e0 hb r hsp => ?_⟩
  have hl := len _ _ _ _ hsp
  have KX : K.In s.heap := e0.mod.kin.keeps fun b o e => (e0.bs b o e).1
  have lim : s.heap.NoLimit := e0.mod.nolimit.keeps fun b o e => (e0.bs b o e).1
  have hkind : ∀ y ∈ ps.zip us, scope.names.lookup y.1 = some .local ∨ (scope.names.lookup y.1 = some .cell ∧ ((cellsFrom (s.heap.objs.size + 1) scope.names []).lookup y.1).isSome = true) := fun ⟨n, v⟩ hy => by
    rcases S.par n (List.of_mem_zip hy).1 with q | q
    · exact .inl q
    · exact .inr ⟨q, PySem.W.cellsFrom_some _ _ _ (.inl q)⟩
  refine codeAny_call_function hr.depth (KX _ _ lk) rfl S.co S.gen rfl (PySem.W.codeRec_of KX hcd) (hb _ _ _ _ ?_)
  refine wpAny_newFunctionEnv_cells S.kind hkind fun env he s1 x => ?_
  subst he
  refine ⟨lim.keeps x.toInCall.keep, codeAny_func ?_⟩
  obtain ⟨t, ht, hq⟩ := hbody A outer s H vs Q E hG (hr.deeper _) hsp
  have I : Inv (cxOf CX P w K mg base N qual scope f cdv A outer s H E) [] (start N vs) H s1 := inv_start S hr.hd e0 hl r x
  refine wpAny_mono (ht.run [] s1 (start N vs) H _ I hq) (fun fl s' hs => ?_) fun e s' hs => hs
  have fin : ∀ {σ' : L2.St} {H' : Hp} {v : V} {u : Value}, Inv (cxOf CX P w K mg base N qual scope f cdv A outer s H E) [] σ' H' s' → RelV v u → Q v H' → CE outer P w H s Q u s' :=
    fun {σ' H' v u} J rv q => ⟨v, H', J.os, J.bare, J.base, J.hok, rv, q⟩
  cases fl with
  | ret u =>
    obtain ⟨v, σ', H', J, rv, q⟩ := hs
    exact fin J rv q
  | next =>
    obtain ⟨σ', H', J, q⟩ := hs
    exact fin (v := V.non) (u := Value.none) J rfl q
  | brk =>
    obtain ⟨_, _, _, q⟩ := hs
    exact False.elim q
  | cont =>
    obtain ⟨_, _, _, q⟩ := hs
    exact False.elim q
section
variable {X : Cx} {CX : CXT} {k : Nat} {f : Addr} {fd : FuncData} {ps : List Str} {sp : Sp} {E : XK} {x : Str} {p pos : Pos} {e : Expr} {es : List Expr} {t : TA}
theorem run_fnG {pins : List (Addr × Obj)} {σ : L2.St} {H : Hp} {s : Shared} {Q : VK} {us : List Value} {vs : List V} (F : FnOkG X.prog X.w X.K X.mg X.base CX k f fd ps sp) (hG : X.A.guards = some []) (hr : Room k X.A) (hb : Binds X.K fd ps []) (hx : Passes CX X E)
    (I : Inv X pins σ H s) (r : Vals vs us) (h : sp vs H Q E) : wpAny (model X.prog X.w) X.A (call (.ref f) us) (EP X pins σ Q) X.xe s := by
  have hl : (us ++ []).length = ps.length := by rw [List.append_nil, ← r.length]; exact F.len _ _ _ _ h
  refine wpAny_call (codeAny_mono (F.run X.A X.stack s H ⟨us, []⟩ us vs Q E hG hr I.env0 (by have := hb s us I.kIn hl; rw [List.append_nil] at this; exact this) r h) fun r s' hq => ?_)
  cases r with
  | error e => exact hx pins σ H s e s' I hq
  | ok fl =>
    cases fl with
    | ret u => exact I.after hq
    | next => exact False.elim hq
    | brk => exact False.elim hq
    | cont => exact False.elim hq
/-- f(..) without defaults -/
def tCa (sp : Sp) (E : XK) (t : TA) : TE := fun σ H Q => t σ H fun vs H1 => sp vs H1 Q E
theorem pe_callG (F : FnOkG X.prog X.w X.K X.mg X.base CX k f fd ps sp) (hG : X.A.guards = some []) (hr : Room k X.A) (hg : Gl X x) (hm : X.mg x = some (.ref f)) (hk : PySem.W.keepIn X.K (.ref f) = true) (hb : Binds X.K fd ps []) (hx : Passes CX X E)
    (ha : PA X (e :: es) t) (hdb : (x == ("__debug__" : Str)) = false := by decide) (he : starEach (e :: es) X.env = (false, eval e X.env) :: starEach es X.env := by rfl) (hpl : (backTo pos (starEach es X.env)).any (·.1) = false := by rfl) :
    PE X (.Call (.Name x p) (e :: es) [] pos) (tCa sp E t) := by
  refine ⟨fun pins s σ H Q I h => ?_⟩
  refine wpAny_Call_Name_kw (ld_glob I hg hm ?_ hdb)
  refine PySem.W.callWith_K (h₀ := X.base) I.ok.mod.kin hk (thn (ha.run pos pins s σ H _ I h) fun us s1 ⟨vs, H1, I1, r, q⟩ => ⟨I1.kIn, ?_⟩) he hpl
  exact run_fnG F hG hr hb hx I1 r q
end
/-! ### repr of data -/
theorem call_reprD {X : Cx} (hG : X.A.guards = some []) (hu : X.A.units + 64 < cLine) : CallR X (.builtin "repr") (fun xs H Q => ∃ v d, xs = [v] ∧ Dp X.K H v d ∧ d.showable = true ∧ d.hasDict = false ∧ d.depth ≤ 60 ∧ d.shown.length ≤ sizeLine ∧ Q (.str d.shown) H) := by
  intro pins s σ H xs us Q I r h
  obtain ⟨v, d, rfl, hd, h1, h2, h3, h4, q⟩ := h
  obtain ⟨u, rfl, ru⟩ := vals1 r
  cases hd with
  | non =>
    cases ru
    exact PySem.P.repr_of_none ⟨.str _, H, I.tok _, ⟨_, rfl⟩, q⟩
  | bl b =>
    cases ru
    exact PySem.P.repr_of_bool ⟨.str _, H, I.tok _, ⟨_, rfl⟩, q⟩
  | int i =>
    obtain ⟨t, rfl⟩ := ru
    exact PySem.P.repr_of_int (by simpa [PyData.showable] using h1) ⟨.str _, H, I.tok _, ⟨_, rfl⟩, q⟩
  | str x =>
    obtain ⟨t, rfl⟩ := ru
    exact PySem.P.repr_of_str ⟨.str _, H, I.tok _, ⟨_, rfl⟩, q⟩ h4
  | lst hs ha =>
    obtain ⟨as, rd⟩ := Dp.reads I _ _ u (.lst hs ha) ru
    cases ru
    exact repr_of_reads' rd h1 (PyData.noDict_hsm h2) hG (by omega) (fun _ _ e => e) (fun h' u tk hk => ⟨.str _, H, I.kept hk, ⟨_, rfl⟩, q⟩) h4
  | tup hs ha =>
    obtain ⟨as, rd⟩ := Dp.reads I _ _ u (.tup hs ha) ru
    cases ru
    exact repr_of_reads' rd h1 (PyData.noDict_hsm h2) hG (by omega) (fun _ _ e => e) (fun h' u tk hk => ⟨.str _, H, I.kept hk, ⟨_, rfl⟩, q⟩) h4
end Ws
/-! ## Wc -/
namespace Ws
open PySem PySem.Spec PyProof.Rows L2
/-! ### several except clauses that name their error, by one name in slot i -/
def suiteEnds (D : Ends) (i : Nat) : Ends := { nx := fun σ' H' => D.nx (σ'.set i none) H', rt := D.rt, bk := fun σ' H' => D.bk (σ'.set i none) H', ct := fun σ' H' => D.ct (σ'.set i none) H' }
def wManyA (K : PySem.W.Frag) (i : Nat) (Wout : WX) (D : Ends) : List (Value × (Addr → Value → Option Addr → TS)) → WX
  | [] => Wout
  | (c, ts) :: r => fun cls d σ H => ∃ b, PySem.W.exmOne K cls c = some b ∧ (b = true → ∀ a, H a = none → ts a cls d (suiteEnds D i) (σ.set i (some (.ref a))) H) ∧ (b = false → wManyA K i Wout D r cls d σ H)
inductive HdsA (X : Cx) (n : Str) : List ExceptHandler → List (Value × (Addr → Value → Option Addr → TS)) → Prop
  | nil : HdsA X n [] []
  | cons {x : Str} {c : Value} {ts : Addr → Value → Option Addr → TS} {b₀ : Stmt} {suite : List Stmt} {np pos' : Pos} {hds : List ExceptHandler} {l : List (Value × (Addr → Value → Option Addr → TS))} (hc : Names X x c)
      (hsu : ∀ (a : Addr) (oe : Obj) (cls : Value) (d : Option Addr) (pn : List (Addr × Obj)), Zc cls d oe → (∃ vs, oe.data = .fields vs) → PSs (X.suite a ((a, oe) :: pn)) (b₀ :: suite) (ts a cls d)) (r : HdsA X n hds l) :
      HdsA X n (.ExceptHandler (some (.Name x np)) (some n) (b₀ :: suite) pos' :: hds) ((c, ts) :: l)
section
variable {X : Cx} {n : Str} {i : Nat} {body : List Stmt} {h₀ : ExceptHandler} {hds : List ExceptHandler} {l : List (Value × (Addr → Value → Option Addr → TS))} {pos : Pos} {tb : WX → TS} {Wout : WX}
theorem ps_try_manyA (hs : X.stack = X.env :: X.outer) (hf : X.env.frame = some X.env.locals) (hN : X.N.Nodup) (hi : X.N[i]? = some n) (hln : X.env.kindOf n = some .local) (tk : Takes X Wout)
    (hb : ∀ (W : WX) (pn : List (Addr × Obj)) (xe : Value → Shared → Prop), Takes (X.tr pn xe) W → PassesOwn (model X.prog X.w) X.A X.env xe → PSs (X.tr pn xe) body (tb W))
    (hh : HdsA X n (h₀ :: hds) l) : PS X (.Try body (h₀ :: hds) [] [] pos) (fun D σ H => tb (wManyA X.K i Wout D l) D σ H) := by
  refine ⟨fun pins s σ H D I h => ?_⟩
  have ok := I.ok
  have hfr : X.A.frames = some (X.env :: X.outer) := by rw [ok.frames, hs]
  have hloc : Loc X.env.scope n := .inl hln
  refine wpAny_Try_except ?_
  refine wpAny_mono ((hb (wManyA X.K i Wout D l) (X.pn ++ pins) (fun e s₁ => wpAny (model X.prog X.w) X.A (noteFrame e X.env) (fun _ s₂ => wpAny (model X.prog X.w) X.A (setFlight e none) (fun _ s₃ =>
    wpAny (model X.prog X.w) X.A (handleBy e X.env (h₀ :: hds)) (SP X pins D) X.xe s₃) X.xe s₂) X.xe s₁) (fun u s' xx => ?_) PassesOwn.looking).run [] s σ H D (I.toTry _) h) (fun f s1 hsp => ?_) (fun e s1 he => he)
  · -- the catch
    obtain ⟨a, B, sI, pins', σ', H', cls, d, rfl, J', nb, up, sky, na, os, ag, w⟩ := xx
    have J : Inv X pins σ' H' sI := J'.ofTry ok
    have sky' : Sky B (X.env :: X.outer) a (Zc cls d) X.env.locals s'.heap := by rw [← hs]; exact sky
    show wpAny (model X.prog X.w) X.A (noteFrame (.ref a) X.env) _ _ _
    refine Sky.land Zc.steady hfr hf sky' fun h3 fl3 up3 => ?_
    have J3 : Inv X pins σ' H' { s' with heap := h3 } := J.landed nb fl3.1 (up.trans up3) os ag
    obtain ⟨oe3, vs3, he3, hz3, hd3⟩ := fl3.there
    have notFr : ∀ {h : Heap} {o : Obj} {vs : Array Value}, h.FunFrames B (X.env :: X.outer) → h.get? a = some o → o.data = .fields vs → a ∉ frs (X.env :: X.outer) := fun {h o vs} ff e dd hm => by
      obtain ⟨_, o', e', hnf⟩ := ff.mem hm
      rw [e] at e'; cases e'
      exact hnf _ dd
    have nfr := notFr fl3.2.2.1 he3 hd3
    have nL : a ≠ X.env.locals := fun z => nfr (List.mem_filterMap.mpr ⟨X.env, List.mem_cons_self, by rw [hf, z]⟩)
    have nF : a ∉ X.fs := fun hm => by
      obtain ⟨e, he, q⟩ := List.mem_filterMap.mp hm
      exact nfr (List.mem_filterMap.mpr ⟨e, List.mem_cons_of_mem _ he, q⟩)
    have S3 := J3.suite he3 hd3 na nL nF
    have go : ∀ {hds' : List ExceptHandler} {l' : List (Value × (Addr → Value → Option Addr → TS))}, HdsA X n hds' l' → wManyA X.K i Wout D l' cls d σ' H' →
        wpAny (model X.prog X.w) X.A (handleBy (.ref a) X.env hds') (SP X pins D) X.xe { s' with heap := h3 } := by
      intro hds' l' hk
      induction hk with
      | nil =>
        intro w
        refine wpAny_handleBy_nil ?_
        obtain ⟨k1, k2, k3, oe, vs, T, oT, ts', he, hz, hd, h1, hr⟩ := id fl3
        unfold PySem.passOn
        refine wpAny_bind (wpAny_field he hd h1 ?_)
        rw [if_neg (show ¬ ((Value.ref T == Value.none) = true) from by simp)]
        have fin : wpAny (model X.prog X.w) X.A (setFlight (.ref a) X.env.frame) (fun _ s4 => wpAny (model X.prog X.w) X.A (throw (.ref a) : Sem Flow) (SP X pins D) X.xe s4) X.xe { s' with heap := h3 } := by
          rw [hf]
          refine HandSPX.setFlight_upZ fl3 fun h4 hh4 up4 => wpAny_throw (tk _ _ ?_)
          exact ⟨a, B, sI, pins, σ', H', cls, d, rfl, J, nb, (up.trans up3).trans up4, .inr (.inr (by rw [hs]; exact hh4)), na, os, ag, w⟩
        first
          | exact wpAny_bind (wpAny_pure (wpAny_bind fin))
          | exact wpAny_bind fin
      | @cons x c ts b₀ suite np pos' hds2 l2 hc hsu r ih =>
        intro w
        obtain ⟨b, hb1, hyes, hno⟩ := w
        refine wpAny_handleBy_cons (codeAny_handlers_test ?_) (by intro q; cases q)
        have LT : PySem.W.Looks (model X.prog X.w) h3 (typeOf (.ref a)) cls := fun A Q E s k q => wpAny_typeOf_ref (k _ _ he3) (by rw [hz3.1]; exact q)
        have LM := PySem.W.exm_one (M := model X.prog X.w) (J3.kIn) LT hb1
        have test : ∀ {Q : Value → Shared → Prop} {E : Value → Shared → Prop}, Q c { s' with heap := h3 } → wpAny (model X.prog X.w) (X.A.mark (some (.ref a))) (eval (.Name x np) X.env) Q E { s' with heap := h3 } := fun {Q E} q => by
          obtain ⟨hg, hdbg, hm | ⟨hm, hv, hnn⟩⟩ := hc
          · exact ld_glob (X := X.suite a ((a, oe3) :: (X.pn ++ pins))) S3 hg hm q hdbg
          · exact ld_blt (X := X.suite a ((a, oe3) :: (X.pn ++ pins))) S3 hg hm hv q hnn hdbg
        refine test (LM.here ?_)
        cases b with
        | true =>
          refine codeAny_handlers_suite_as ?_
          refine HandSPX.lands_againZ fl3 fun h4 fl4 up4 => ?_
          have J4 : Inv X pins σ' H' { s' with heap := h4 } := J.landed nb fl4.1 ((up.trans up3).trans up4) os ag
          obtain ⟨oe4, vs4, he4, hz4, hd4⟩ := fl4.there
          have S4 := J4.suite he4 hd4 na nL nF
          refine store_ok (X := X.suite a ((a, oe4) :: (X.pn ++ pins))) (v := .ref a) S4 hN hi hloc rfl (fun s5 S5 => ?_) (.inr hln)
          refine wpAny_mono ((hsu a oe4 cls d (X.pn ++ pins) hz4 ⟨_, hd4⟩).run [] s5 _ H' _ S5 (hyes rfl a na)) (fun f s6 hsp => ?_) (fun _ _ z => False.elim z)
          have end_ : ∀ {σ6 : L2.St} {H6 : Hp} {Q : Shared → Prop}, Inv (X.suite a ((a, oe4) :: (X.pn ++ pins))) [] σ6 H6 s6 → (∀ s7, Inv X pins (σ6.set i none) H6 s7 → Q s7) →
              wpAny (model X.prog X.w) X.A (do bindName X.env n .none; unbindBehindTheSuite X.env n pos') (fun _ s7 => Q s7) X.xe s6 := fun {σ6 H6 Q} S6 hq => gone_ok (S6.unsuite ok) hN hi hln hq
          cases f with
          | next =>
            obtain ⟨σ6, H6, S6, q6⟩ := hsp
            exact end_ S6 fun s7 J7 => ⟨_, _, J7, q6⟩
          | brk =>
            obtain ⟨σ6, H6, S6, q6⟩ := hsp
            exact end_ S6 fun s7 J7 => ⟨_, _, J7, q6⟩
          | cont =>
            obtain ⟨σ6, H6, S6, q6⟩ := hsp
            exact end_ S6 fun s7 J7 => ⟨_, _, J7, q6⟩
          | ret u =>
            obtain ⟨v6, σ6, H6, S6, r6, q6⟩ := hsp
            exact end_ S6 fun s7 J7 => ⟨_, _, _, J7, r6, q6⟩
        | false =>
          show wpAny _ X.A (handleBy (.ref a) X.env hds2) _ _ _
          exact ih (hno rfl)
    exact go hh w
  · cases f with
    | next =>
      obtain ⟨σ', H', J', q⟩ := hsp
      exact wpAny_execs_nil ⟨σ', H', J'.ofTry ok, q⟩
    | brk =>
      obtain ⟨σ', H', J', q⟩ := hsp
      exact ⟨σ', H', J'.ofTry ok, q⟩
    | cont =>
      obtain ⟨σ', H', J', q⟩ := hsp
      exact ⟨σ', H', J'.ofTry ok, q⟩
    | ret u =>
      obtain ⟨v, σ', H', J', r, q⟩ := hsp
      exact ⟨v, σ', H', J'.ofTry ok, r, q⟩
end
end Ws
/-! ## Wd -/
namespace L2
open PySem PySem.Spec PyProof.Rows
/-! ### data and heaps -/
theorem Same.seqT {K : PySem.W.Frag} {H H' : Hp} {a : Addr} {xs : List V} (e : Same H H') (h : SqT K H a xs) : SqT K H' a xs := by
  rcases h with (h | ⟨o, h⟩) | h
  · exact .inl (.inl (e _ _ h))
  · exact .inl (.inr ⟨o, e _ _ h⟩)
  · exact .inr h
theorem Same.new {H : Hp} {p : Addr} {o : HO} (h : H p = none) : Same H (upd H p o) := fun b u e => by
  rw [upd_ne (ne_of_none e h)]
  exact e
/-- what H does not know may change -/
theorem Same.mut {H H' : Hp} {p : Addr} {o : HO} (e : Same H H') (h : H p = none) : Same H (upd H' p o) := fun b u hb => by
  rw [upd_ne (ne_of_none hb h)]
  exact e b u hb
theorem Same.then_new {H H' : Hp} {p : Addr} {o : HO} (e : Same H H') (h : H' p = none) : Same H (upd H' p o) := Same.trans e (Same.new h)
section
variable {K : PySem.W.Frag} {H H' : Hp}
mutual
theorem Dp.same (e : Same H H') : ∀ (d : PyData) (v : V), Dp K H v d → Dp K H' v d
  | .none, _, h => by cases h; exact .non
  | .bool b, _, h => by cases h; exact .bl b
  | .int i, _, h => by cases h; exact .int i
  | .str x, _, h => by cases h; exact .str x
  | .list ds, _, h => by
    cases h with
    | lst hs ha => exact .lst (e.seq hs) (Dp.sameAll e ds _ ha)
  | .tuple ds, _, h => by
    cases h with
    | tup hs ha => exact .tup (Same.seqT e hs) (Dp.sameAll e ds _ ha)
  | .dict _, _, h => by cases h
theorem Dp.sameAll (e : Same H H') : ∀ (ds : List PyData) (vs : List V), DpAll K H vs ds → DpAll K H' vs ds
  | [], _, h => by cases h; exact .nil
  | d :: ds, _, h => by
    cases h with
    | cons h1 h2 => exact .cons (Dp.same e d _ h1) (Dp.sameAll e ds _ h2)
end
theorem Dp.to {v : V} {d : PyData} (h : Dp K H v d) (e : Same H H') : Dp K H' v d := Dp.same e d v h
theorem DpAll.to {vs : List V} {ds : List PyData} (h : DpAll K H vs ds) (e : Same H H') : DpAll K H' vs ds := Dp.sameAll e ds vs h
theorem DpAll.length : ∀ {ds : List PyData} {vs : List V}, DpAll K H vs ds → vs.length = ds.length
  | [], _, h => by cases h; rfl
  | d :: ds, _, h => by
    cases h with
    | cons h1 h2 => simp [DpAll.length h2]
theorem DpAll.get : ∀ {ds : List PyData} {vs : List V} {i : Nat} {d : PyData}, DpAll K H vs ds → ds[i]? = some d → ∃ v, vs[i]? = some v ∧ Dp K H v d
  | [], _, i, d, h, e => by simp at e
  | d' :: ds, _, 0, d, h, e => by
    cases h with
    | cons h1 h2 =>
      have e' : d' = d := by simpa using e
      subst e'
      exact ⟨_, rfl, h1⟩
  | d' :: ds, _, i + 1, d, h, e => by
    cases h with
    | cons h1 h2 =>
      obtain ⟨v, a, b⟩ := DpAll.get h2 (by simpa using e)
      exact ⟨v, by simpa using a, b⟩
theorem DpAll.getV : ∀ {ds : List PyData} {vs : List V} {i : Nat} {v : V}, DpAll K H vs ds → vs[i]? = some v → ∃ d, ds[i]? = some d ∧ Dp K H v d
  | [], _, i, d, h, e => by cases h; simp at e
  | d' :: ds, _, 0, d, h, e => by
    cases h with
    | cons h1 h2 =>
      simp at e
      subst e
      exact ⟨_, rfl, h1⟩
  | d' :: ds, _, i + 1, d, h, e => by
    cases h with
    | cons h1 h2 =>
      obtain ⟨v, a, b⟩ := DpAll.getV h2 (by simpa using e)
      exact ⟨v, by simpa using a, b⟩
theorem DpAll.append : ∀ {ds es : List PyData} {vs ws : List V}, DpAll K H vs ds → DpAll K H ws es → DpAll K H (vs ++ ws) (ds ++ es)
  | [], _, _, _, h, h' => by cases h; exact h'
  | d :: ds, _, _, _, h, h' => by
    cases h with
    | cons h1 h2 => exact .cons h1 (DpAll.append h2 h')
theorem DpAll.snoc {ds : List PyData} {vs : List V} {v : V} {d : PyData} (h : DpAll K H vs ds) (h1 : Dp K H v d) : DpAll K H (vs ++ [v]) (ds ++ [d]) := h.append (.cons h1 .nil)
theorem DpAll.take : ∀ {ds : List PyData} {vs : List V} (n : Nat), DpAll K H vs ds → DpAll K H (vs.take n) (ds.take n)
  | [], _, n, h => by cases h; simp; exact .nil
  | d :: ds, _, 0, h => .nil
  | d :: ds, _, n + 1, h => by
    cases h with
    | cons h1 h2 => exact .cons h1 (DpAll.take n h2)
theorem DpAll.drop : ∀ {ds : List PyData} {vs : List V} (n : Nat), DpAll K H vs ds → DpAll K H (vs.drop n) (ds.drop n)
  | [], _, n, h => by cases h; simp; exact .nil
  | d :: ds, _, 0, h => h
  | d :: ds, _, n + 1, h => by
    cases h with
    | cons h1 h2 => exact DpAll.drop n h2
theorem DpAll.set {v : V} {d : PyData} (h1 : Dp K H v d) : ∀ {ds : List PyData} {vs : List V} (n : Nat), DpAll K H vs ds → DpAll K H (vs.set n v) (ds.set n d)
  | [], _, n, h => by cases h; exact .nil
  | _ :: ds, _, 0, h => by
    cases h with
    | cons h0 h2 => exact .cons h1 h2
  | _ :: ds, _, n + 1, h => by
    cases h with
    | cons h0 h2 => exact .cons h0 (DpAll.set h1 n h2)
theorem DpAll.ints : ∀ (ns : List Int), DpAll K H (ns.map V.int) (ns.map PyData.int)
  | [] => .nil
  | n :: ns => .cons (.int n) (DpAll.ints ns)
theorem DpAll.ints_inv : ∀ {ns : List Int} {vs : List V}, DpAll K H vs (ns.map PyData.int) → vs = ns.map V.int
  | [], _, h => by cases h; rfl
  | n :: ns, _, h => by
    cases h with
    | cons h1 h2 =>
      cases h1
      rw [DpAll.ints_inv h2]
      rfl
theorem Dp.int_inv {v : V} {i : Int} (h : Dp K H v (.int i)) : v = .int i := by cases h; rfl
theorem Dp.bl_inv {v : V} {b : Bool} (h : Dp K H v (.bool b)) : v = .bl b := by cases h; rfl
theorem Dp.tup_inv {v : V} {ds : List PyData} (h : Dp K H v (.tuple ds)) : ∃ a xs, v = .ref a ∧ SqT K H a xs ∧ DpAll K H xs ds := by
  cases h with
  | tup hs ha => exact ⟨_, _, rfl, hs, ha⟩
theorem Dp.lst_inv {v : V} {ds : List PyData} (h : Dp K H v (.list ds)) : ∃ a xs, v = .ref a ∧ SqL K H a xs ∧ DpAll K H xs ds := by
  cases h with
  | lst hs ha => exact ⟨_, _, rfl, hs, ha⟩
theorem Dp.ints_tup {v : V} {ns : List Int} (h : Dp K H v (.tuple (ns.map PyData.int))) : ∃ a, v = .ref a ∧ SqT K H a (ns.map V.int) := by
  obtain ⟨a, xs, rfl, hs, ha⟩ := h.tup_inv
  rw [ha.ints_inv] at hs
  exact ⟨a, rfl, hs⟩
theorem Dp.tup_ints {a : Addr} {ns : List Int} (h : SqT K H a (ns.map V.int)) : Dp K H (.ref a) (.tuple (ns.map PyData.int)) := .tup h (DpAll.ints ns)
end
end L2
namespace Ws
open PySem PySem.Spec PyProof.Rows L2
/-! ### max(ints, default=d) -/
theorem fold_max (n : Int) : ∀ ns : List Int, (ns.foldl max n = n ∨ ns.foldl max n ∈ ns) ∧ n ≤ ns.foldl max n ∧ ∀ y ∈ ns, y ≤ ns.foldl max n := by
  intro ns
  induction ns generalizing n with
  | nil => exact ⟨.inl rfl, Int.le_refl _, fun y hy => absurd hy (by simp)⟩
  | cons a r ih =>
    obtain ⟨h1, h2, h3⟩ := ih (max n a)
    simp only [List.foldl_cons]
    refine ⟨?_, by omega, fun y hy => ?_⟩
    · rcases h1 with h1 | h1
      · rw [h1]
        rcases Int.le_total n a with z | z
        · right; rw [Int.max_eq_right z]; exact List.mem_cons_self ..
        · left; exact Int.max_eq_left z
      · right; exact List.mem_cons_of_mem _ h1
    · rcases List.mem_cons.mp hy with e | hy
      · rw [e]; omega
      · exact h3 y hy
theorem alike_ints (ns : List Int) : PySem.W.AlikeAll (ns.map PyData.int) := by
  refine ⟨fun x hx y hy => ?_, fun x hx => ?_⟩
  · obtain ⟨a, _, rfl⟩ := List.mem_map.mp hx
    obtain ⟨b, _, rfl⟩ := List.mem_map.mp hy
    simp [PySem.W.alike]
  · obtain ⟨a, _, rfl⟩ := List.mem_map.mp hx
    intro z
    cases z
theorem depth_ints : ∀ ns : List Int, PyData.depthAll (ns.map PyData.int) = 0
  | [] => rfl
  | n :: ns => by
    show max 0 (PyData.depthAll (ns.map PyData.int)) = 0
    rw [depth_ints ns]
    rfl
def rMaxD (K : PySem.W.Frag) : List V → List V → Hp → VK → Prop := fun xs zs H Q => ∃ (a : Addr) (ns : List Int) (d : V), xs = [.ref a] ∧ zs = [d] ∧ SqL K H a (ns.map V.int) ∧ (ns = [] → Q d H) ∧ ∀ m, m ∈ ns → (∀ y ∈ ns, y ≤ m) → Q (.int m) H
theorem call_maxD {X : Cx} (hc : X.calm = true) (hu : X.A.units + 64 < cLine) : CallRK X (.builtin "max") ["default"] (rMaxD X.K) := by
  intro pins s σ H xs zs us ws Q I r1 r2 h
  obtain ⟨a, ns, d, rfl, rfl, hs, h0, h1⟩ := h
  obtain ⟨u, rfl, ru⟩ := vals1 r1
  obtain ⟨u', rfl, ru'⟩ := vals1 r2
  cases ru
  obtain ⟨its, rv, p, hz⟩ := I.list hs
  obtain ⟨as, hr⟩ := Dp.readsAll I (ns.map PyData.int) (ns.map V.int) its (DpAll.ints ns) rv
  show wpAny _ _ (call (.builtin "max") [.ref a] [(Str.ofString "default", u')]) _ _ _
  refine PySem.W.max_list_default (xs := ns.map PyData.int) (I.ok.hd hc) p.isList (by simpa using hr) (alike_ints ns) (by rw [depth_ints]; omega) (fun e h' tk hk => ?_) (fun y ys i v h' tk bs e hv hR hk => ?_)
  · exact ⟨d, H, I.kept hk, ru', h0 (by simpa using e)⟩
  · cases ns with
    | nil => cases e
    | cons n r =>
      have e1 : PyData.int n = y := by
        simp only [List.map_cons, List.cons.injEq] at e
        exact e.1
      have e2 : r.map PyData.int = ys := by
        simp only [List.map_cons, List.cons.injEq] at e
        exact e.2
      subst e1 e2
      rw [PySem.W.maxD_ints] at hR
      cases hR with
      | int i t =>
        obtain ⟨g1, g2, g3⟩ := fold_max n r
        refine ⟨.int (r.foldl max n), H, I.kept hk, ⟨_, rfl⟩, h1 _ ?_ fun y hy => ?_⟩
        · rcases g1 with g1 | g1
          · rw [g1]; exact List.mem_cons_self ..
          · exact List.mem_cons_of_mem _ g1
        · rcases List.mem_cons.mp hy with e | hy
          · rw [e]; exact g2
          · exact g3 y hy
/-! ### a def as a fact of the module -/
structure Dt (K : PySem.W.Frag) (mg : Str → Option Value) (x : Str) (st : Stmt) (ps : List Str) : Prop where
  ex : ∃ (f : Addr) (fd : FuncData), Fun K x x st f fd ∧ mg x = some (.ref f) ∧ Binds K fd ps []
structure Df (P : Program) (w : World) (K : PySem.W.Frag) (mg : Str → Option Value) (base : Heap) (CX : CXT) (k : Nat) (x : Str) (ps : List Str) (sp : Sp) : Prop where
  ex : ∃ (f : Addr) (fd : FuncData), FnOk P w K mg base CX k f fd ps sp ∧ mg x = some (.ref f) ∧ PySem.W.keepIn K (.ref f) = true ∧ Binds K fd ps []
structure DfG (P : Program) (w : World) (K : PySem.W.Frag) (mg : Str → Option Value) (base : Heap) (CX : CXT) (k : Nat) (x : Str) (ps : List Str) (sp : Sp) : Prop where
  ex : ∃ (f : Addr) (fd : FuncData), FnOkG P w K mg base CX k f fd ps sp ∧ mg x = some (.ref f) ∧ PySem.W.keepIn K (.ref f) = true ∧ Binds K fd ps []
section
variable {P : Program} {w : World} {K : PySem.W.Frag} {mg : Str → Option Value} {base : Heap} {x : Str} {st : Stmt} {N ps : List Str} {k : Nat} {sp : Sp}
theorem Dt.mk' {h : Heap} {f : Addr} {oc : Value} {od an : Option Addr} {osl : Array (Option Value)} {kV doc pm cdv ct : Value} (X : K.In h) (G : h.Ns mainGlobals mg) (a : PySem.W.nsIn K mainGlobals x = some (some (.ref f)))
    (l : K.lookup f = some ⟨oc, od, .func (PySem.W.fnOf x x (defArgs st) (defBody st) (defScope st) .none kV doc pm an cdv ct), osl⟩) (c : PySem.W.codeIn K cdv x = true) (kp : PySem.W.keepIn K (.ref f) = true)
    (hb : ∀ (kV doc pm : Value) (an : Option Addr) (cdv ct : Value) (us : List Value), us.length = ps.length → bindArgs (PySem.W.fnOf x x (defArgs st) (defBody st) (defScope st) .none kV doc pm an cdv ct) ⟨us, []⟩ = pure (ps.zip us)) : Dt K mg x st ps :=
  ⟨f, _, fun_mk l c kp, PySem.W.mg_of X G a, (fun_mk l c kp).binds hb⟩
theorem Dt.ok (D : Dt K mg x st ps) (S : FnScope N ps (defScope st)) (len : ∀ vs H Q E, sp vs H Q E → vs.length = ps.length)
    (hbody : ∀ (f : Addr) (cdv : Value) (A : Around) (outer : List Env) (s : Shared) (H : Hp) (vs : List V) (Q : VK) (E : XK), Room k (A.deeper (envOfC x (defScope st) s.heap.objs.size f cdv)) → sp vs H Q E →
      ∃ t, PSs (cxOf CX0 P w K mg base N x (defScope st) f cdv A outer s H E).nox (defBody st) t ∧ t { nx := fun _ H' => Q .non H', rt := Q } (start N vs) H) : Df P w K mg base CX0 (k + 1) x ps sp := by
  obtain ⟨f, fd, F, m, b⟩ := D.ex
  exact ⟨f, fd, F.ok S len (hbody f), m, F.kp, b⟩
theorem Dt.okX (D : Dt K mg x st ps) (S : FnScope N ps (defScope st)) (len : ∀ vs H Q E, sp vs H Q E → vs.length = ps.length)
    (hbody : ∀ (f : Addr) (cdv : Value) (A : Around) (outer : List Env) (s : Shared) (H : Hp) (vs : List V) (Q : VK) (E : XK), Room k (A.deeper (envOfC x (defScope st) s.heap.objs.size f cdv)) → sp vs H Q E →
      ∃ t, PSs (cxOf (L2.CX P w) P w K mg base N x (defScope st) f cdv A outer s H E) (defBody st) t ∧ t { nx := fun _ H' => Q .non H', rt := Q } (start N vs) H) : Df P w K mg base (L2.CX P w) (k + 1) x ps sp := by
  obtain ⟨f, fd, F, m, b⟩ := D.ex
  exact ⟨f, fd, F.okX S len (hbody f), m, F.kp, b⟩
theorem Dt.okG (D : Dt K mg x st ps) (S : FnScope N ps (defScope st)) (len : ∀ vs H Q E, sp vs H Q E → vs.length = ps.length)
    (hbody : ∀ (f : Addr) (cdv : Value) (A : Around) (outer : List Env) (s : Shared) (H : Hp) (vs : List V) (Q : VK) (E : XK), A.guards = some [] → Room k (A.deeper (envOfC x (defScope st) s.heap.objs.size f cdv)) → sp vs H Q E →
      ∃ t, PSs (cxOf CX0 P w K mg base N x (defScope st) f cdv A outer s H E).nox (defBody st) t ∧ t { nx := fun _ H' => Q .non H', rt := Q } (start N vs) H) : DfG P w K mg base CX0 (k + 1) x ps sp := by
  obtain ⟨f, fd, F, m, b⟩ := D.ex
  obtain ⟨oc, od, kV, doc, pm, an, cdv, ct, osl, rfl, lk, hcd⟩ := F.ex
  refine ⟨f, _, fn_ofG lk hcd S len fun A outer s H vs Q E hg hr hsp => ?_, m, F.kp, b⟩
  obtain ⟨t, h, q⟩ := hbody f cdv A outer s H vs Q E hg hr hsp
  exact ⟨t, h.nox, q⟩
theorem Df.g {CX : CXT} (D : Df P w K mg base CX k x ps sp) : DfG P w K mg base CX k x ps sp := let ⟨f, fd, a, b, c, d⟩ := D.ex; ⟨f, fd, .of a, b, c, d⟩
end
section
variable {X : Cx} {CX : CXT} {k : Nat} {ps : List Str} {sp : Sp} {E : XK} {x : Str} {p pos : Pos} {e : Expr} {es : List Expr} {t : TA}
theorem pe_f (D : Df X.prog X.w X.K X.mg X.base CX k x ps sp) (hr : Room k X.A) (hx : Passes CX X E)
    (ha : PA X (e :: es) t) (hg : Gl X x := by rfl) (hdb : (x == ("__debug__" : Str)) = false := by decide) (he : starEach (e :: es) X.env = (false, eval e X.env) :: starEach es X.env := by rfl) (hpl : (backTo pos (starEach es X.env)).any (·.1) = false := by rfl) :
    PE X (.Call (.Name x p) (e :: es) [] pos) (tCa sp E t) := by
  obtain ⟨f, fd, F, m, kp, b⟩ := D.ex
  refine ⟨fun pins s σ H Q I h => ?_⟩
  refine (pe_call (dvs := []) F hr hg m kp b .nil hx ha hdb he hpl).run pins s σ H Q I ?_
  have e1 : tCall sp [] E t = tCa sp E t := by
    unfold tCall tCa
    simp only [List.append_nil]
  rw [e1]
  exact h
theorem pe_fG (D : DfG X.prog X.w X.K X.mg X.base CX k x ps sp) (hG : X.A.guards = some []) (hr : Room k X.A) (hx : Passes CX X E)
    (ha : PA X (e :: es) t) (hg : Gl X x := by rfl) (hdb : (x == ("__debug__" : Str)) = false := by decide) (he : starEach (e :: es) X.env = (false, eval e X.env) :: starEach es X.env := by rfl) (hpl : (backTo pos (starEach es X.env)).any (·.1) = false := by rfl) :
    PE X (.Call (.Name x p) (e :: es) [] pos) (tCa sp E t) := by
  obtain ⟨f, fd, F, m, kp, b⟩ := D.ex
  exact pe_callG F hG hr hg m kp b hx ha hdb he hpl
theorem pe_fS {E : L2.St → XK} (D : Df X.prog X.w X.K X.mg X.base CX k x ps sp) (hr : Room k X.A) (hx : ∀ σ, PassesAt CX X σ (E σ))
    (ha : PA X (e :: es) t) (hg : Gl X x := by rfl) (hdb : (x == ("__debug__" : Str)) = false := by decide) (he : starEach (e :: es) X.env = (false, eval e X.env) :: starEach es X.env := by rfl) (hpl : (backTo pos (starEach es X.env)).any (·.1) = false := by rfl) :
    PE X (.Call (.Name x p) (e :: es) [] pos) (tCallS sp E t) := by
  obtain ⟨f, fd, F, m, kp, b⟩ := D.ex
  exact pe_callS F hr hg m kp b hx ha hdb he hpl
end
end Ws
/-! ## M14 -/
namespace Ws
open PySem
/-! ### the mathematics of columns -/
/-- the digit of n at k, in base two -/
def dig (n k : Nat) : Nat := n / 2 ^ k % 2
/-- the number of the column k -/
def colAt : List Nat → Nat → Nat
  | [], _ => 0
  | n :: ns, k => dig n k + 2 * colAt ns k
def bits (n : Nat) : Nat := if n = 0 then 0 else n.log2 + 1
def nbits : List Nat → Nat
  | [] => 0
  | n :: ns => max (bits n) (nbits ns)
def cols (ns : List Nat) : List Nat := (List.range (nbits ns)).map (colAt ns)
theorem dig_01 (n k : Nat) : dig n k = 0 ∨ dig n k = 1 := by unfold dig; omega
theorem pow_pos' (k : Nat) : 0 < 2 ^ k := Nat.two_pow_pos k
theorem div_zero_iff (n k : Nat) : n / 2 ^ k = 0 ↔ bits n ≤ k := by
  rw [Nat.div_eq_zero_iff]
  unfold bits
  have hp := pow_pos' k
  by_cases h : n = 0
  · subst h; simp [hp]
  · rw [if_neg h]
    have := Nat.log2_lt (n := n) (k := k) h
    omega
theorem nbits_le {ns : List Nat} {k : Nat} : nbits ns ≤ k ↔ ∀ n ∈ ns, n / 2 ^ k = 0 := by
  induction ns with
  | nil => simp [nbits]
  | cons n ns ih =>
    simp only [nbits, List.mem_cons, forall_eq_or_imp, Nat.max_le, ih, div_zero_iff]
theorem colAt_lt (ns : List Nat) (k : Nat) : colAt ns k < 2 ^ ns.length := by
  induction ns with
  | nil => simp [colAt]
  | cons n ns ih =>
    have := dig_01 n k
    simp only [colAt, List.length_cons, Nat.pow_succ]
    omega
/-- the digit of a column at a place is the digit of the number there -/
theorem dig_colAt : ∀ (ns : List Nat) (k p : Nat), dig (colAt ns k) p = dig (ns.getD p 0) k
  | [], k, p => by simp [colAt, dig]
  | n :: ns, k, 0 => by
    have := dig_01 n k
    show (dig n k + 2 * colAt ns k) / 2 ^ 0 % 2 = dig n k
    simp only [Nat.pow_zero, Nat.div_one]
    omega
  | n :: ns, k, p + 1 => by
    have h1 := dig_01 n k
    have ih := dig_colAt ns k p
    show (dig n k + 2 * colAt ns k) / 2 ^ (p + 1) % 2 = dig (ns.getD p 0) k
    rw [← ih]
    show _ = colAt ns k / 2 ^ p % 2
    rw [Nat.pow_succ, Nat.mul_comm (2 ^ p) 2, ← Nat.div_div_eq_div_mul]
    have e : (dig n k + 2 * colAt ns k) / 2 = colAt ns k := by omega
    rw [e]
theorem sum_append' (a b : List Nat) : (a ++ b).sum = a.sum + b.sum := by simp
/-- a number is the sum of its digits' weights -/
theorem sum_digs (n : Nat) : ∀ m, ((List.range m).map fun k => dig n k * 2 ^ k).sum = n % 2 ^ m
  | 0 => by simp [Nat.mod_one]
  | m + 1 => by
    rw [List.range_succ, List.map_append, List.sum_append, sum_digs n m, Nat.mod_pow_succ]
    simp [dig, Nat.mul_comm]
theorem bits_lt (n : Nat) : n < 2 ^ bits n := by
  have := (div_zero_iff n (bits n)).mpr (Nat.le_refl _)
  rw [Nat.div_eq_zero_iff] at this
  have hp := pow_pos' (bits n)
  omega
theorem bits_le_nbits {ns : List Nat} {n : Nat} (h : n ∈ ns) : bits n ≤ nbits ns := by
  induction ns with
  | nil => simp at h
  | cons a r ih =>
    simp only [nbits]
    rcases List.mem_cons.mp h with e | h
    · subst e; omega
    · have := ih h; omega
/-- the row that has columns cs -/
def rowNum (cs : List Nat) (p : Nat) : Nat := ((List.range cs.length).map fun k => dig (cs.getD k 0) p * 2 ^ k).sum
theorem getD_append_lt {α : Type} {a b : List α} {k : Nat} {d : α} (h : k < a.length) : (a ++ b).getD k d = a.getD k d := by
  simp [List.getD_eq_getElem?_getD, List.getElem?_append_left h]
theorem cols_getD {ns : List Nat} {k : Nat} (h : k < nbits ns) : (cols ns).getD k 0 = colAt ns k := by
  simp [cols, List.getD_eq_getElem?_getD, h]
theorem dig_cols {ns : List Nat} {z k p : Nat} (h : k < nbits ns + z) : dig ((cols ns ++ List.replicate z 0).getD k 0) p = dig (ns.getD p 0) k := by
  by_cases c : k < nbits ns
  · rw [getD_append_lt (by simp [cols]; omega), cols_getD c, dig_colAt]
  · have e : (cols ns ++ List.replicate z 0).getD k 0 = 0 := by
      rw [List.getD_eq_getElem?_getD, List.getElem?_append_right (by simp [cols]; omega)]
      by_cases c2 : k - (cols ns).length < z
      · simp [c2]
      · simp [c2]
    rw [e]
    by_cases hp : p < ns.length
    · have hm : ns.getD p 0 ∈ ns := by simp [List.getD_eq_getElem?_getD, hp]
      have hb := bits_le_nbits hm
      have : ns.getD p 0 / 2 ^ k = 0 := (div_zero_iff _ _).mpr (by omega)
      show 0 / 2 ^ p % 2 = ns.getD p 0 / 2 ^ k % 2
      rw [this]
      simp
    · have : ns.getD p 0 = 0 := by simp [List.getD_eq_getElem?_getD, hp]
      rw [this]
      simp [dig]
theorem row_back (ns : List Nat) (z p : Nat) : rowNum (cols ns ++ List.replicate z 0) p = ns.getD p 0 := by
  unfold rowNum
  have hl : (cols ns ++ List.replicate z 0).length = nbits ns + z := by simp [cols]
  rw [hl]
  have e : (List.range (nbits ns + z)).map (fun k => dig ((cols ns ++ List.replicate z 0).getD k 0) p * 2 ^ k) = (List.range (nbits ns + z)).map fun k => dig (ns.getD p 0) k * 2 ^ k := by
    refine List.map_congr_left fun k hk => ?_
    rw [dig_cols (List.mem_range.mp hk)]
  rw [e, sum_digs]
  refine Nat.mod_eq_of_lt ?_
  by_cases hp : p < ns.length
  · have hm : ns.getD p 0 ∈ ns := by simp [List.getD_eq_getElem?_getD, hp]
    have hb := bits_le_nbits hm
    exact Nat.lt_of_lt_of_le (bits_lt _) (Nat.pow_le_pow_right (by decide) (by omega))
  · have : ns.getD p 0 = 0 := by simp [List.getD_eq_getElem?_getD, hp]
    rw [this]
    exact pow_pos' _
/-- the sum that column_at makes -/
theorem colAt_sum : ∀ (ns : List Nat) (k : Nat), ((List.range ns.length).map fun i => dig (ns.getD i 0) k * 2 ^ i).sum = colAt ns k
  | [], k => rfl
  | n :: ns, k => by
    have ih := colAt_sum ns k
    simp only [List.length_cons, List.range_succ_eq_map, List.map_cons, List.sum_cons, List.map_map, colAt]
    have e : (List.range ns.length).map ((fun i => dig ((n :: ns).getD i 0) k * 2 ^ i) ∘ Nat.succ) = (List.range ns.length).map (fun i => 2 * (dig (ns.getD i 0) k * 2 ^ i)) := by
      refine List.map_congr_left fun i _ => ?_
      simp only [Function.comp, Nat.succ_eq_add_one, List.getD_cons_succ, Nat.pow_succ]
      rw [Nat.mul_comm (2 ^ i) 2, Nat.mul_left_comm]
    rw [e]
    have e2 : ∀ l : List Nat, (l.map fun i => 2 * (dig (ns.getD i 0) k * 2 ^ i)).sum = 2 * (l.map fun i => dig (ns.getD i 0) k * 2 ^ i).sum := by
      intro l
      induction l with
      | nil => rfl
      | cons a r ih => simp only [List.map_cons, List.sum_cons, ih]; omega
    rw [e2, ih]
    simp
end Ws
/-! ## K14a -/
namespace Ws
open PySem PySem.Spec PyProof.Rows L2
def top (i : Nat) : Stmt := PySem.Challenge.pw_wholesay_k14_machines_and_their_runs.main.body.getD i (.Pass ⟨0, 0, 0, 0⟩)
/-! ### what kind of data -/
def tyName : PyData → String
  | .none => "NoneType"
  | .bool _ => "bool"
  | .int _ => "int"
  | .str _ => "str"
  | .list _ => "list"
  | .tuple _ => "tuple"
  | .dict _ => "dict"
def isI : PyData → Bool
  | .int _ => true
  | _ => false
def isBo : PyData → Bool
  | .bool _ => true
  | _ => false
def isIB (d : PyData) : Bool := isI d || isBo d
def isT : PyData → Bool
  | .tuple _ => true
  | _ => false
def isBt (d : PyData) (lo hi : Int) : Bool := match d with
  | .int i => decide (lo ≤ i) && decide (i ≤ hi)
  | _ => false
def isTn (d : PyData) (n : Int) : Bool := match d with
  | .tuple xs => decide ((xs.length : Int) = n)
  | _ => false
def areB (d : PyData) (lo hi : Int) : Bool := match d with
  | .tuple xs => xs.all fun x => isBt x lo hi
  | _ => false
section
variable {K : PySem.W.Frag} {H : Hp} {v : V} {d : PyData}
theorem dp_ty (h : Dp K H v d) : TyX K H v (.type (tyName d)) := by
  cases h with
  | non => exact .base .non
  | bl b => exact .base (.bl b)
  | int i => exact .base (.int i)
  | str x => exact .base (.str x)
  | lst hs ha =>
    rcases hs with (hs | ⟨o, hs⟩) | ⟨o, its, n, hk, hc, _⟩
    · exact .base (.lst hs)
    · exact .base (.frz hs)
    · exact .kList hk hc
  | tup hs ha =>
    rcases hs with (hs | ⟨o, hs⟩) | ⟨o, its, n, hk, hc, _⟩
    · exact .base (.tup hs)
    · exact .fTuple hs
    · exact .kTuple hk hc
theorem kit_int : ∀ d : PyData, PySem.W.kitOne K (.type (tyName d)) (.type "int") = some (isIB d)
  | .none => kit_ty (by decide +kernel)
  | .bool _ => kit_ty (by show kitB "bool" "int" = some true; decide +kernel)
  | .int _ => kit_ty (by show kitB "int" "int" = some true; decide +kernel)
  | .str _ => kit_ty (by show kitB "str" "int" = some false; decide +kernel)
  | .list _ => kit_ty (by show kitB "list" "int" = some false; decide +kernel)
  | .tuple _ => kit_ty (by show kitB "tuple" "int" = some false; decide +kernel)
  | .dict _ => kit_ty (by show kitB "dict" "int" = some false; decide +kernel)
theorem kit_bool : ∀ d : PyData, PySem.W.kitOne K (.type (tyName d)) (.type "bool") = some (isBo d)
  | .none => kit_ty (by decide +kernel)
  | .bool _ => kit_ty (by show kitB "bool" "bool" = some true; decide +kernel)
  | .int _ => kit_ty (by show kitB "int" "bool" = some false; decide +kernel)
  | .str _ => kit_ty (by show kitB "str" "bool" = some false; decide +kernel)
  | .list _ => kit_ty (by show kitB "list" "bool" = some false; decide +kernel)
  | .tuple _ => kit_ty (by show kitB "tuple" "bool" = some false; decide +kernel)
  | .dict _ => kit_ty (by show kitB "dict" "bool" = some false; decide +kernel)
theorem kit_tuple : ∀ d : PyData, PySem.W.kitOne K (.type (tyName d)) (.type "tuple") = some (isT d)
  | .none => kit_ty (by decide +kernel)
  | .bool _ => kit_ty (by show kitB "bool" "tuple" = some false; decide +kernel)
  | .int _ => kit_ty (by show kitB "int" "tuple" = some false; decide +kernel)
  | .str _ => kit_ty (by show kitB "str" "tuple" = some false; decide +kernel)
  | .list _ => kit_ty (by show kitB "list" "tuple" = some false; decide +kernel)
  | .tuple _ => kit_ty (by show kitB "tuple" "tuple" = some true; decide +kernel)
  | .dict _ => kit_ty (by show kitB "dict" "tuple" = some false; decide +kernel)
/-- what isinstance(x, int) asks and gives | .. bool | .. tuple -/
theorem isi_int {Q : VK} (h : Dp K H v d) (q : Q (.bl (isIB d)) H) : rIsi K [v, .ty "int"] H Q := ⟨v, _, _, _, _, rfl, .ty _, dp_ty h, kit_int d, q⟩
theorem isi_bool {Q : VK} (h : Dp K H v d) (q : Q (.bl (isBo d)) H) : rIsi K [v, .ty "bool"] H Q := ⟨v, _, _, _, _, rfl, .ty _, dp_ty h, kit_bool d, q⟩
theorem isi_tuple {Q : VK} (h : Dp K H v d) (q : Q (.bl (isT d)) H) : rIsi K [v, .ty "tuple"] H Q := ⟨v, _, _, _, _, rfl, .ty _, dp_ty h, kit_tuple d, q⟩
end
/-! ### what the top has written -/
structure Bl (mg : Str → Option Value) : Prop where
  isinstance : mg "isinstance" = none
  int : mg "int" = none
  bool : mg "bool" = none
  tuple : mg "tuple" = none
  list : mg "list" = none
  len : mg "len" = none
  all : mg "all" = none
  sum : mg "sum" = none
  max : mg "max" = none
  min : mg "min" = none
  range : mg "range" = none
  enumerate : mg "enumerate" = none
  repr : mg "repr" = none
local macro_rules | `(tactic| walk_at "nf") => `(tactic| dsimp only [tNext, tSeq, tDrop, tRet, tRetN, tIfS, tAsg, gName, gCons, gNil, tVar, tC, tOp, tUn, rI, rI0, rU, rEq, rNe, tTest, tChain, tAnd, tOr, tNot, tAndV, tOrV, tNotV, tIf, tCB, tCKw, tCons, tNil, tTup, tLst, tCa, tCallS, tB, rIxT, rIxL, rIxS, cxOf, Cx.nox, Cx.wish, Cx.blk, L2.start, tPar, tPar3, tNever, tYes])
local macro_rules | `(tactic| walk_at "sx") => `(tactic| simp only [wipe, List.map_cons, List.map_nil, List.length_cons, List.length_nil, List.cons_append, List.nil_append, List.append_nil, Nat.reduceAdd, Nat.reduceSub, List.replicate, List.getElem?_cons_zero, List.getElem?_cons_succ, List.set_cons_zero, List.set_cons_succ, Option.some.injEq, V.int.injEq, V.bl.injEq, V.ref.injEq, V.str.injEq, exists_eq_left', exists_eq_left, true_and, Bool.true_eq_false, Bool.false_eq_true, if_true, if_false])
/-! ### wholesay.kinds -/
def spIsInteger (K : PySem.W.Frag) : Sp := fun vs H Q _ => ∃ v d, vs = [v] ∧ Dp K H v d ∧ Q (.bl (isI d)) H
def spIsBetween (K : PySem.W.Frag) : Sp := fun vs H Q _ => ∃ v d lo hi, vs = [v, .int lo, .int hi] ∧ Dp K H v d ∧ Q (.bl (isBt d lo hi)) H
def spIsTupleOf (K : PySem.W.Frag) : Sp := fun vs H Q _ => ∃ v d n, vs = [v, .int n] ∧ Dp K H v d ∧ Q (.bl (isTn d n)) H
def spAreBetween (K : PySem.W.Frag) : Sp := fun vs H Q _ => ∃ v d lo hi, vs = [v, .int lo, .int hi] ∧ Dp K H v d ∧ (∀ ds, d = .tuple ds → ds.length < 100000) ∧ ∀ H', Same H H' → Q (.bl (areB d lo hi)) H'
def spIsRow (K : PySem.W.Frag) : Sp := fun vs H Q _ => ∃ v d n, vs = [v, .int n] ∧ Dp K H v d ∧ n < 100000 ∧ ∀ H', Same H H' → Q (.bl (isTn d n && areB d 0 (10 ^ 60))) H'
abbrev s_is_integer : Stmt := top 12
abbrev nm_is_integer : List Str := ["value"]
abbrev pr_is_integer : List Str := ["value"]
theorem sc_is_integer : FnScope nm_is_integer pr_is_integer (defScope s_is_integer) := ⟨rfl, rfl, rfl, by decide +kernel, rfl, by decide +kernel, by decide +kernel⟩
abbrev s_is_between : Stmt := top 13
abbrev nm_is_between : List Str := ["value", "low", "high"]
abbrev pr_is_between : List Str := ["value", "low", "high"]
theorem sc_is_between : FnScope nm_is_between pr_is_between (defScope s_is_between) := ⟨rfl, rfl, rfl, by decide +kernel, rfl, by decide +kernel, by decide +kernel⟩
abbrev s_is_tuple_of : Stmt := top 14
abbrev nm_is_tuple_of : List Str := ["value", "many"]
abbrev pr_is_tuple_of : List Str := ["value", "many"]
theorem sc_is_tuple_of : FnScope nm_is_tuple_of pr_is_tuple_of (defScope s_is_tuple_of) := ⟨rfl, rfl, rfl, by decide +kernel, rfl, by decide +kernel, by decide +kernel⟩
abbrev s_are_between : Stmt := top 15
abbrev nm_are_between : List Str := ["value", "low", "high", "item"]
abbrev pr_are_between : List Str := ["value", "low", "high"]
theorem sc_are_between : FnScope nm_are_between pr_are_between (defScope s_are_between) := ⟨rfl, rfl, rfl, by decide +kernel, rfl, by decide +kernel, by decide +kernel⟩
abbrev s_is_row : Stmt := top 16
abbrev nm_is_row : List Str := ["value", "many"]
abbrev pr_is_row : List Str := ["value", "many"]
theorem sc_is_row : FnScope nm_is_row pr_is_row (defScope s_is_row) := ⟨rfl, rfl, rfl, by decide +kernel, rfl, by decide +kernel, by decide +kernel⟩
structure Cs (mg : Str → Option Value) : Prop where
  MOST_NUMBER : ∃ t, mg "MOST_NUMBER" = some (.int (10 ^ 60) t)
  MOST_COLUMNS : ∃ t, mg "MOST_COLUMNS" = some (.int 1000 t)
  MOST_STATES : ∃ t, mg "MOST_STATES" = some (.int 600 t)
section
variable {P : Program} {w : World} {K : PySem.W.Frag} {mg : Str → Option Value} {base : Heap}
structure FnA (P : Program) (w : World) (K : PySem.W.Frag) (mg : Str → Option Value) (base : Heap) : Prop where
  is_integer : Df P w K mg base CX0 1 "is_integer" pr_is_integer (spIsInteger K)
  is_between : Df P w K mg base CX0 2 "is_between" pr_is_between (spIsBetween K)
  is_tuple_of : Df P w K mg base CX0 1 "is_tuple_of" pr_is_tuple_of (spIsTupleOf K)
  are_between : Df P w K mg base CX0 3 "are_between" pr_are_between (spAreBetween K)
  is_row : Df P w K mg base CX0 4 "is_row" pr_is_row (spIsRow K)
theorem ok_is_integer (B : Bl mg) (D : Dt K mg "is_integer" s_is_integer pr_is_integer) : Df P w K mg base CX0 1 "is_integer" pr_is_integer (spIsInteger K) := by
  refine D.ok sc_is_integer (fun vs H Q E h => ?_) (fun f cdv A outer s H vs Q E hr h => ?_)
  · obtain ⟨v, d, rfl, _⟩ := h
    rfl
  · obtain ⟨v, d, rfl, hd, k⟩ := h
    refine ⟨_, (pss_one (ps_ret (pe_and (pe_callB call_isi (by rfl) B.isinstance boot_isinstance (pa_cons (pv 0) (pa_cons (pe_bltn (v := .ty "int") (by rfl) B.int PyProof.Rows.boot_int rfl) pa_nil))) (pe_one (pe_not (pe_callB call_isi (by rfl) B.isinstance boot_isinstance (pa_cons (pv 0) (pa_cons (pe_bltn (v := .ty "bool") (by rfl) B.bool PyProof.Rows.boot_bool rfl) pa_nil)))))))), ?_⟩
    walk_at "nf"
    walk_at "sx"
    refine isi_int hd ⟨_, rfl, ?_⟩
    cases hx : isIB d with
    | true =>
      refine iteT (isi_bool hd ⟨_, rfl, ?_⟩)
      have e : (!isBo d) = isI d := by cases d <;> first | rfl | (simp [isIB, isI, isBo] at hx)
      rw [e]
      exact k
    | false =>
      refine iteF ?_
      have e : isI d = false := by cases d <;> first | rfl | (simp [isIB, isI, isBo] at hx)
      rw [← e]
      exact k
theorem ok_is_between (B : Bl mg) (F1 : Df P w K mg base CX0 1 "is_integer" pr_is_integer (spIsInteger K)) (D : Dt K mg "is_between" s_is_between pr_is_between) : Df P w K mg base CX0 2 "is_between" pr_is_between (spIsBetween K) := by
  refine D.ok sc_is_between (fun vs H Q E h => ?_) (fun f cdv A outer s H vs Q E hr h => ?_)
  · obtain ⟨v, d, lo, hi, rfl, _⟩ := h
    rfl
  · obtain ⟨v, d, lo, hi, rfl, hd, k⟩ := h
    refine ⟨_, (pss_one (ps_ret (pe_and (pe_f F1 (hr.mono (by decide)) pass0 (pa_cons (pv 0) pa_nil)) (pe_one (pe_chain op_le op_le (pv 1) (pv 0) (pv 2)))))), ?_⟩
    walk_at "nf"
    walk_at "sx"
    refine ⟨v, d, rfl, hd, _, rfl, ?_⟩
    cases hd with
    | int i =>
      refine iteT ⟨lo, i, rfl, rfl, ?_⟩
      by_cases c : lo ≤ i
      · rw [decide_eq_true c]
        refine iteT ⟨i, hi, rfl, rfl, ?_⟩
        have e : isBt (.int i) lo hi = decide (i ≤ hi) := by simp [isBt, c]
        rw [← e]
        exact k
      · rw [decide_eq_false c]
        refine iteF ?_
        have e : isBt (.int i) lo hi = false := by simp [isBt, c]
        rw [← e]
        exact k
    | _ => exact iteF k
theorem ok_is_tuple_of (B : Bl mg) (D : Dt K mg "is_tuple_of" s_is_tuple_of pr_is_tuple_of) : Df P w K mg base CX0 1 "is_tuple_of" pr_is_tuple_of (spIsTupleOf K) := by
  refine D.ok sc_is_tuple_of (fun vs H Q E h => ?_) (fun f cdv A outer s H vs Q E hr h => ?_)
  · obtain ⟨v, d, n, rfl, _⟩ := h
    rfl
  · obtain ⟨v, d, n, rfl, hd, k⟩ := h
    refine ⟨_, (pss_one (ps_ret (pe_and (pe_callB call_isi (by rfl) B.isinstance boot_isinstance (pa_cons (pv 0) (pa_cons (pe_bltn (v := .ty "tuple") (by rfl) B.tuple PyProof.Rows.boot_tuple rfl) pa_nil))) (pe_one (pe_cmpR op_eq (pe_callB call_len_seq (by rfl) B.len PySem.boot_len (pa_cons (pv 0) pa_nil)) (pv 1) (nomark _)))))), ?_⟩
    walk_at "nf"
    walk_at "sx"
    refine isi_tuple hd ⟨_, rfl, ?_⟩
    cases hd with
    | tup hs ha =>
      refine iteT ⟨_, _, rfl, .inr hs, rfl, ?_⟩
      rename_i a xs ds
      have e : isTn (.tuple ds) n = decide (((xs.length : Nat) : Int) = n) := by
        have := ha.length
        simp only [isTn, this]
      rw [← e]
      exact k
    | _ => exact iteF k
theorem slt {n : Nat} (h : n < 100000) : n < sizeLine := Nat.lt_of_lt_of_le h (by decide)
/-- a comprehension of scalars that changes nothing but its own list -/
theorem lcS {J : It} {n : Nat} {G : Hp → Prop} {Y : Nat → Hp → V → Hp → Prop} (w : Walk J n G Y) {g : TG} {te : TE} {vs : List Nat} {σ : L2.St} {H1 : Hp} {D : Addr} {Qd : Hp → Prop} (hD : H1 D = none) (hn : n < sizeLine) (R : Nat → V → Prop)
    (hG : ∀ H, Same H1 H → G H)
    (hs : ∀ i x H H' (Q : VK), i < n → Same H1 H → Y i H x H' → (∀ y H4, R i y → Same H H4 → Q y H4) → g x (wipe σ vs) H' fun σ2 H2 => wipe σ2 vs = wipe σ vs ∧ te σ2 H2 Q)
    (hd : ∀ H ys, Same H1 H → H D = some (.lst ys) → ys.length = n → (∀ i y, ys[i]? = some y → R i y) → Qd H) :
    ∃ W : Nat → Nat → Hp → Prop, (∃ m, W 0 m (upd H1 D (.lst []))) ∧ ∀ i m H, W i m H →
      (J.stop i H ∧ Qd H) ∨ (J.go i H ∧ ∃ Nx : Hp → Prop, (∀ H', Nx H' → ∃ m', m' < m ∧ W (i + 1) m' H') ∧ ∀ x H', J.yld i H x H' → g x (wipe σ vs) H' fun σ2 H2 => wipe σ2 vs = wipe σ vs ∧ tYes σ2 H2 fun b H3 =>
        if b = true then te σ2 H3 fun y H4 => ∃ acc, H4 D = some (.lst acc) ∧ acc.length < sizeLine ∧ Nx (upd H4 D (.lst (acc ++ [y]))) else Nx H3) := by
  refine lc_it w (fun i H => Same H1 H ∧ ∃ ys, H D = some (.lst ys) ∧ ys.length = i ∧ ∀ j y, ys[j]? = some y → R j y) ⟨Same.new hD, [], upd_same, rfl, fun j y h => by simp at h⟩ (fun i H _ p => hG H p.1) (fun i x H H' hi p y => ?_) (fun H p => ?_)
  · obtain ⟨s, ys, hy, hl, hr⟩ := p
    have q := hs i x H H' (fun y H4 => ∃ acc, H4 D = some (.lst acc) ∧ acc.length < sizeLine ∧ Same H1 (upd H4 D (.lst (acc ++ [y]))) ∧ ∃ ys, (upd H4 D (.lst (acc ++ [y]))) D = some (.lst ys) ∧ ys.length = i + 1 ∧ ∀ j y, ys[j]? = some y → R j y) hi s y (fun v H4 r s4 => ?_)
    · have e : (fun σ2 H2 => wipe σ2 vs = wipe σ vs ∧ tYes σ2 H2 fun b H3 =>
        if b = true then te σ2 H3 fun y H4 => ∃ acc, H4 D = some (.lst acc) ∧ acc.length < sizeLine ∧ Same H1 (upd H4 D (.lst (acc ++ [y]))) ∧ ∃ ys, (upd H4 D (.lst (acc ++ [y]))) D = some (.lst ys) ∧ ys.length = i + 1 ∧ ∀ j y, ys[j]? = some y → R j y
        else Same H1 H3 ∧ ∃ ys, H3 D = some (.lst ys) ∧ ys.length = i + 1 ∧ ∀ j y, ys[j]? = some y → R j y) =
        (fun σ2 H2 => wipe σ2 vs = wipe σ vs ∧ te σ2 H2 fun y H4 => ∃ acc, H4 D = some (.lst acc) ∧ acc.length < sizeLine ∧ Same H1 (upd H4 D (.lst (acc ++ [y]))) ∧ ∃ ys, (upd H4 D (.lst (acc ++ [y]))) D = some (.lst ys) ∧ ys.length = i + 1 ∧ ∀ j y, ys[j]? = some y → R j y) := by
        funext σ2 H2
        simp only [tYes, if_true]
      rw [e]
      exact q
    · refine ⟨ys, s4 _ _ hy, by omega, (Same.trans s s4).mut hD, _, upd_same, by simp [hl], fun j z hz => ?_⟩
      by_cases hj : j < ys.length
      · rw [List.getElem?_append_left hj] at hz
        exact hr j z hz
      · rw [List.getElem?_append_right (by omega)] at hz
        have e : j = i := by
          have := (List.getElem?_eq_some_iff.mp hz).1
          simp at this
          omega
        subst e
        rw [hl, Nat.sub_self] at hz
        simp at hz
        rw [← hz]
        exact r
  · obtain ⟨s, ys, hy, hl, hr⟩ := p
    exact hd H ys s hy hl hr
theorem vals_bl {n : Nat} {ys : List V} {f : Nat → Bool} (hl : ys.length = n) (h : ∀ i y, ys[i]? = some y → y = V.bl (f i)) : ys = ((List.range n).map f).map V.bl := by
  refine List.ext_getElem? fun i => ?_
  by_cases hi : i < n
  · have hi' : i < ys.length := by omega
    have e := h i ys[i] (by simp [hi'])
    simp [hi, hi', e]
  · rw [List.getElem?_eq_none (by omega), List.getElem?_eq_none (by simp; omega)]
theorem vals_int {n : Nat} {ys : List V} {f : Nat → Int} (hl : ys.length = n) (h : ∀ i y, ys[i]? = some y → y = V.int (f i)) : ys = ((List.range n).map f).map V.int := by
  refine List.ext_getElem? fun i => ?_
  by_cases hi : i < n
  · have hi' : i < ys.length := by omega
    have e := h i ys[i] (by simp [hi'])
    simp [hi, hi', e]
  · rw [List.getElem?_eq_none (by omega), List.getElem?_eq_none (by simp; omega)]
theorem SqT.size {K : PySem.W.Frag} {X : Cx} {pins : List (Addr × Obj)} {σ : L2.St} {H : Hp} {s : Shared} {a : Addr} {xs : List V} (I : Inv X pins σ H s) (h : SqT X.K H a xs) : xs.length ≤ sizeLine := (I.tuple h).choose_spec.2.2
theorem ok_are_between (B : Bl mg) (F1 : Df P w K mg base CX0 2 "is_between" pr_is_between (spIsBetween K)) (D : Dt K mg "are_between" s_are_between pr_are_between) : Df P w K mg base CX0 3 "are_between" pr_are_between (spAreBetween K) := by
  refine D.ok sc_are_between (fun vs H Q E h => ?_) (fun f cdv A outer s H vs Q E hr h => ?_)
  · obtain ⟨v, d, lo, hi, rfl, _⟩ := h
    rfl
  · obtain ⟨v, d, lo, hi, rfl, hd, hz, k⟩ := h
    refine ⟨_, (pss_one (ps_ret (pe_and (pe_callB call_isi (by rfl) B.isinstance boot_isinstance (pa_cons (pv 0) (pa_cons (pe_bltn (v := .ty "tuple") (by rfl) B.tuple PyProof.Rows.boot_tuple rfl) pa_nil))) (pe_one (pe_callB (cr_all rfl) (by rfl) B.all boot_all (pa_cons (pe_lc (own := [("item", 3)]) (g := gName 3) (tt := tYes) (by rfl) sc_are_between.nd (pi_tup (pv 0)) (blkOk_by (own := [("item", 3)]) (N := nm_are_between) (sc := defScope s_are_between) (by decide +kernel)) (fun _ _ _ _ _ => pg_name (i := 3) sc_are_between.nd rfl (Or.inl rfl)) (fun _ _ _ _ _ => pts_nil) (fun _ _ _ _ _ => (pe_f F1 (hr.mono (by decide)) pass0 (pa_cons (pv 3) (pa_cons (pv 1) (pa_cons (pv 2) pa_nil)))))) pa_nil)))))), ?_⟩
    walk_at "nf"
    walk_at "sx"
    refine isi_tuple hd ⟨_, rfl, ?_⟩
    cases hd with
    | tup hs ha =>
      rename_i a xs ds
      refine iteT ?_
      have hl := ha.length
      refine ⟨_, rfl, a, rfl, ⟨_, hs⟩, fun L hL => lcS (walk_tup (K := K) (a := a) (xs := xs)) hL (by rw [hl]; exact slt (hz ds rfl)) (fun i y => y = V.bl (isBt (ds.getD i .none) lo hi)) (fun H1 e => Same.seqT e hs) (fun i x H1 H2 Q1 hi1 e y q => ?_) (fun H1 ys e hy hn hr => ?_)⟩
      · obtain ⟨rfl, hx⟩ := y
        obtain ⟨d, hd1, hd2⟩ := ha.getV hx
        walk_at "nf"
        walk_at "sx"
        refine ⟨x, d, lo, hi, rfl, hd2.to e, ?_⟩
        exact q _ _ (by simp [hd1]) (Same.refl _)
      · refine ⟨_, _, rfl, .of (by rw [hy]; exact congrArg (fun z => some (HO.lst z)) (vals_bl hn hr)), ?_⟩
        have e2 : (((List.range xs.length).map fun i => isBt (ds.getD i .none) lo hi).all id) = areB (.tuple ds) lo hi := by
          rw [hl]
          simp only [areB, List.all_map]
          rw [Bool.eq_iff_iff]
          simp only [List.all_eq_true, List.mem_range, Function.comp, id]
          constructor
          · intro h x hx
            obtain ⟨i, hi, rfl⟩ := List.mem_iff_getElem.mp hx
            have := h i hi
            simpa [hi] using this
          · intro h i hi
            have := h ds[i] (List.getElem_mem hi)
            simpa [hi] using this
        rw [e2]
        exact k _ e
    | _ => exact iteF (k _ (Same.refl _))
end
end Ws
/-! ## K14b -/
namespace Ws
open PySem PySem.Spec PyProof.Rows L2
local macro_rules | `(tactic| walk_at "nf") => `(tactic| dsimp only [tNext, tSeq, tDrop, tRet, tRetN, tIfS, tAsg, gName, gTup, gCons, gNil, tVar, tC, tOp, tUn, rI, rI0, rU, rEq, rNe, tTest, tChain, tAnd, tOr, tNot, tAndV, tOrV, tNotV, tIf, tCB, tCKw, tCons, tNil, tTup, tLst, tCa, tCallS, tB, rIxT, rIxL, rIxS, cxOf, Cx.nox, Cx.wish, Cx.blk, L2.start, tPar, tPar3, tNever, tYes, tBits])
local macro_rules | `(tactic| walk_at "sx") => `(tactic| simp only [wipe, List.cons.injEq, and_assoc, exists_and_left, and_true, List.map_cons, List.map_nil, List.length_cons, List.length_nil, List.cons_append, List.nil_append, List.append_nil, Nat.reduceAdd, Nat.reduceSub, List.replicate, List.getElem?_cons_zero, List.getElem?_cons_succ, List.set_cons_zero, List.set_cons_succ, Option.some.injEq, V.int.injEq, V.bl.injEq, V.ref.injEq, V.str.injEq, exists_eq_left', exists_eq_left, true_and, Bool.true_eq_false, Bool.false_eq_true, if_true, if_false])

def nI (ns : List Nat) : List Int := ns.map fun (n : Nat) => (n : Int)
theorem nI_length (ns : List Nat) : (nI ns).length = ns.length := by simp [nI]
/-- a row as data -/
def rowD (ns : List Nat) : PyData := .tuple ((nI ns).map PyData.int)
def spColumnAt (K : PySem.W.Frag) : Sp := fun vs H Q _ => ∃ (v : V) (ns : List Nat) (k : Nat), vs = [v, .int k] ∧ Dp K H v (rowD ns) ∧ ns.length ≤ 64 ∧ k ≤ 100000 ∧ ∀ H', Same H H' → Q (.int (colAt ns k : Nat)) H'
def spColumnsIn (K : PySem.W.Frag) : Sp := fun vs H Q _ => ∃ (v : V) (ns : List Nat), vs = [v] ∧ Dp K H v (rowD ns) ∧ ns.length ≤ 64 ∧ nbits ns ≤ 10000 ∧ ∀ H' p, Same H H' → H p = none → H' p = some (.lst ((nI (cols ns)).map V.int)) → Q (.ref p) H'
abbrev s_column_at : Stmt := top 2
abbrev nm_column_at : List Str := ["numbers", "at", "place", "number"]
abbrev pr_column_at : List Str := ["numbers", "at"]
theorem sc_column_at : FnScope nm_column_at pr_column_at (defScope s_column_at) := ⟨rfl, rfl, rfl, by decide +kernel, rfl, by decide +kernel, by decide +kernel⟩
abbrev s_columns_in : Stmt := top 1
abbrev nm_columns_in : List Str := ["numbers", "many", "at", "number"]
abbrev pr_columns_in : List Str := ["numbers"]
theorem sc_columns_in : FnScope nm_columns_in pr_columns_in (defScope s_columns_in) := ⟨rfl, rfl, rfl, by decide +kernel, rfl, by decide +kernel, by decide +kernel⟩
section
variable {P : Program} {w : World} {K : PySem.W.Frag} {mg : Str → Option Value} {base : Heap}
theorem ok_column_at (B : Bl mg) (D : Dt K mg "column_at" s_column_at pr_column_at) : Df P w K mg base CX0 1 "column_at" pr_column_at (spColumnAt K) := by
  refine D.ok sc_column_at (fun vs H Q E h => ?_) (fun f cdv A outer s H vs Q E hr h => ?_)
  · obtain ⟨v, ns, k, rfl, _⟩ := h
    rfl
  · obtain ⟨v, ns, k, rfl, hd, hz, hk, kk⟩ := h
    obtain ⟨a, rfl, hs⟩ := hd.ints_tup
    refine ⟨_, (pss_one (ps_ret (pe_callB (cr_sum rfl) (by rfl) B.sum boot_sum (pa_cons (pe_lc (own := [("place", 2), ("number", 3)]) (g := gTup K 2 (gCons (gName 2) (gCons (gName 3) gNil))) (tt := tYes) (by rfl) sc_column_at.nd (pi_enumT (by rfl) B.enumerate (pa_cons (pv 0) pa_nil)) (blkOk_by (own := [("place", 2), ("number", 3)]) (N := nm_column_at) (sc := defScope s_column_at) (by decide +kernel)) (fun _ _ _ _ _ => pg_tup rfl (pgs_cons (pg_name (i := 2) sc_column_at.nd rfl (Or.inl rfl)) (pgs_cons (pg_name (i := 3) sc_column_at.nd rfl (Or.inl rfl)) pgs_nil))) (fun _ _ _ _ _ => pts_nil) (fun _ _ _ _ _ => (pe_op op_shl (pe_op op_and (pe_op op_shr (pv 3) (pv 1)) pe_int) (pv 2)))) pa_nil)))), ?_⟩
    walk_at "nf"
    refine ⟨_, rfl, a, _, rfl, hs, fun L hL => lcS walk_enumT hL (by rw [List.length_map, nI_length]; exact slt (by omega)) (fun i y => y = V.int ((dig (ns.getD i 0) k * 2 ^ i : Nat) : Int)) (fun H1 e => e.seqT hs) (fun i x H1 H2 Q1 hi1 e y q => ?_) (fun H1 ys e hy hn hr => ?_)⟩
    · obtain ⟨T, x1, x2, rfl, hT, rfl, h1, h2⟩ := y
      have e1 : x1 = V.int (i : Nat) := (Option.some.inj h1).symm
      have hi2 : i < ns.length := by
        rw [List.length_map, nI_length] at hi1
        exact hi1
      have e2 : x2 = V.int ((ns.getD i 0 : Nat) : Int) := by
        have h2' : (List.map V.int (nI ns))[i]? = some x2 := h2
        simp [nI, hi2] at h2'
        rw [← h2']
        simp [hi2]
      subst e1 e2
      walk_at "nf"
      refine ⟨T, _, rfl, .of upd_same, rfl, ?_⟩
      walk_at "sx"
      refine ⟨by omega, ?_, q _ _ ?_ (Same.new hT)⟩
      · rw [bitAnd_m1]
        exact ⟨by omega, by omega, by omega⟩
      · rw [bitAnd_m1]
        simp only [Int.toNat_natCast]
        congr 1
    · refine ⟨L, _, rfl, .of (by rw [hy]; exact congrArg (fun z => some (HO.lst z)) (vals_int (f := fun i => ((dig (ns.getD i 0) k * 2 ^ i : Nat) : Int)) hn hr)), ?_⟩
      have e3 : ((List.range (List.map V.int (nI ns)).length).map fun i => ((dig (ns.getD i 0) k * 2 ^ i : Nat) : Int)).sum = ((colAt ns k : Nat) : Int) := by
        rw [List.length_map, nI_length, ← colAt_sum ns k]
        generalize List.range ns.length = l
        induction l with
        | nil => rfl
        | cons a r ih => simp only [List.map_cons, List.sum_cons, ih]; push_cast; rfl
      rw [e3]
      exact kk _ e
theorem intBits_nat (n : Nat) : Builtin.Int.intBits (n : Int) = bits n := by
  unfold Builtin.Int.intBits bits
  by_cases h : n = 0
  · subst h; rfl
  · have h2 : ((n : Int) == 0) = false := by simpa using h
    rw [h2, if_neg h]
    simp
/-- the greatest of the bit lengths -/
theorem nbits_max {ns : List Nat} {m : Int} (h1 : m ∈ (List.range ns.length).map fun i => ((bits (ns.getD i 0) : Nat) : Int)) (h2 : ∀ y ∈ (List.range ns.length).map (fun i => ((bits (ns.getD i 0) : Nat) : Int)), y ≤ m) : m = (nbits ns : Nat) := by
  obtain ⟨i, hi, rfl⟩ := List.mem_map.mp h1
  rw [List.mem_range] at hi
  have a1 : bits (ns.getD i 0) ≤ nbits ns := bits_le_nbits (by simp [List.getD_eq_getElem?_getD, hi])
  have a2 : nbits ns ≤ bits (ns.getD i 0) := by
    rw [nbits_le]
    intro n hn
    rw [div_zero_iff]
    obtain ⟨j, hj, rfl⟩ := List.mem_iff_getElem.mp hn
    have := h2 _ (List.mem_map.mpr ⟨j, List.mem_range.mpr hj, rfl⟩)
    simp only [List.getD_eq_getElem?_getD, List.getElem?_eq_getElem hj, Option.getD_some] at this
    simp only [List.getD_eq_getElem?_getD]
    omega
  omega
theorem ok_columns_in (B : Bl mg) (F1 : Df P w K mg base CX0 1 "column_at" pr_column_at (spColumnAt K)) (D : Dt K mg "columns_in" s_columns_in pr_columns_in) : Df P w K mg base CX0 2 "columns_in" pr_columns_in (spColumnsIn K) := by
  refine D.ok sc_columns_in (fun vs H Q E h => ?_) (fun f cdv A outer s H vs Q E hr h => ?_)
  · obtain ⟨v, ns, rfl, _⟩ := h
    rfl
  · obtain ⟨v, ns, rfl, hd, hz, hb, kk⟩ := h
    obtain ⟨a, rfl, hs⟩ := hd.ints_tup
    refine ⟨_, (pss_cons (ps_set (i := 1) sc_columns_in.nd rfl (Or.inl rfl) (pe_callBK (call_maxD rfl hr.units) (by rfl) B.max boot_max (pa_cons (pe_lc (own := [("number", 3)]) (g := gName 3) (tt := tYes) (by rfl) sc_columns_in.nd (pi_tup (pv 0)) (blkOk_by (own := [("number", 3)]) (N := nm_columns_in) (sc := defScope s_columns_in) (by decide +kernel)) (fun _ _ _ _ _ => pg_name (i := 3) sc_columns_in.nd rfl (Or.inl rfl)) (fun _ _ _ _ _ => pts_nil) (fun _ _ _ _ _ => (pe_bits (pv 3)))) pa_nil) (pk_cons pe_int pk_nil))) (pss_one (ps_ret (pe_lc (own := [("at", 2)]) (g := gName 2) (tt := tYes) (by rfl) sc_columns_in.nd (pi_range1 (by rfl) B.range (pa_cons (pv 1) pa_nil)) (blkOk_by (own := [("at", 2)]) (N := nm_columns_in) (sc := defScope s_columns_in) (by decide +kernel)) (fun _ _ _ _ _ => pg_name (i := 2) sc_columns_in.nd rfl (Or.inl rfl)) (fun _ _ _ _ _ => pts_nil) (fun _ _ _ _ _ => (pe_f F1 (hr.mono (by decide)) pass0 (pa_cons (pv 0) (pa_cons (pv 2) pa_nil)))))))), ?_⟩
    walk_at "nf"
    walk_at "sx"
    refine ⟨_, rfl, a, rfl, ⟨_, hs⟩, fun L hL => lcS walk_tup hL (by rw [List.length_map, nI_length]; exact slt (by omega)) (fun i y => y = V.int ((bits (ns.getD i 0) : Nat) : Int)) (fun H1 e => e.seqT hs) (fun i x H1 H2 Q1 hi1 e y q => ?_) (fun H1 ys e hy hn hr => ?_)⟩
    · obtain ⟨rfl, hx⟩ := y
      have hi2 : i < ns.length := by
        rw [List.length_map, nI_length] at hi1
        exact hi1
      have e2 : x = V.int ((ns.getD i 0 : Nat) : Int) := by
        simp [nI, hi2] at hx
        rw [← hx]
        simp [hi2]
      subst e2
      walk_at "nf"
      walk_at "sx"
      rw [intBits_nat]
      exact q _ _ rfl (Same.refl _)
    · have hy2 : H1 L = some (.lst (((List.range ns.length).map fun i => ((bits (ns.getD i 0) : Nat) : Int)).map V.int)) := by
        rw [hy]
        exact congrArg (fun z => some (HO.lst z)) (vals_int (f := fun i => ((bits (ns.getD i 0) : Nat) : Int)) (by rw [hn, List.length_map, nI_length]) hr)
      have fin : ∀ m : Int, m = (nbits ns : Nat) → tLc (iRng1 (tCons (tVar 1) tNil)) (gName 2) tYes (tCa (spColumnAt K) E0 (tCons (tVar 0) (tCons (tVar 2) tNil))) [2] [some (V.ref a), some (V.int m), none, none] H1 Q := by
        rintro m rfl
        refine ⟨_, rfl, _, rfl, by omega, by omega, fun L2 hL2 => lcS walk_range hL2 (by simp; exact slt (by omega)) (fun i y => y = V.int ((colAt ns i : Nat) : Int)) (fun H1 e => trivial) (fun i x H3 H2 Q1 hi1 e3 y q => ?_) (fun H3 ys2 e3 hy3 hn3 hr3 => ?_)⟩
        · obtain ⟨rfl, rfl⟩ := y
          walk_at "nf"
          walk_at "sx"
          simp only [Int.toNat_natCast] at hi1
          refine ⟨.ref a, ns, i, by rw [Int.zero_add], (hd.to e).to e3, hz, by omega, fun H4 e4 => q _ _ rfl e4⟩
        · refine kk _ _ (e.trans e3) (e.free hL2) ?_
          rw [hy3, vals_int (f := fun i => ((colAt ns i : Nat) : Int)) hn3 hr3]
          simp [cols, nI, Function.comp_def]
      refine ⟨L, _, _, rfl, rfl, .of hy2, fun e0 => ?_, fun m m1 m2 => ?_⟩
      · refine fin 0 ?_
        have : ns = [] := by simpa using e0
        subst this
        rfl
      · exact fin m (nbits_max m1 m2)
end
end Ws
/-! ## K14c -/
namespace Ws
open PySem PySem.Spec PyProof.Rows L2
local macro_rules | `(tactic| walk_at "nf") => `(tactic| dsimp only [tNext, tSeq, tDrop, tRet, tRetN, tIfS, tAsg, gName, gTup, gCons, gNil, tVar, tC, tOp, tUn, rI, rI0, rU, rEq, rNe, tTest, tChain, tAnd, tOr, tNot, tAndV, tOrV, tNotV, tIf, tCB, tCKw, tCons, tNil, tTup, tLst, tCa, tCallS, tB, rIxT, rIxL, rIxS, cxOf, Cx.nox, Cx.wish, Cx.blk, L2.start, tPar, tPar3, tNever, tYes, tBits])
local macro_rules | `(tactic| walk_at "sx") => `(tactic| simp only [wipe, List.cons.injEq, and_assoc, exists_and_left, and_true, List.map_cons, List.map_nil, List.length_cons, List.length_nil, List.cons_append, List.nil_append, List.append_nil, Nat.reduceAdd, Nat.reduceSub, List.replicate, List.getElem?_cons_zero, List.getElem?_cons_succ, List.set_cons_zero, List.set_cons_succ, Option.some.injEq, V.int.injEq, V.bl.injEq, V.ref.injEq, V.str.injEq, exists_eq_left', exists_eq_left, true_and, Bool.true_eq_false, Bool.false_eq_true, if_true, if_false])

def spNeedMany : Sp := fun vs H Q _ => ∃ n : Int, vs = [.int n] ∧ 1 ≤ n ∧ n ≤ 4 ∧ Q (.int n) H
def spNeedRow (K : PySem.W.Frag) : Sp := fun vs H Q _ => ∃ (v : V) (ns : List Nat), vs = [.int (ns.length : Nat), v] ∧ Dp K H v (rowD ns) ∧ 1 ≤ ns.length ∧ ns.length ≤ 4 ∧ (∀ n ∈ ns, n ≤ 10 ^ 60) ∧ ∀ H', Same H H' → Q v H'
def spColumnsOf (K : PySem.W.Frag) : Sp := fun vs H Q _ => ∃ (v : V) (ns : List Nat), vs = [.int (ns.length : Nat), v] ∧ Dp K H v (rowD ns) ∧ 1 ≤ ns.length ∧ ns.length ≤ 4 ∧ (∀ n ∈ ns, n ≤ 10 ^ 60) ∧ ∀ H' u, Same H H' → Dp K H' u (rowD (cols ns)) → Q u H'
def spNumberOf (K : PySem.W.Frag) : Sp := fun vs H Q _ => ∃ (v : V) (cs : List Nat) (p : Nat), vs = [v, .int p] ∧ Dp K H v (rowD cs) ∧ cs.length ≤ 1000 ∧ ∀ H', Same H H' → Q (.int (rowNum cs p : Nat)) H'
def spRowOf (K : PySem.W.Frag) : Sp := fun vs H Q _ => ∃ (v : V) (cs : List Nat) (N : Nat), vs = [.int N, v] ∧ Dp K H v (rowD cs) ∧ 1 ≤ N ∧ N ≤ 4 ∧ cs.length ≤ 1000 ∧ (∀ c ∈ cs, c < 2 ^ N) ∧ ∀ H' u, Same H H' → Dp K H' u (rowD ((List.range N).map (rowNum cs))) → Q u H'
abbrev s_need_many : Stmt := top 18
abbrev nm_need_many : List Str := ["value"]
abbrev pr_need_many : List Str := ["value"]
theorem sc_need_many : FnScope nm_need_many pr_need_many (defScope s_need_many) := ⟨rfl, rfl, rfl, by decide +kernel, rfl, by decide +kernel, by decide +kernel⟩
abbrev s_need_row : Stmt := top 19
abbrev nm_need_row : List Str := ["many", "row"]
abbrev pr_need_row : List Str := ["many", "row"]
theorem sc_need_row : FnScope nm_need_row pr_need_row (defScope s_need_row) := ⟨rfl, rfl, rfl, by decide +kernel, rfl, by decide +kernel, by decide +kernel⟩
abbrev s_columns_of : Stmt := top 26
abbrev nm_columns_of : List Str := ["many", "row"]
abbrev pr_columns_of : List Str := ["many", "row"]
theorem sc_columns_of : FnScope nm_columns_of pr_columns_of (defScope s_columns_of) := ⟨rfl, rfl, rfl, by decide +kernel, rfl, by decide +kernel, by decide +kernel⟩
abbrev s_number_of : Stmt := top 28
abbrev nm_number_of : List Str := ["columns", "place", "at", "column"]
abbrev pr_number_of : List Str := ["columns", "place"]
theorem sc_number_of : FnScope nm_number_of pr_number_of (defScope s_number_of) := ⟨rfl, rfl, rfl, by decide +kernel, rfl, by decide +kernel, by decide +kernel⟩
abbrev s_row_of : Stmt := top 27
abbrev nm_row_of : List Str := ["many", "columns", "column", "place"]
abbrev pr_row_of : List Str := ["many", "columns"]
theorem sc_row_of : FnScope nm_row_of pr_row_of (defScope s_row_of) := ⟨rfl, rfl, rfl, by decide +kernel, rfl, by decide +kernel, by decide +kernel⟩
theorem isBt_ok {i lo hi : Int} (h1 : lo ≤ i) (h2 : i ≤ hi) : isBt (.int i) lo hi = true := by simp [isBt, h1, h2]
theorem areB_row {ns : List Nat} {hi : Int} (h : ∀ n ∈ ns, (n : Int) ≤ hi) : areB (rowD ns) 0 hi = true := by
  simp only [areB, rowD, List.all_eq_true, List.mem_map, nI]
  rintro x ⟨i, ⟨n, hn, rfl⟩, rfl⟩
  exact isBt_ok (by omega) (h n hn)
theorem isTn_row {ns : List Nat} : isTn (rowD ns) (ns.length : Nat) = true := by simp [isTn, rowD, nI]
section
variable {P : Program} {w : World} {K : PySem.W.Frag} {mg : Str → Option Value} {base : Heap}
theorem ok_is_row (C : Cs mg) (F1 : Df P w K mg base CX0 1 "is_tuple_of" pr_is_tuple_of (spIsTupleOf K)) (F2 : Df P w K mg base CX0 3 "are_between" pr_are_between (spAreBetween K)) (D : Dt K mg "is_row" s_is_row pr_is_row) : Df P w K mg base CX0 4 "is_row" pr_is_row (spIsRow K) := by
  refine D.ok sc_is_row (fun vs H Q E h => ?_) (fun f cdv A outer s H vs Q E hr h => ?_)
  · obtain ⟨v, d, n, rfl, _⟩ := h
    rfl
  · obtain ⟨v, d, n, rfl, hd, hn, k⟩ := h
    refine ⟨_, (pss_one (ps_ret (pe_and (pe_f F1 (hr.mono (by decide)) pass0 (pa_cons (pv 0) (pa_cons (pv 1) pa_nil))) (pe_one (pe_f F2 (hr.mono (by decide)) pass0 (pa_cons (pv 0) (pa_cons pe_int (pa_cons (pe_glob (v := .int (10 ^ 60)) rfl C.MOST_NUMBER.choose_spec ⟨_, rfl⟩) pa_nil)))))))), ?_⟩
    walk_at "nf"
    walk_at "sx"
    refine ⟨v, d, n, rfl, hd, _, rfl, ?_⟩
    cases e : isTn d n with
    | true =>
      refine iteT ⟨v, d, 0, 10 ^ 60, rfl, hd, fun ds e2 => ?_, fun H' e3 => ?_⟩
      · subst e2
        simp only [isTn, decide_eq_true_eq] at e
        omega
      · have := k H' e3
        rw [e, Bool.true_and] at this
        exact this
    | false =>
      refine iteF ?_
      have := k H (Same.refl _)
      rw [e, Bool.false_and] at this
      exact this
theorem ok_need_many (F1 : Df P w K mg base CX0 2 "is_between" pr_is_between (spIsBetween K)) (D : Dt K mg "need_many" s_need_many pr_need_many) : Df P w K mg base CX0 3 "need_many" pr_need_many spNeedMany := by
  refine D.ok sc_need_many (fun vs H Q E h => ?_) (fun f cdv A outer s H vs Q E hr h => ?_)
  · obtain ⟨n, rfl, _⟩ := h
    rfl
  · obtain ⟨n, rfl, h1, h2, k⟩ := h
    refine ⟨_, (pss_cons (ps_if (pt_not (pt_val (pe_f F1 (hr.mono (by decide)) pass0 (pa_cons (pv 0) (pa_cons pe_int (pa_cons pe_int pa_nil)))))) (pss_one (ps_never)) pss_nil) (pss_one (ps_ret (pv 0)))), ?_⟩
    walk_at "nf"
    walk_at "sx"
    refine ⟨.int n, .int n, 1, 4, rfl, .int n, _, rfl, ?_⟩
    rw [isBt_ok h1 h2]
    exact iteF k
theorem ok_need_row (F1 : Df P w K mg base CX0 3 "need_many" pr_need_many spNeedMany) (F2 : Df P w K mg base CX0 4 "is_row" pr_is_row (spIsRow K)) (D : Dt K mg "need_row" s_need_row pr_need_row) : Df P w K mg base CX0 5 "need_row" pr_need_row (spNeedRow K) := by
  refine D.ok sc_need_row (fun vs H Q E h => ?_) (fun f cdv A outer s H vs Q E hr h => ?_)
  · obtain ⟨v, ns, rfl, _⟩ := h
    rfl
  · obtain ⟨v, ns, rfl, hd, h1, h2, h3, k⟩ := h
    refine ⟨_, (pss_cons (ps_expr (pe_f F1 (hr.mono (by decide)) pass0 (pa_cons (pv 0) pa_nil))) (pss_cons (ps_if (pt_not (pt_val (pe_f F2 (hr.mono (by decide)) pass0 (pa_cons (pv 1) (pa_cons (pv 0) pa_nil))))) (pss_one (ps_never)) pss_nil) (pss_one (ps_ret (pv 1))))), ?_⟩
    walk_at "nf"
    walk_at "sx"
    refine ⟨_, rfl, by omega, by omega, v, rowD ns, _, rfl, hd, by omega, fun H' e => ⟨_, rfl, ?_⟩⟩
    rw [isTn_row, areB_row fun n hn => by have := h3 n hn; exact_mod_cast this]
    exact iteF (k _ e)
theorem big_bits {ns : List Nat} (h : ∀ n ∈ ns, n ≤ 10 ^ 60) : nbits ns ≤ 200 := by
  rw [nbits_le]
  intro n hn
  exact Nat.div_eq_of_lt (Nat.lt_of_le_of_lt (h n hn) (by decide))
theorem ok_columns_of (B : Bl mg) (F1 : Df P w K mg base CX0 5 "need_row" pr_need_row (spNeedRow K)) (F2 : Df P w K mg base CX0 2 "columns_in" pr_columns_in (spColumnsIn K)) (D : Dt K mg "columns_of" s_columns_of pr_columns_of) : Df P w K mg base CX0 6 "columns_of" pr_columns_of (spColumnsOf K) := by
  refine D.ok sc_columns_of (fun vs H Q E h => ?_) (fun f cdv A outer s H vs Q E hr h => ?_)
  · obtain ⟨v, ns, rfl, _⟩ := h
    rfl
  · obtain ⟨v, ns, rfl, hd, h1, h2, h3, k⟩ := h
    refine ⟨_, (pss_cons (ps_expr (pe_f F1 (hr.mono (by decide)) pass0 (pa_cons (pv 0) (pa_cons (pv 1) pa_nil)))) (pss_one (ps_ret (pe_callTy call_tuple_of (by rfl) B.tuple PyProof.Rows.boot_tuple (pa_cons (pe_f F2 (hr.mono (by decide)) pass0 (pa_cons (pv 1) pa_nil)) pa_nil))))), ?_⟩
    walk_at "nf"
    walk_at "sx"
    refine ⟨v, ns, rfl, hd, h1, h2, h3, fun H1 e => ⟨v, ns, rfl, hd.to e, by omega, by have := big_bits h3; omega, fun H2 p e2 hp hL => ⟨_, rfl, _, .inl ⟨.of hL, fun t ht => ?_⟩⟩⟩⟩
    exact k _ _ ((e.trans e2).then_new ht) (Dp.tup_ints (.of upd_same))
theorem ok_number_of (B : Bl mg) (D : Dt K mg "number_of" s_number_of pr_number_of) : Df P w K mg base CX0 1 "number_of" pr_number_of (spNumberOf K) := by
  refine D.ok sc_number_of (fun vs H Q E h => ?_) (fun f cdv A outer s H vs Q E hr h => ?_)
  · obtain ⟨v, ns, k, rfl, _⟩ := h
    rfl
  · obtain ⟨v, ns, k, rfl, hd, hz, kk⟩ := h
    obtain ⟨a, rfl, hs⟩ := hd.ints_tup
    refine ⟨_, (pss_one (ps_ret (pe_callB (cr_sum rfl) (by rfl) B.sum boot_sum (pa_cons (pe_lc (own := [("at", 2), ("column", 3)]) (g := gTup K 2 (gCons (gName 2) (gCons (gName 3) gNil))) (tt := tYes) (by rfl) sc_number_of.nd (pi_enumT (by rfl) B.enumerate (pa_cons (pv 0) pa_nil)) (blkOk_by (own := [("at", 2), ("column", 3)]) (N := nm_number_of) (sc := defScope s_number_of) (by decide +kernel)) (fun _ _ _ _ _ => pg_tup rfl (pgs_cons (pg_name (i := 2) sc_number_of.nd rfl (Or.inl rfl)) (pgs_cons (pg_name (i := 3) sc_number_of.nd rfl (Or.inl rfl)) pgs_nil))) (fun _ _ _ _ _ => pts_nil) (fun _ _ _ _ _ => (pe_op op_shl (pe_op op_and (pe_op op_shr (pv 3) (pv 1)) pe_int) (pv 2)))) pa_nil)))), ?_⟩
    walk_at "nf"
    refine ⟨_, rfl, a, _, rfl, hs, fun L hL => lcS walk_enumT hL (by rw [List.length_map, nI_length]; exact slt (by omega)) (fun i y => y = V.int ((dig (ns.getD i 0) k * 2 ^ i : Nat) : Int)) (fun H1 e => e.seqT hs) (fun i x H1 H2 Q1 hi1 e y q => ?_) (fun H1 ys e hy hn hr => ?_)⟩
    · obtain ⟨T, x1, x2, rfl, hT, rfl, h1, h2⟩ := y
      have e1 : x1 = V.int (i : Nat) := (Option.some.inj h1).symm
      have hi2 : i < ns.length := by
        rw [List.length_map, nI_length] at hi1
        exact hi1
      have e2 : x2 = V.int ((ns.getD i 0 : Nat) : Int) := by
        have h2' : (List.map V.int (nI ns))[i]? = some x2 := h2
        simp [nI, hi2] at h2'
        rw [← h2']
        simp [hi2]
      subst e1 e2
      walk_at "nf"
      refine ⟨T, _, rfl, .of upd_same, rfl, ?_⟩
      walk_at "sx"
      refine ⟨by omega, ?_, q _ _ ?_ (Same.new hT)⟩
      · rw [bitAnd_m1]
        exact ⟨by omega, by omega, by omega⟩
      · rw [bitAnd_m1]
        simp only [Int.toNat_natCast]
        congr 1
    · refine ⟨L, _, rfl, .of (by rw [hy]; exact congrArg (fun z => some (HO.lst z)) (vals_int (f := fun i => ((dig (ns.getD i 0) k * 2 ^ i : Nat) : Int)) hn hr)), ?_⟩
      have e3 : ((List.range (List.map V.int (nI ns)).length).map fun i => ((dig (ns.getD i 0) k * 2 ^ i : Nat) : Int)).sum = ((rowNum ns k : Nat) : Int) := by
        rw [List.length_map, nI_length]
        unfold rowNum
        generalize List.range ns.length = l
        induction l with
        | nil => rfl
        | cons a r ih => simp only [List.map_cons, List.sum_cons, ih]; push_cast; rfl
      rw [e3]
      exact kk _ e
theorem ok_row_of (B : Bl mg) (C : Cs mg) (F1 : Df P w K mg base CX0 3 "need_many" pr_need_many spNeedMany) (F2 : Df P w K mg base CX0 2 "is_between" pr_is_between (spIsBetween K)) (F3 : Df P w K mg base CX0 1 "number_of" pr_number_of (spNumberOf K))
    (D : Dt K mg "row_of" s_row_of pr_row_of) : Df P w K mg base CX0 4 "row_of" pr_row_of (spRowOf K) := by
  refine D.ok sc_row_of (fun vs H Q E h => ?_) (fun f cdv A outer s H vs Q E hr h => ?_)
  · obtain ⟨v, cs, N, rfl, _⟩ := h
    rfl
  · obtain ⟨v, cs, N, rfl, hd, h1, h2, h3, h4, k⟩ := h
    obtain ⟨a, rfl, hs⟩ := hd.ints_tup
    refine ⟨_, (pss_cons (ps_expr (pe_f F1 (hr.mono (by decide)) pass0 (pa_cons (pv 0) pa_nil))) (pss_cons (ps_if (pt_not (pt_val (pe_callB call_isi (by rfl) B.isinstance boot_isinstance (pa_cons (pv 1) (pa_cons (pe_bltn (v := .ty "tuple") (by rfl) B.tuple PyProof.Rows.boot_tuple rfl) pa_nil))))) (pss_one (ps_never)) pss_nil) (pss_cons (ps_if (pt_cmpR op_gt (pe_callB call_len_seq (by rfl) B.len PySem.boot_len (pa_cons (pv 1) pa_nil)) (pe_glob (v := .int 1000) rfl C.MOST_COLUMNS.choose_spec ⟨_, rfl⟩) (nomark _)) (pss_one (ps_never)) pss_nil) (pss_cons (ps_for PassesOwn.never rfl (pi_tup (pv 1)) (pg_name (i := 2) sc_row_of.nd rfl (Or.inl rfl)) (pss_one (ps_if (pt_not (pt_val (pe_f F2 (hr.mono (by decide)) pass0 (pa_cons (pv 2) (pa_cons pe_int (pa_cons (pe_op op_sub (pe_op op_shl pe_int (pv 0)) pe_int) pa_nil)))))) (pss_one (ps_never)) pss_nil))) (pss_one (ps_ret (pe_callTy call_tuple_of (by rfl) B.tuple PyProof.Rows.boot_tuple (pa_cons (pe_lc (own := [("place", 3)]) (g := gName 3) (tt := tYes) (by rfl) sc_row_of.nd (pi_range1 (by rfl) B.range (pa_cons (pv 0) pa_nil)) (blkOk_by (own := [("place", 3)]) (N := nm_row_of) (sc := defScope s_row_of) (by decide +kernel)) (fun _ _ _ _ _ => pg_name (i := 3) sc_row_of.nd rfl (Or.inl rfl)) (fun _ _ _ _ _ => pts_nil) (fun _ _ _ _ _ => (pe_f F3 (hr.mono (by decide)) pass0 (pa_cons (pv 1) (pa_cons (pv 3) pa_nil))))) pa_nil)))))))), ?_⟩
    walk_at "nf"
    walk_at "sx"
    refine ⟨_, rfl, by omega, by omega, isi_tuple hd ⟨_, rfl, iteF ⟨_, .inr hs, ?_⟩⟩⟩
    rw [if_neg (by rw [List.length_map, nI_length]; simp; omega)]
    refine ⟨_, rfl, a, rfl, ⟨_, hs⟩, for_tup (K := K) (a := a) (xs := (nI cs).map V.int) (fun i σ H' => ∃ v, σ = [some (V.int N), some (V.ref a), v, none] ∧ H' = H) ⟨_, rfl, rfl⟩ (fun i σ H' _ p => by obtain ⟨_, _, rfl⟩ := p; exact hs) ?_ ?_⟩
    · rintro i x σ H' hx ⟨v, rfl, rfl⟩
      obtain ⟨c, hc, rfl⟩ : ∃ c : Nat, c ∈ cs ∧ x = V.int c := by
        have hm := List.mem_of_getElem? hx
        simp only [nI, List.map_map, List.mem_map] at hm
        obtain ⟨c, hc, rfl⟩ := hm
        exact ⟨c, hc, rfl⟩
      walk_at "nf"
      walk_at "sx"
      refine ⟨⟨by omega, by omega, by decide⟩, _, _, _, _, rfl, .int _, _, rfl, ?_⟩
      have hb := h4 c hc
      rw [isBt_ok (by omega) (by
        have : (1 : Int) * 2 ^ (N : Int).toNat = ((2 ^ N : Nat) : Int) := by simp
        rw [this]
        omega)]
      exact iteF rfl
    · rintro σ H' ⟨v, rfl, rfl⟩
      walk_at "nf"
      refine ⟨_, rfl, _, rfl, by omega, by omega, fun L hL => lcS walk_range hL (by simp; exact slt (by omega)) (fun i y => y = V.int ((rowNum cs i : Nat) : Int)) (fun H1 e => trivial) (fun i x H3 H2 Q1 hi1 e3 y q => ?_) (fun H3 ys2 e3 hy3 hn3 hr3 => ?_)⟩
      · obtain ⟨rfl, rfl⟩ := y
        walk_at "nf"
        walk_at "sx"
        refine ⟨.ref a, cs, i, by rw [Int.zero_add], hd.to e3, h3, fun H4 e4 => q _ _ rfl e4⟩
      · refine ⟨L, rfl, _, .inl ⟨.of hy3, fun t ht => ?_⟩⟩
        refine k _ _ (e3.then_new ht) ?_
        have e4 := vals_int (f := fun i => ((rowNum cs i : Nat) : Int)) hn3 hr3
        rw [e4]
        have e5 : (List.range (N : Int).toNat).map (fun i => ((rowNum cs i : Nat) : Int)) = nI ((List.range N).map (rowNum cs)) := by simp [nI, Function.comp_def]
        rw [e5]
        exact Dp.tup_ints (.of upd_same)
end
end Ws
/-! ## K14d -/
namespace Ws
open PySem PySem.Spec PyProof.Rows L2
local macro_rules | `(tactic| walk_at "nf") => `(tactic| dsimp only [tNext, tSeq, tDrop, tRet, tRetN, tIfS, tAsg, gName, gTup, gCons, gNil, tVar, tC, tOp, tUn, rI, rI0, rU, rEq, rNe, tTest, tChain, tAnd, tOr, tNot, tAndV, tOrV, tNotV, tIf, tCB, tCKw, tCons, tNil, tTup, tLst, tCa, tCallS, tB, rIxT, rIxL, rIxS, cxOf, Cx.nox, Cx.wish, Cx.blk, L2.start, tPar, tPar3, tNever, tYes, tBits])
local macro_rules | `(tactic| walk_at "sx") => `(tactic| simp only [wipe, List.cons.injEq, and_assoc, exists_and_left, and_true, List.map_cons, List.map_nil, List.length_cons, List.length_nil, List.cons_append, List.nil_append, List.append_nil, Nat.reduceAdd, Nat.reduceSub, List.replicate, List.getElem?_cons_zero, List.getElem?_cons_succ, List.set_cons_zero, List.set_cons_succ, Option.some.injEq, V.int.injEq, V.bl.injEq, V.ref.injEq, V.str.injEq, exists_eq_left', exists_eq_left, true_and, Bool.true_eq_false, Bool.false_eq_true, if_true, if_false])

/-! ### errors with one field -/
def spErr (C : Addr) (f : Str) : Sp := fun vs H Q _ => ∃ (a : Addr) (y : V), vs = [.ref a, y] ∧ H a = some (exo a C none) ∧ ∀ dx, H dx = none → dx ≠ a → Q .non (upd (upd H dx (exd dx [(f, y)])) a (exo a C (some dx)))
structure ErT (K : PySem.W.Frag) (mg : Str → Option Value) (x f q : Str) (st : Stmt) (C fI : Addr) (fd : FuncData) : Prop where
  oex : OexC K C
  xf : XfC K C
  no : PySem.W.findIn K (.ref C) f = some none
  mgC : mg x = some (.ref C)
  iC : PySem.W.findIn K (.ref C) "__init__" = some (some (.ref fI))
  tI : PySem.W.typeIn K (.ref fI) = some (.type "function")
  fn : Fun K "__init__" q st fI fd
  b : Binds K fd ["self", f] []
structure ErC (P : Program) (w : World) (K : PySem.W.Frag) (mg : Str → Option Value) (base : Heap) (x f : Str) (C : Addr) : Prop where
  ex : ∃ (fI : Addr) (fd : FuncData), PySem.W.findIn K (.ref C) "__init__" = some (some (.ref fI)) ∧ PySem.W.typeIn K (.ref fI) = some (.type "function") ∧ Binds K fd ["self", f] [] ∧ FnOk P w K mg base CX0 1 fI fd ["self", f] (spErr C f)
  oex : OexC K C
  xf : XfC K C
  no : PySem.W.findIn K (.ref C) f = some none
  mgC : mg x = some (.ref C)
/-- raise X(e): what the making of the error asks of its argument's value -/
def rzQ (C : Addr) (f : Str) (W : WX) (σ : L2.St) (y : V) (H1 : Hp) : Prop := ([y] : List V).length ≤ 1000 ∧ ∀ a, H1 a = none → spErr C f (.ref a :: ([y] ++ [])) (upd H1 a (exo a C none))
  (fun v H2 => v = .non ∧ ∃ (d : Addr) (fs : List (Str × V)), H2 a = some (exo a C (some d)) ∧ H2 d = some (exd d fs) ∧ H1 d = none ∧ W (.ref C) (some d) σ (upd (del H2 a) d (.xd fs))) (fun _ _ _ => False)
def tRz (C : Addr) (f : Str) (W : WX) (te : TE) : TS := fun _ σ H => te σ H fun y H1 => rzQ C f W σ y H1
theorem rz_ok {C : Addr} {f : Str} {W : WX} {σ : L2.St} {y : V} {H1 : Hp} (h : ∀ d, H1 d = none → W (.ref C) (some d) σ (upd H1 d (.xd [(f, y)]))) : rzQ C f W σ y H1 := by
  refine ⟨(by show 1 ≤ 1000; omega), fun a ha => ⟨a, y, rfl, upd_same, fun dx hd hne => ⟨rfl, dx, [(f, y)], upd_same, ?_, ?_, ?_⟩⟩⟩
  · rw [upd_ne hne, upd_same]
  · rwa [upd_ne hne] at hd
  · have hd1 : H1 dx = none := by rwa [upd_ne hne] at hd
    have e : upd (del (upd (upd (upd H1 a (exo a C none)) dx (exd dx [(f, y)])) a (exo a C (some dx))) a) dx (.xd [(f, y)]) = upd H1 dx (.xd [(f, y)]) := by
      funext b
      by_cases h1 : b = dx
      · rw [h1, upd_same, upd_same]
      · rw [upd_ne h1, upd_ne h1]
        by_cases h2 : b = a
        · rw [h2, del_same, ha]
        · rw [del_ne h2, upd_ne h2, upd_ne h1, upd_ne h2]
    rw [e]
    exact h dx hd1
theorem ps_rz {X : Cx} {x f : Str} {C : Addr} {W : WX} {e : Expr} {te : TE} {p pos pos' : Pos} (hc : X.calm = true) (T : ErC X.prog X.w X.K X.mg X.base x f C) (hr : Room 2 X.A) (tk : Takes X W) (hg : Gl X x) (he : PE X e te)
    (hdb : (x == ("__debug__" : Str)) = false := by decide) (hse : starEach [e] X.env = (false, eval e X.env) :: starEach [] X.env := by rfl) :
    PS X (.Raise (some (.Call (.Name x p) [e] [] pos)) none pos') (tRz C f W te) := by
  obtain ⟨fI, fd, iC, tI, bI, F⟩ := T.ex
  refine ⟨fun pins s σ H D I h => ?_⟩
  exact (ps_raise hc tk (pmk_oex T.oex iC tI F hr bI .nil pass0 hg T.mgC (pa_cons (hs := hse) he pa_nil) hdb hse (by rfl))).run pins s σ H D I h
section
variable {P : Program} {w : World} {K : PySem.W.Frag} {mg : Str → Option Value} {base : Heap} {C fI : Addr} {fd : FuncData}
theorem ErT.ok {x f q : Str} {st : Stmt} (T : ErT K mg x f q st C fI fd) (S : FnScope ["self", f] ["self", f] (defScope st))
    (hb : ∀ (cdv : Value) (A : Around) (outer : List Env) (s : Shared) (H : Hp) (E : XK), PSs (cxOf CX0 P w K mg base ["self", f] q (defScope st) fI cdv A outer s H E).nox (defBody st) (tOst K f (tVar 0) (tVar 1))) :
    ErC P w K mg base x f C := by
  refine ⟨⟨fI, fd, T.iC, T.tI, T.b, ?_⟩, T.oex, T.xf, T.no, T.mgC⟩
  refine T.fn.ok S (fun vs H Q E h => ?_) (fun cdv A outer s H vs Q E hr h => ?_)
  · obtain ⟨a, y, rfl, _⟩ := h
    rfl
  · obtain ⟨a, y, rfl, ha, k⟩ := h
    exact ⟨_, hb cdv A outer s H E, _, rfl, _, rfl, a, C, rfl, T.oex, T.no, .inl ⟨ha, k⟩⟩
theorem ErT.mk' {h : Heap} {x f q : Str} {st : Stmt} {nm qc : Str} {N : Addr} {bs bm : List Value} {sn : List Str} {sub : List Value} {ab : Bool} {col : Option Bool} {dd : Option Addr} {k0 k1 k2 k3 k5 : Option Value} {oc : Value} {od an : Option Addr} {osl : Array (Option Value)} {kV doc pm cdv ct : Value}
    (X : K.In h) (G : h.Ns mainGlobals mg) (aC : PySem.W.nsIn K mainGlobals x = some (some (.ref C))) (xL : K.lookup C = some (excClassObj nm qc C N bs bm true sn sub ab col dd k0 k1 k2 k3 k5 "ValueError.__new__")) (rv : PySem.HandSPX.refsVE bm = true)
    (sa : PySem.W.findIn K (.ref C) "__setattr__" = some (some (.builtin "object.__setattr__"))) (ga : PySem.W.findIn K (.ref C) "__getattribute__" = some (some (.builtin "BaseException.__getattribute__"))) (gg : PySem.W.findIn K (.ref C) "__getattr__" = some none) (nb : PySem.W.findIn K (.ref C) f = some none)
    (a1 : PySem.W.findIn K (.ref C) "__init__" = some (some (.ref fI))) (t1 : PySem.W.typeIn K (.ref fI) = some (.type "function")) (l1 : K.lookup fI = some ⟨oc, od, .func (PySem.W.fnOf "__init__" q (defArgs st) (defBody st) (defScope st) .none kV doc pm an cdv ct), osl⟩) (c1 : PySem.W.codeIn K cdv q = true) (k1' : PySem.W.keepIn K (.ref fI) = true)
    (kC : PySem.W.keepIn K (.ref C) = true) (eC : PySem.W.subIn K (.ref C) (.type "BaseException") = some true) (tC : PySem.W.typeIn K (.ref C) = some (.type "type")) (hC : PySem.W.hasDictIn K C = true)
    (hb : ∀ (kV doc pm : Value) (an : Option Addr) (cdv ct : Value) (us : List Value), us.length = (["self", f] : List Str).length → bindArgs (PySem.W.fnOf "__init__" q (defArgs st) (defBody st) (defScope st) .none kV doc pm an cdv ct) ⟨us, []⟩ = pure ((["self", f] : List Str).zip us)) :
    ErT K mg x f q st C fI (PySem.W.fnOf "__init__" q (defArgs st) (defBody st) (defScope st) .none kV doc pm an cdv ct) :=
  ⟨⟨⟨nm, qc, N, bs, bm, sn, sub, ab, col, dd, k0, k1, k2, k3, k5, xL, rv⟩, sa, eC, tC, kC⟩, ⟨ga, gg, eC, hC⟩, nb, PySem.W.mg_of X G aC, a1, t1, fun_mk l1 c1 k1', (fun_mk l1 c1 k1').binds hb⟩
abbrev s_BM : Stmt := inClass (top 7) 0
abbrev s_TG : Stmt := inClass (top 9) 0
theorem sc_BM : FnScope ["self", "place"] ["self", "place"] (defScope s_BM) := ⟨rfl, rfl, rfl, by decide +kernel, rfl, by decide +kernel, by decide +kernel⟩
theorem sc_TG : FnScope ["self", "most"] ["self", "most"] (defScope s_TG) := ⟨rfl, rfl, rfl, by decide +kernel, rfl, by decide +kernel, by decide +kernel⟩
theorem hb_BM (kV doc pm : Value) (an : Option Addr) (cdv ct : Value) (us : List Value) (hl : us.length = (["self", "place"] : List Str).length) : bindArgs (PySem.W.fnOf "__init__" "BadMachine.__init__" (defArgs s_BM) (defBody s_BM) (defScope s_BM) .none kV doc pm an cdv ct) ⟨us, []⟩ = pure ((["self", "place"] : List Str).zip us) :=
  match us, hl with
  | [_, _], _ => rfl
theorem hb_TG (kV doc pm : Value) (an : Option Addr) (cdv ct : Value) (us : List Value) (hl : us.length = (["self", "most"] : List Str).length) : bindArgs (PySem.W.fnOf "__init__" "TooGreat.__init__" (defArgs s_TG) (defBody s_TG) (defScope s_TG) .none kV doc pm an cdv ct) ⟨us, []⟩ = pure ((["self", "most"] : List Str).zip us) :=
  match us, hl with
  | [_, _], _ => rfl
theorem ok_BM (T : ErT K mg "BadMachine" "place" "BadMachine.__init__" s_BM C fI fd) : ErC P w K mg base "BadMachine" "place" C := T.ok sc_BM fun cdv A outer s H E => pss_one (ps_ost (pv 0) (pv 1))
theorem ok_TG (T : ErT K mg "TooGreat" "most" "TooGreat.__init__" s_TG C fI fd) : ErC P w K mg base "TooGreat" "most" C := T.ok sc_TG fun cdv A outer s H E => pss_one (ps_ost (pv 0) (pv 1))
end
end Ws
/-! ## K14e -/
namespace Ws
open PySem PySem.Spec PyProof.Rows L2
local macro_rules | `(tactic| walk_at "nf") => `(tactic| dsimp only [tNext, tSeq, tDrop, tRet, tRetN, tIfS, tAsg, gName, gTup, gCons, gNil, tVar, tC, tOp, tUn, rI, rI0, rU, rEq, rNe, tTest, tChain, tAnd, tOr, tNot, tAndV, tOrV, tNotV, tIf, tCB, tCKw, tCons, tNil, tTup, tLst, tCa, tCallS, tB, rIxT, rIxL, rIxS, cxOf, Cx.nox, Cx.wish, Cx.blk, L2.start, tPar, tPar3, tNever, tYes, tBits, tRz, tBM, rAppend, tyV, tXf, suiteEnds, gSub, rSetL, tBreak, rMax, tDGet, sDPut, tSl, tNoPart, tPart, tDisp, tPairs])
local macro_rules | `(tactic| walk_at "sx") => `(tactic| simp only [wipe, List.cons.injEq, and_assoc, exists_and_left, and_true, List.map_cons, List.map_nil, List.length_cons, List.length_nil, List.cons_append, List.nil_append, List.append_nil, Nat.reduceAdd, Nat.reduceSub, List.replicate, List.getElem?_cons_zero, List.getElem?_cons_succ, List.set_cons_zero, List.set_cons_succ, Option.some.injEq, V.int.injEq, V.bl.injEq, V.ref.injEq, V.str.injEq, exists_eq_left', exists_eq_left, true_and, Bool.true_eq_false, Bool.false_eq_true, if_true, if_false])

/-! ### what need_machine says -/
inductive Fl
  | ok
  | bad (l : List Int)
  | great
def Fl.then : Fl → Fl → Fl
  | .ok, y => y
  | x, _ => x
def firstFl : List Fl → Fl
  | [] => .ok
  | .ok :: r => firstFl r
  | x :: _ => x
theorem firstFl_ok : ∀ {l : List Fl}, (∀ x ∈ l, x = .ok) → firstFl l = .ok
  | [], _ => rfl
  | x :: r, h => by
    have e := h x (List.mem_cons_self ..)
    subst e
    exact firstFl_ok (l := r) (fun y hy => h y (List.mem_cons_of_mem _ hy))
theorem firstFl_at : ∀ {l : List Fl} {i : Nat} {x : Fl}, l[i]? = some x → x ≠ .ok → (∀ j y, j < i → l[j]? = some y → y = .ok) → firstFl l = x
  | [], i, x, h, _, _ => by simp at h
  | y :: r, 0, x, h, hx, _ => by
    have e : y = x := by simpa using h
    subst e
    cases y <;> first | rfl | exact absurd rfl hx
  | y :: r, i + 1, x, h, hx, hl => by
    have e : y = .ok := hl 0 y (by omega) rfl
    subst e
    exact firstFl_at (l := r) (i := i) (by simpa using h) hx fun j z hj hz => hl (j + 1) z (by omega) (by simpa using hz)
def overFl (n : Nat) (f : Nat → Fl) : Fl := firstFl ((List.range n).map f)
theorem overFl_ok {n : Nat} {f : Nat → Fl} (h : ∀ j, j < n → f j = .ok) : overFl n f = .ok := firstFl_ok fun x hx => by
  obtain ⟨j, hj, rfl⟩ := List.mem_map.mp hx
  exact h j (List.mem_range.mp hj)
theorem overFl_at {n i : Nat} {f : Nat → Fl} (hi : i < n) (hx : f i ≠ .ok) (h : ∀ j, j < i → f j = .ok) : overFl n f = f i := by
  refine firstFl_at (i := i) (by simp [hi]) hx fun j y hj hy => ?_
  have hj2 : j < n := by omega
  simp [hj2] at hy
  rw [← hy]
  exact h j hj
def itm : PyData → List PyData
  | .tuple xs => xs
  | _ => []
def boOf : PyData → Bool
  | .bool b => b
  | _ => false
def iOf : PyData → Int
  | .int i => i
  | _ => 0
def colF (n : Nat) (row : PyData) (st c : Nat) : Fl := if isBt ((itm row).getD c .none) 0 ((n : Int) - 1) = true then .ok else .bad [1, st, c]
def stF (many : Nat) (sd ed : List PyData) (st : Nat) : Fl :=
  if isTn (sd.getD st .none) ((2 ^ many : Nat) : Int) = true then
    (overFl (2 ^ many) (colF sd.length (sd.getD st .none) st)).then (if isBo (ed.getD st .none) = true then .ok else .bad [2, st])
  else .bad [1, st]
def endF (sd ed : List PyData) (st : Nat) : Fl :=
  if boOf (ed.getD (iOf ((itm (sd.getD st .none)).getD 0 .none)).toNat .none) = boOf (ed.getD st .none) then .ok else .bad [2, st]
def machF3 (a s e : PyData) : Fl :=
  if isBt a 1 4 = true then
    if isT s = true ∧ itm s ≠ [] then
      if 600 < (itm s).length then .great
      else if isTn e ((itm s).length : Nat) = true then
        (overFl (itm s).length (stF (iOf a).toNat (itm s) (itm e))).then (overFl (itm s).length (endF (itm s) (itm e)))
      else .bad [2]
    else .bad [1]
  else .bad [0]
def machF (d : PyData) : Fl := if isTn d 3 = true then machF3 ((itm d).getD 0 .none) ((itm d).getD 1 .none) ((itm d).getD 2 .none) else .bad []
/-- what need_machine and need_state do with it -/
def OutM (K : PySem.W.Frag) (BM TG : Addr) (H : Hp) (k : Hp → Prop) (E : XK) : Fl → Prop
  | .ok => ∀ H', Same H H' → k H'
  | .bad l => ∀ H' d v, Same H H' → H' d = some (.xd [("place", v)]) → Dp K H' v (.tuple (l.map PyData.int)) → E (.ref BM) (some d) H'
  | .great => ∀ H' d, Same H H' → H' d = some (.xd [("most", .int 600)]) → E (.ref TG) (some d) H'
theorem OutM.to {K : PySem.W.Frag} {BM TG : Addr} {H H1 : Hp} {k : Hp → Prop} {E : XK} {x : Fl} (h : OutM K BM TG H k E x) (e : Same H H1) : OutM K BM TG H1 k E x := by
  cases x with
  | ok => exact fun H' e' => h H' (e.trans e')
  | bad l => exact fun H' d v e' => h H' d v (e.trans e')
  | great => exact fun H' d e' => h H' d (e.trans e')
structure ErS (P : Program) (w : World) (K : PySem.W.Frag) (mg : Str → Option Value) (base : Heap) (BM TG : Addr) : Prop where
  BadMachine : ErC P w K mg base "BadMachine" "place" BM
  TooGreat : ErC P w K mg base "TooGreat" "most" TG
def spNeedState (K : PySem.W.Frag) (BM TG : Addr) : Sp := fun vs H Q E => ∃ (many st : Nat) (sv ev : V) (sd ed : List PyData), vs = [.int many, sv, ev, .int st] ∧ Dp K H sv (.tuple sd) ∧ Dp K H ev (.tuple ed) ∧ 1 ≤ many ∧ many ≤ 4 ∧ st < sd.length ∧ sd.length ≤ 600 ∧ ed.length = sd.length ∧
  OutM K BM TG H (Q .non) E (stF many sd ed st)
def spNeedMachine (K : PySem.W.Frag) (BM TG : Addr) : Sp := fun vs H Q E => ∃ (v : V) (d : PyData), vs = [v] ∧ Dp K H v d ∧ OutM K BM TG H (Q v) E (machF d)
section
variable {K : PySem.W.Frag} {H : Hp}
theorem _root_.L2.DpAll.at_ {xs : List V} {ds : List PyData} (h : DpAll K H xs ds) {i : Nat} (hi : i < ds.length) : ∃ x, xs[i]? = some x ∧ atI xs (i : Int) = some x ∧ Dp K H x (ds.getD i .none) := by
  obtain ⟨x, h1, h2⟩ := DpAll.get h (i := i) (d := ds.getD i .none) (by simp [hi])
  exact ⟨x, h1, atI_nat h1, h2⟩
theorem isTn_tup {d : PyData} {n : Int} (h : isTn d n = true) : ∃ ds, d = .tuple ds ∧ (ds.length : Int) = n := by
  cases d with
  | tuple ds => exact ⟨ds, rfl, by simpa [isTn] using h⟩
  | _ => cases h
end
abbrev s_need_state : Stmt := top 24
abbrev nm_need_state : List Str := ["many", "steps", "ends", "state", "row", "column", "target"]
abbrev pr_need_state : List Str := ["many", "steps", "ends", "state"]
theorem sc_need_state : FnScope nm_need_state pr_need_state (defScope s_need_state) := ⟨rfl, rfl, rfl, by decide +kernel, rfl, by decide +kernel, by decide +kernel⟩
abbrev s_need_machine : Stmt := top 23
abbrev nm_need_machine : List Str := ["value", "many", "steps", "ends", "state", "row"]
abbrev pr_need_machine : List Str := ["value"]
theorem sc_need_machine : FnScope nm_need_machine pr_need_machine (defScope s_need_machine) := ⟨rfl, rfl, rfl, by decide +kernel, rfl, by decide +kernel, by decide +kernel⟩
abbrev s_is_machine : Stmt := top 25
abbrev nm_is_machine : List Str := ["value"]
abbrev pr_is_machine : List Str := ["value"]
theorem sc_is_machine : FnScope nm_is_machine pr_is_machine (defScope s_is_machine) := ⟨rfl, rfl, rfl, by decide +kernel, rfl, by decide +kernel, by decide +kernel⟩
/-- x is not b -/
def rNotBA : R2 := fun x y H Q => ∃ b : Bool, y = .bl b ∧ Q (.bl (!decide (x = .bl b))) H
theorem op_notBA {X : Cx} : OpR X (compareOp .IsNot) rNotBA := by
  intro pins s σ H x y v u Q I rx ry h
  obtain ⟨b, rfl, q⟩ := h
  cases (show u = Value.bool b from ry)
  have fin : ∀ c, (x = .bl b) = (c = true) → decide (x = .bl b) = c → EP X pins σ Q (.bool (!c)) s := fun c _ e => ⟨.bl (!c), H, I, rfl, by rw [← e]; exact q⟩
  by_cases e : x = .bl b
  · subst e
    cases (show v = Value.bool b from rx)
    exact wpAny_isNot_self rfl ⟨.bl false, H, I, rfl, by simpa using q⟩
  · have e2 : (!decide (x = .bl b)) = true := by simpa using e
    rw [e2] at q
    have go : plainIs v (.bool b) = true ∧ v ≠ .bool b := by
      cases x with
      | non => cases (show v = Value.none from rx); exact ⟨rfl, fun z => by cases z⟩
      | bl c => cases (show v = Value.bool c from rx); exact ⟨rfl, fun z => by cases z; exact e rfl⟩
      | int i => obtain ⟨t, rfl⟩ := rx; exact ⟨rfl, fun z => by cases z⟩
      | str i => obtain ⟨t, rfl⟩ := rx; exact ⟨rfl, fun z => by cases z⟩
      | byt i => obtain ⟨t, rfl⟩ := rx; exact ⟨rfl, fun z => by cases z⟩
      | flt i => obtain ⟨t, rfl⟩ := rx; exact ⟨rfl, fun z => by cases z⟩
      | ref i => cases (show v = Value.ref i from rx); exact ⟨rfl, fun z => by cases z⟩
      | ty i => cases (show v = Value.type i from rx); exact ⟨rfl, fun z => by cases z⟩
    exact wpAny_isNot_other go.1 go.2 ⟨.bl true, H, I, rfl, q⟩
section
variable {P : Program} {w : World} {K : PySem.W.Frag} {mg : Str → Option Value} {base : Heap} {BM TG : Addr}
theorem Fl.then_ok {x y : Fl} (h : x.then y = .ok) : x = .ok ∧ y = .ok := by
  cases x with
  | ok => exact ⟨rfl, h⟩
  | _ => cases h
theorem firstFl_inv : ∀ {l : List Fl}, firstFl l = .ok → ∀ x ∈ l, x = .ok
  | [], _, x, hx => by cases hx
  | y :: r, h, x, hx => by
    cases y with
    | ok =>
      rcases List.mem_cons.mp hx with e | e
      · exact e
      · exact firstFl_inv (l := r) h x e
    | _ => cases h
theorem overFl_inv {n : Nat} {f : Nat → Fl} (h : overFl n f = .ok) {j : Nat} (hj : j < n) : f j = .ok := firstFl_inv h _ (List.mem_map.mpr ⟨j, List.mem_range.mpr hj, rfl⟩)
/-- what a state that is as told looks like -/
structure StOk (many : Nat) (sd ed : List PyData) (st : Nat) (rd : List PyData) : Prop where
  row : sd.getD st .none = .tuple rd
  len : rd.length = 2 ^ many
  cell : ∀ c, c < 2 ^ many → ∃ t : Nat, rd.getD c .none = .int t ∧ t < sd.length
  fin : ∃ b, ed.getD st .none = .bool b
theorem stF_ok' {many st : Nat} {sd ed : List PyData} (h : stF many sd ed st = .ok) (hz : 0 < sd.length) : ∃ rd, StOk many sd ed st rd := by
  unfold stF at h
  by_cases c : isTn (sd.getD st .none) ((2 ^ many : Nat) : Int) = true
  · rw [if_pos c] at h
    obtain ⟨rd, e1, e2⟩ := isTn_tup c
    obtain ⟨h1, h2⟩ := Fl.then_ok h
    refine ⟨rd, e1, by exact_mod_cast e2, fun c hc => ?_, ?_⟩
    · have h3 := overFl_inv h1 hc
      unfold colF at h3
      rw [e1] at h3
      by_cases c2 : isBt (rd.getD c .none) 0 ((sd.length : Int) - 1) = true
      · generalize rd.getD c .none = x at c2 ⊢
        cases x with
        | int i =>
          simp only [isBt, Bool.and_eq_true, decide_eq_true_eq] at c2
          exact ⟨i.toNat, by rw [Int.toNat_of_nonneg (by omega)], by omega⟩
        | _ => cases c2
      · rw [if_neg (show ¬ isBt ((itm (.tuple rd)).getD c .none) 0 ((sd.length : Int) - 1) = true from c2)] at h3
        cases h3
    · generalize ed.getD st .none = x at h2 ⊢
      cases x with
      | bool b => exact ⟨b, rfl⟩
      | _ => cases h2
  · rw [if_neg c] at h
    cases h
theorem rz_bad {ls : List Int} {H H1 : Hp} {kk : Hp → Prop} {E : XK} {σ : L2.St} {p : Addr} (k : OutM K BM TG H kk E (.bad ls)) (e : Same H H1) (hp : H1 p = none) :
    rzQ BM "place" (fun cls d _ H => E cls d H) σ (.ref p) (upd H1 p (.tup (ls.map V.int))) :=
  rz_ok fun d hd => k _ d (.ref p) ((e.then_new hp).then_new hd) upd_same (Dp.tup_ints (.of (by rw [upd_ne (ne_of_none upd_same hd), upd_same])))
theorem ok_need_state (B : Bl mg) (T : ErS P w K mg base BM TG) (F1 : Df P w K mg base CX0 1 "is_tuple_of" pr_is_tuple_of (spIsTupleOf K)) (F2 : Df P w K mg base CX0 2 "is_between" pr_is_between (spIsBetween K)) (D : Dt K mg "need_state" s_need_state pr_need_state) :
    Df P w K mg base (L2.CX P w) 3 "need_state" pr_need_state (spNeedState K BM TG) := by
  refine D.okX sc_need_state (fun vs H Q E h => ?_) (fun f cdv A outer s H vs Q E hr h => ?_)
  · obtain ⟨many, st, sv, ev, sd, ed, rfl, _⟩ := h
    rfl
  · obtain ⟨many, st, sv, ev, sd, ed, rfl, hs, he, h1, h2, h3, h4, h5, k⟩ := h
    refine ⟨_, (pss_cons (ps_set (i := 4) sc_need_state.nd rfl (Or.inl rfl) (pe_ix ix_tup (pv 1) (pv 3) (fun _ _ => rfl))) (pss_cons (ps_if (pt_not (pt_val (pe_f F1 (hr.mono (by decide)) pass0 (pa_cons (pv 4) (pa_cons (pe_op op_shl pe_int (pv 0)) pa_nil))))) (pss_one (ps_rz rfl T.BadMachine (hr.mono (by decide)) (takes_of rfl rfl rfl rfl) (by rfl) (pe_tup (pa_cons pe_int (pa_cons (pv 3) pa_nil))))) pss_nil) (pss_cons (ps_for (passes_of rfl) rfl (pi_enumT (by rfl) B.enumerate (pa_cons (pv 4) pa_nil)) (pg_tup rfl (pgs_cons (pg_name (i := 5) sc_need_state.nd rfl (Or.inl rfl)) (pgs_cons (pg_name (i := 6) sc_need_state.nd rfl (Or.inl rfl)) pgs_nil))) (pss_one (ps_if (pt_not (pt_val (pe_f F2 (hr.mono (by decide)) pass0 (pa_cons (pv 6) (pa_cons pe_int (pa_cons (pe_op op_sub (pe_callB call_len_seq (by rfl) B.len PySem.boot_len (pa_cons (pv 1) pa_nil)) pe_int) pa_nil)))))) (pss_one (ps_rz rfl T.BadMachine (hr.mono (by decide)) (takes_of rfl rfl rfl rfl) (by rfl) (pe_tup (pa_cons pe_int (pa_cons (pv 3) (pa_cons (pv 5) pa_nil)))))) pss_nil))) (pss_one (ps_if (PW.pt (pw_and (pt_cmpR op_notBA (pe_ix ix_tup (pv 2) (pv 3) (fun _ _ => rfl)) pe_bl (nomark _)) (pw_and1 (pt_cmpR op_notBA (pe_ix ix_tup (pv 2) (pv 3) (fun _ _ => rfl)) pe_bl (nomark _))))) (pss_one (ps_rz rfl T.BadMachine (hr.mono (by decide)) (takes_of rfl rfl rfl rfl) (by rfl) (pe_tup (pa_cons pe_int (pa_cons (pv 3) pa_nil))))) pss_nil))))), ?_⟩
    walk_at "nf"
    walk_at "sx"
    obtain ⟨a, xs, rfl, hq, ha⟩ := hs.tup_inv
    obtain ⟨b, ys, rfl, hq2, ha2⟩ := he.tup_inv
    obtain ⟨r, hr1, hr2, hr3⟩ := ha.at_ h3
    have e1 : (1 * 2 ^ (many : Int).toNat : Int) = ((2 ^ many : Nat) : Int) := by simp
    refine ⟨a, rfl, xs, hq, r, hr2, ⟨by omega, by omega, by decide⟩, r, _, _, rfl, hr3, _, rfl, ?_⟩
    rw [e1]
    unfold stF at k
    cases c : isTn (sd.getD st .none) ((2 ^ many : Nat) : Int) with
    | false =>
      rw [c, if_neg Bool.false_ne_true] at k
      refine iteT ?_
      exact ⟨by decide, fun p hp => rz_bad k (Same.refl _) hp⟩
    | true =>
      rw [c, if_pos rfl] at k
      refine iteF ?_
      obtain ⟨rd, erd, hl⟩ := isTn_tup c
      rw [erd] at hr3 k
      obtain ⟨ar, zs, rfl, hq3, ha3⟩ := hr3.tup_inv
      have hl2 : rd.length = 2 ^ many := by exact_mod_cast hl
      have hm : (2 : Nat) ^ many ≤ 16 := Nat.pow_le_pow_right (by decide) h2
      have hz := ha3.length
      refine ⟨_, rfl, ar, zs, rfl, hq3, for_it walk_enumT (fun i σ H' => ∃ v5 v6, σ = [some (.int many), some (.ref a), some (.ref b), some (.int st), some (.ref ar), v5, v6] ∧ Same H H' ∧ ∀ j, j < i → colF sd.length (.tuple rd) st j = .ok)
        ⟨_, _, rfl, Same.refl _, fun j hj => absurd hj (by omega)⟩ (fun i σ H' _ ⟨_, _, _, e, _⟩ => e.seqT hq3) ?_ ?_⟩
      · rintro i x σ H1 H2 hi ⟨v5, v6, rfl, e, hc⟩ ⟨T, x1, x2, rfl, hT, rfl, hx1, hx2⟩
        have e1 : x1 = V.int (i : Nat) := (Option.some.inj hx1).symm
        subst e1
        obtain ⟨dx, hd1, hd2⟩ := ha3.getV hx2
        try walk_at "nf"
        refine ⟨T, _, rfl, .of upd_same, rfl, ?_⟩
        walk_at "sx"
        have e' : Same H (upd H1 T (HO.tup [V.int i, x2])) := e.then_new hT
        have hi2 : i < 2 ^ many := by omega
        refine ⟨xs, .inr (e'.seqT hq), x2, dx, 0, (xs.length : Int) - 1, rfl, hd2.to e', _, rfl, ?_⟩
        have eq1 : rd.getD i .none = dx := by simp [hd1]
        rw [ha.length]
        cases cb : isBt dx 0 ((sd.length : Int) - 1) with
        | true =>
          refine iteF ⟨e', fun j hj => ?_⟩
          by_cases hji : j < i
          · exact hc j hji
          · have : j = i := by omega
            subst this
            show (if isBt (rd.getD j .none) 0 ((sd.length : Int) - 1) = true then Fl.ok else _) = _
            rw [eq1, cb, if_pos rfl]
        | false =>
          have ec : colF sd.length (.tuple rd) st i = .bad [1, st, i] := by
            show (if isBt (rd.getD i .none) 0 ((sd.length : Int) - 1) = true then Fl.ok else _) = _
            rw [eq1, cb, if_neg Bool.false_ne_true]
          rw [overFl_at hi2 (by rw [ec]; intro z; cases z) hc, ec] at k
          exact iteT ⟨by decide, fun p hp => rz_bad k e' hp⟩
      · rintro σ H1 ⟨v5, v6, rfl, e, hc⟩
        rw [overFl_ok fun j hj => hc j (by omega)] at k
        obtain ⟨r2, g1, g2, g3⟩ := ha2.at_ (i := st) (by omega)
        try walk_at "nf"
        walk_at "sx"
        have k2 : OutM K BM TG H (Q V.non) E (if isBo (ed.getD st PyData.none) = true then Fl.ok else Fl.bad [2, ↑st]) := k
        refine ⟨ys, e.seqT hq2, r2, g2, true, rfl, _, rfl, ?_⟩
        by_cases c1 : r2 = .bl true
        · subst c1
          have ed1 : isBo (ed.getD st .none) = true := by
            revert g3
            generalize ed.getD st .none = de
            intro g3
            cases g3
            rfl
          rw [if_pos ed1] at k2
          exact iteF (k2 H1 e)
        · rw [decide_eq_false c1]
          refine iteT ⟨ys, e.seqT hq2, r2, g2, false, rfl, _, rfl, ?_⟩
          by_cases c2 : r2 = .bl false
          · subst c2
            have ed1 : isBo (ed.getD st .none) = true := by
              revert g3
              generalize ed.getD st .none = de
              intro g3
              cases g3
              rfl
            rw [if_pos ed1] at k2
            exact iteF (k2 H1 e)
          · rw [decide_eq_false c2]
            have ed1 : ¬ isBo (ed.getD st .none) = true := by
              revert g3
              generalize ed.getD st .none = de
              intro g3
              cases g3 with
              | bl b => cases b <;> first | exact absurd rfl c1 | exact absurd rfl c2
              | _ => exact Bool.false_ne_true
            rw [if_neg ed1] at k2
            exact iteT ⟨by decide, fun p hp => rz_bad k2 e hp⟩
theorem ok_need_machine (B : Bl mg) (C : Cs mg) (T : ErS P w K mg base BM TG) (F1 : Df P w K mg base CX0 1 "is_tuple_of" pr_is_tuple_of (spIsTupleOf K)) (F2 : Df P w K mg base CX0 2 "is_between" pr_is_between (spIsBetween K))
    (F3 : Df P w K mg base (L2.CX P w) 3 "need_state" pr_need_state (spNeedState K BM TG)) (D : Dt K mg "need_machine" s_need_machine pr_need_machine) :
    Df P w K mg base (L2.CX P w) 4 "need_machine" pr_need_machine (spNeedMachine K BM TG) := by
  refine D.okX sc_need_machine (fun vs H Q E h => ?_) (fun f cdv A outer s H vs Q E hr h => ?_)
  · obtain ⟨v, d, rfl, _⟩ := h
    rfl
  · obtain ⟨v, d, rfl, hd, k⟩ := h
    refine ⟨_, (pss_cons (ps_if (pt_not (pt_val (pe_f F1 (hr.mono (by decide)) pass0 (pa_cons (pv 0) (pa_cons pe_int pa_nil))))) (pss_one (ps_rz rfl T.BadMachine (hr.mono (by decide)) (takes_of rfl rfl rfl rfl) (by rfl) (pe_tup pa_nil))) pss_nil) (pss_cons (ps_asg (pv 0) (pg_tup rfl (pgs_cons (pg_name (i := 1) sc_need_machine.nd rfl (Or.inl rfl)) (pgs_cons (pg_name (i := 2) sc_need_machine.nd rfl (Or.inl rfl)) (pgs_cons (pg_name (i := 3) sc_need_machine.nd rfl (Or.inl rfl)) pgs_nil))))) (pss_cons (ps_if (pt_not (pt_val (pe_f F2 (hr.mono (by decide)) pass0 (pa_cons (pv 1) (pa_cons pe_int (pa_cons pe_int pa_nil)))))) (pss_one (ps_rz rfl T.BadMachine (hr.mono (by decide)) (takes_of rfl rfl rfl rfl) (by rfl) (pe_tup (pa_cons pe_int pa_nil)))) pss_nil) (pss_cons (ps_if (PW.pt (pw_or (pt_not (pt_val (pe_callB call_isi (by rfl) B.isinstance boot_isinstance (pa_cons (pv 2) (pa_cons (pe_bltn (v := .ty "tuple") (by rfl) B.tuple PyProof.Rows.boot_tuple rfl) pa_nil))))) (pw_or1 (pt_not (pt_truth (pv 2) (by intro _; rfl)))))) (pss_one (ps_rz rfl T.BadMachine (hr.mono (by decide)) (takes_of rfl rfl rfl rfl) (by rfl) (pe_tup (pa_cons pe_int pa_nil)))) pss_nil) (pss_cons (ps_if (pt_cmpR op_gt (pe_callB call_len_seq (by rfl) B.len PySem.boot_len (pa_cons (pv 2) pa_nil)) (pe_glob (v := .int 600) rfl C.MOST_STATES.choose_spec ⟨_, rfl⟩) (nomark _)) (pss_one (ps_rz rfl T.TooGreat (hr.mono (by decide)) (takes_of rfl rfl rfl rfl) (by rfl) (pe_glob (v := .int 600) rfl C.MOST_STATES.choose_spec ⟨_, rfl⟩))) pss_nil) (pss_cons (ps_if (pt_not (pt_val (pe_f F1 (hr.mono (by decide)) pass0 (pa_cons (pv 3) (pa_cons (pe_callB call_len_seq (by rfl) B.len PySem.boot_len (pa_cons (pv 2) pa_nil)) pa_nil))))) (pss_one (ps_rz rfl T.BadMachine (hr.mono (by decide)) (takes_of rfl rfl rfl rfl) (by rfl) (pe_tup (pa_cons pe_int pa_nil)))) pss_nil) (pss_cons (ps_for (passes_of rfl) rfl (pi_range1 (by rfl) B.range (pa_cons (pe_callB call_len_seq (by rfl) B.len PySem.boot_len (pa_cons (pv 2) pa_nil)) pa_nil)) (pg_name (i := 4) sc_need_machine.nd rfl (Or.inl rfl)) (pss_one (ps_expr (pe_f (E := E) F3 (hr.mono (by decide)) (passes_call (takes_of rfl rfl rfl rfl) fun _ _ _ _ h => h) (pa_cons (pv 1) (pa_cons (pv 2) (pa_cons (pv 3) (pa_cons (pv 4) pa_nil)))))))) (pss_cons (ps_for (passes_of rfl) rfl (pi_enumT (by rfl) B.enumerate (pa_cons (pv 2) pa_nil)) (pg_tup rfl (pgs_cons (pg_name (i := 4) sc_need_machine.nd rfl (Or.inl rfl)) (pgs_cons (pg_name (i := 5) sc_need_machine.nd rfl (Or.inl rfl)) pgs_nil))) (pss_one (ps_if (pt_cmpR op_ne (pe_ix ix_tup (pv 3) (pe_ix ix_tup (pv 5) pe_int (fun _ _ => rfl)) (fun _ _ => rfl)) (pe_ix ix_tup (pv 3) (pv 4) (fun _ _ => rfl)) (nomark _)) (pss_one (ps_rz rfl T.BadMachine (hr.mono (by decide)) (takes_of rfl rfl rfl rfl) (by rfl) (pe_tup (pa_cons pe_int (pa_cons (pv 4) pa_nil))))) pss_nil))) (pss_one (ps_ret (pv 0))))))))))), ?_⟩
    walk_at "nf"
    walk_at "sx"
    refine ⟨v, d, _, rfl, hd, _, rfl, ?_⟩
    unfold machF at k
    cases c : isTn d 3 with
    | false =>
      rw [c, if_neg Bool.false_ne_true] at k
      exact iteT ⟨by decide, fun p hp => rz_bad k (Same.refl _) hp⟩
    | true =>
      rw [c, if_pos rfl] at k
      refine iteF ?_
      obtain ⟨ds, rfl, hl⟩ := isTn_tup c
      obtain ⟨d0, d1, d2, rfl⟩ : ∃ d0 d1 d2, ds = [d0, d1, d2] := by
        match ds, hl with
        | [a, b, c], _ => exact ⟨a, b, c, rfl⟩
        | [], h => cases h
        | [_], h => cases h
        | [_, _], h => cases h
        | _ :: _ :: _ :: _ :: _, h => simp only [List.length_cons] at h; omega
      obtain ⟨a, xs, rfl, hq, ha⟩ := hd.tup_inv
      cases ha with
      | @cons v0 _ _ _ g0 ha =>
      cases ha with
      | @cons v1 _ _ _ g1 ha =>
      cases ha with
      | @cons v2 _ _ _ g2 ha =>
      cases ha
      replace k : OutM K BM TG H (Q (V.ref a)) E (machF3 d0 d1 d2) := k
      unfold machF3 at k
      refine ⟨a, rfl, _, hq, rfl, v0, _, rfl, v1, _, rfl, v2, _, rfl, rfl, v0, d0, 1, 4, rfl, g0, _, rfl, ?_⟩
      cases c1 : isBt d0 1 4 with
      | false =>
        rw [c1, if_neg Bool.false_ne_true] at k
        exact iteT ⟨by decide, fun p hp => rz_bad k (Same.refl _) hp⟩
      | true =>
      rw [c1, if_pos rfl] at k
      refine iteF (isi_tuple g1 ⟨_, rfl, ?_⟩)
      cases c2 : isT d1 with
      | false =>
        rw [c2, if_neg (fun z => Bool.false_ne_true z.1)] at k
        exact iteT ⟨by decide, fun p hp => rz_bad k (Same.refl _) hp⟩
      | true =>
      cases d1 with
      | tuple sd =>
        obtain ⟨b, xs, rfl, hq1, ha1⟩ := g1.tup_inv
        refine iteF ⟨_, .inr (.inl ⟨xs, hq1, rfl⟩), ?_⟩
        have hl1 := ha1.length
        cases sd with
        | nil =>
          cases ha1
          rw [if_neg (fun z => z.2 rfl)] at k
          exact iteT ⟨by decide, fun p hp => rz_bad k (Same.refl _) hp⟩
        | cons sd0 sdr =>
          rw [if_pos ⟨rfl, fun z => by cases z⟩] at k
          generalize esd : (sd0 :: sdr) = sd at *
          have hpos : 0 < sd.length := by rw [← esd]; simp
          replace k : OutM K BM TG H (Q (V.ref a)) E (if 600 < sd.length then Fl.great else if isTn d2 (sd.length : Nat) = true then (overFl sd.length (stF (iOf d0).toNat sd (itm d2))).then (overFl sd.length (endF sd (itm d2))) else Fl.bad [2]) := k
          have e0 : (!xs.isEmpty) = true := by cases xs <;> simp_all
          rw [e0]
          refine iteF ⟨b, rfl, xs, .inr hq1, ?_⟩
          by_cases c3 : 600 < sd.length
          · rw [if_pos c3] at k
            rw [if_pos (by rw [hl1]; simp; omega)]
            exact rz_ok fun d hd => k _ d (Same.new hd) upd_same
          · rw [if_neg c3] at k
            rw [if_neg (by rw [hl1]; simp; omega)]
            refine ⟨b, rfl, xs, .inr hq1, v2, d2, _, rfl, g2, _, rfl, ?_⟩
            rw [hl1]
            cases c4 : isTn d2 ((sd.length : Nat) : Int) with
            | false =>
              rw [c4, if_neg Bool.false_ne_true] at k
              exact iteT ⟨by decide, fun p hp => rz_bad k (Same.refl _) hp⟩
            | true =>
            rw [c4, if_pos rfl] at k
            obtain ⟨ed, rfl, hl2⟩ := isTn_tup c4
            replace hl2 : ed.length = sd.length := by exact_mod_cast hl2
            obtain ⟨b2, ys, rfl, hq2, ha2⟩ := g2.tup_inv
            obtain ⟨many, rfl, m1, m2⟩ : ∃ many : Nat, d0 = .int many ∧ 1 ≤ many ∧ many ≤ 4 := by
              cases d0 with
              | int i =>
                simp only [isBt, Bool.and_eq_true, decide_eq_true_eq] at c1
                exact ⟨i.toNat, by rw [Int.toNat_of_nonneg (by omega)], by omega, by omega⟩
              | _ => cases c1
            obtain rfl := g0.int_inv
            replace k : OutM K BM TG H (Q (V.ref a)) E ((overFl sd.length (stF many sd ed)).then (overFl sd.length (endF sd ed))) := k
            refine iteF ⟨_, rfl, b, rfl, xs, .inr hq1, _, rfl, by omega, by omega, for_it walk_range (fun i σ H' => ∃ v4, σ = [some (.ref a), some (.int many), some (.ref b), some (.ref b2), v4, none] ∧ Same H H' ∧ ∀ j, j < i → stF many sd ed j = .ok)
              ⟨_, rfl, Same.refl _, fun j hj => absurd hj (by omega)⟩ (fun _ _ _ _ _ => trivial) ?_ ?_⟩
            · rintro i x σ H1 H2 hi ⟨v4, rfl, e, hc⟩ ⟨rfl, rfl⟩
              try walk_at "nf"
              walk_at "sx"
              have hi2 : i < sd.length := by omega
              refine ⟨many, i, .ref b, .ref b2, sd, ed, by rw [Int.zero_add], g1.to e, g2.to e, m1, m2, hi2, by omega, hl2, ?_⟩
              cases c5 : stF many sd ed i with
              | ok =>
                exact fun H' e' => ⟨e.trans e', fun j hj => by
                  by_cases hji : j < i
                  · exact hc j hji
                  · have : j = i := by omega
                    subst this
                    exact c5⟩
              | bad l =>
                rw [overFl_at hi2 (by rw [c5]; intro z; cases z) hc, c5] at k
                exact fun H' d v e' => k H' d v (e.trans e')
              | great =>
                rw [overFl_at hi2 (by rw [c5]; intro z; cases z) hc, c5] at k
                exact fun H' d e' => k H' d (e.trans e')
            · rintro σ H1 ⟨v4, rfl, e, hc⟩
              have okS : ∀ j, j < sd.length → stF many sd ed j = .ok := fun j hj => hc j (by omega)
              rw [overFl_ok okS] at k
              replace k : OutM K BM TG H (Q (V.ref a)) E (overFl sd.length (endF sd ed)) := k
              try walk_at "nf"
              refine ⟨_, rfl, b, xs, rfl, e.seqT hq1, for_it walk_enumT (fun i σ H' => ∃ v4 v5, σ = [some (.ref a), some (.int many), some (.ref b), some (.ref b2), v4, v5] ∧ Same H H' ∧ ∀ j, j < i → endF sd ed j = .ok)
                ⟨_, _, rfl, e, fun j hj => absurd hj (by omega)⟩ (fun i σ H' _ ⟨_, _, _, e, _⟩ => e.seqT hq1) ?_ ?_⟩
              · rintro i x σ H1 H2 hi ⟨v4, v5, rfl, e, hc⟩ ⟨Tt, x1, x2, rfl, hT, rfl, hx1, hx2⟩
                have e1 : x1 = V.int (i : Nat) := (Option.some.inj hx1).symm
                subst e1
                have e' : Same H (upd H1 Tt (HO.tup [V.int i, x2])) := e.then_new hT
                obtain ⟨dx, hd1, hd2⟩ := ha1.getV hx2
                have hi2 : i < sd.length := by omega
                have eq1 : sd.getD i .none = dx := by simp [hd1]
                obtain ⟨rd, so⟩ := stF_ok' (okS i hi2) hpos
                obtain ⟨t, ht1, ht2⟩ := so.cell 0 (Nat.two_pow_pos many)
                obtain ⟨rd2, so2⟩ := stF_ok' (okS t ht2) hpos
                obtain ⟨bi, hbi⟩ := so.fin
                obtain ⟨bt, hbt⟩ := so2.fin
                have edx : dx = .tuple rd := by rw [← eq1]; exact so.row
                subst edx
                obtain ⟨ar, zs, rfl, hq3, ha3⟩ := hd2.tup_inv
                obtain ⟨w0, k1, k2, k3⟩ := ha3.at_ (i := 0) (by rw [so.len]; exact Nat.two_pow_pos many)
                rw [ht1] at k3
                obtain rfl := k3.int_inv
                obtain ⟨wt, j1, j2, j3⟩ := ha2.at_ (i := t) (by omega)
                rw [hbt] at j3
                obtain rfl := j3.bl_inv
                obtain ⟨wi, l1, l2, l3⟩ := ha2.at_ (i := i) (by omega)
                rw [hbi] at l3
                obtain rfl := l3.bl_inv
                try walk_at "nf"
                refine ⟨Tt, _, rfl, .of upd_same, rfl, ?_⟩
                walk_at "sx"
                refine ⟨zs, e'.seqT hq3, _, k2, ys, t, rfl, e'.seqT hq2, _, j2, ys, e'.seqT hq2, _, l2, rfl, ?_⟩
                have ec : endF sd ed i = if bt = bi then .ok else .bad [2, i] := by
                  show (if boOf (ed.getD (iOf ((itm (sd.getD i .none)).getD 0 .none)).toNat .none) = boOf (ed.getD i .none) then Fl.ok else _) = _
                  rw [eq1]
                  show (if boOf (ed.getD (iOf (rd.getD 0 .none)).toNat .none) = boOf (ed.getD i .none) then Fl.ok else _) = _
                  rw [ht1]
                  show (if boOf (ed.getD ((t : Nat) : Int).toNat .none) = boOf (ed.getD i .none) then Fl.ok else _) = _
                  rw [Int.toNat_natCast, hbt, hbi]
                  rfl
                by_cases cb : bt = bi
                · subst cb
                  rw [if_pos rfl] at ec
                  rw [decide_eq_true rfl]
                  exact iteF ⟨e', fun j hj => by
                    by_cases hji : j < i
                    · exact hc j hji
                    · have : j = i := by omega
                      subst this
                      exact ec⟩
                · rw [if_neg cb] at ec
                  rw [decide_eq_false (fun z => cb (V.bl.inj z))]
                  rw [overFl_at hi2 (by rw [ec]; intro z; cases z) hc, ec] at k
                  exact iteT ⟨by decide, fun p hp => rz_bad k e' hp⟩
              · rintro σ H1 ⟨v4, v5, rfl, e, hc⟩
                rw [overFl_ok fun j hj => hc j (by omega)] at k
                try walk_at "nf"
                exact ⟨_, rfl, k H1 e⟩
      | _ => cases c2
end
end Ws
/-! ## K14f -/
namespace Ws
open PySem PySem.Spec PyProof.Rows L2
local macro_rules | `(tactic| walk_at "nf") => `(tactic| dsimp only [tNext, tSeq, tDrop, tRet, tRetN, tIfS, tAsg, gName, gTup, gCons, gNil, tVar, tC, tOp, tUn, rI, rI0, rU, rEq, rNe, tTest, tChain, tAnd, tOr, tNot, tAndV, tOrV, tNotV, tIf, tCB, tCKw, tCons, tNil, tTup, tLst, tCa, tCallS, tB, rIxT, rIxL, rIxS, cxOf, Cx.nox, Cx.wish, Cx.blk, L2.start, tPar, tPar3, tNever, tYes, tBits, tRz, tBM, rAppend, tyV, tXf, suiteEnds, gSub, rSetL, tBreak, rMax, tDGet, sDPut, tSl, tNoPart, tPart, tDisp, tPairs])
local macro_rules | `(tactic| walk_at "sx") => `(tactic| simp only [wipe, List.cons.injEq, and_assoc, exists_and_left, and_true, List.map_cons, List.map_nil, List.length_cons, List.length_nil, List.cons_append, List.nil_append, List.append_nil, Nat.reduceAdd, Nat.reduceSub, List.replicate, List.getElem?_cons_zero, List.getElem?_cons_succ, List.set_cons_zero, List.set_cons_succ, Option.some.injEq, V.int.injEq, V.bl.injEq, V.ref.injEq, V.str.injEq, exists_eq_left', exists_eq_left, true_and, Bool.true_eq_false, Bool.false_eq_true, if_true, if_false])

/-! ### is_machine, run_of, takes, _law_told -/
structure ExS (K : PySem.W.Frag) (mg : Str → Option Value) (SA BM TG : Addr) : Prop where
  say : mg "SayError" = some (.ref SA)
  bs : PySem.W.exmOne K (.ref BM) (.ref SA) = some true
  ts : PySem.W.exmOne K (.ref TG) (.ref SA) = some true
  bb : PySem.W.exmOne K (.ref BM) (.ref BM) = some true
  tb : PySem.W.exmOne K (.ref TG) (.ref BM) = some false
  tt : PySem.W.exmOne K (.ref TG) (.ref TG) = some true
theorem exm_of {K : PySem.W.Frag} {S c : Addr} {b : Bool} (h1 : PySem.W.subIn K (.ref S) (.type "BaseException") = some true) (h2 : PySem.W.isClsIn K S = true) (h3 : PySem.W.typeIn K (.ref S) = some (.type "type")) (h4 : PySem.W.subIn K (.ref c) (.ref S) = some b) :
    PySem.W.exmOne K (.ref c) (.ref S) = some b := by
  have e1 : (PySem.W.subIn K (.ref S) (.type "BaseException") == some true) = true := by rw [h1] <;> rfl
  have e2 : ((PySem.W.clsIn K S).isSome && PySem.W.typeIn K (.ref S) == some (.type "type")) = true := by
    have h2' : (PySem.W.clsIn K S).isSome = true := h2
    rw [h2', h3] <;> rfl
  show (if (PySem.W.subIn K (.ref S) (.type "BaseException") == some true) = true then (if ((PySem.W.clsIn K S).isSome && PySem.W.typeIn K (.ref S) == some (.type "type")) = true then PySem.W.subIn K (.ref c) (.ref S) else none) else none) = some b
  rw [if_pos e1, if_pos e2]
  exact h4
def isOkF : Fl → Bool
  | .ok => true
  | _ => false
def spIsMachine (K : PySem.W.Frag) : Sp := fun vs H Q _ => ∃ (v : V) (d : PyData), vs = [v] ∧ Dp K H v d ∧ ∀ H', Same H H' → Q (.bl (isOkF (machF d))) H'
/-- a machine -/
structure Mc where
  many : Nat
  steps : List (List Nat)
  ends : List Bool
def machD (M : Mc) : PyData := .tuple [.int M.many, .tuple (M.steps.map rowD), .tuple (M.ends.map PyData.bool)]
def Mc.go (M : Mc) (q c : Nat) : Nat := (M.steps.getD q []).getD c 0
structure McOk (M : Mc) : Prop where
  many1 : 1 ≤ M.many
  many2 : M.many ≤ 4
  one : 1 ≤ M.steps.length
  few : M.steps.length ≤ 600
  row : ∀ q, q < M.steps.length → (M.steps.getD q []).length = 2 ^ M.many
  cell : ∀ q c, q < M.steps.length → c < 2 ^ M.many → M.go q c < M.steps.length
  ends : M.ends.length = M.steps.length
  settled : ∀ q, q < M.steps.length → M.ends.getD (M.go q 0) false = M.ends.getD q false
def Mc.at (M : Mc) (cs : List Nat) : Nat := cs.foldl M.go 0
def Mc.runs (M : Mc) (cs : List Nat) : List Nat := (List.range (cs.length + 1)).map fun i => M.at (cs.take i)
theorem Mc.at_take {M : Mc} {cs : List Nat} {i : Nat} (h : i < cs.length) : M.at (cs.take (i + 1)) = M.go (M.at (cs.take i)) (cs.getD i 0) := by
  unfold Mc.at
  rw [List.take_add_one, List.foldl_append]
  simp [h]
theorem Mc.at_lt {M : Mc} (O : McOk M) : ∀ {cs : List Nat}, (∀ c ∈ cs, c < 2 ^ M.many) → M.at cs < M.steps.length := by
  have h : ∀ (cs : List Nat) (q : Nat), q < M.steps.length → (∀ c ∈ cs, c < 2 ^ M.many) → cs.foldl M.go q < M.steps.length := by
    intro cs
    induction cs with
    | nil => exact fun q h _ => h
    | cons c r ih => exact fun q h hc => ih _ (O.cell q c h (hc c (List.mem_cons_self ..))) fun x hx => hc x (List.mem_cons_of_mem _ hx)
  exact fun {cs} hc => h cs 0 O.one hc
theorem runs_last {M : Mc} {cs : List Nat} : M.runs cs = ((List.range cs.length).map fun i => M.at (cs.take i)) ++ [M.at cs] := by
  unfold Mc.runs
  rw [List.range_succ, List.map_append]
  simp
abbrev s_run_of : Stmt := top 29
abbrev nm_run_of : List Str := ["machine", "row", "states", "column"]
abbrev pr_run_of : List Str := ["machine", "row"]
theorem sc_run_of : FnScope nm_run_of pr_run_of (defScope s_run_of) := ⟨rfl, rfl, rfl, by decide +kernel, rfl, by decide +kernel, by decide +kernel⟩
abbrev s_takes : Stmt := top 30
abbrev nm_takes : List Str := ["machine", "row", "states"]
abbrev pr_takes : List Str := ["machine", "row"]
theorem sc_takes : FnScope nm_takes pr_takes (defScope s_takes) := ⟨rfl, rfl, rfl, by decide +kernel, rfl, by decide +kernel, by decide +kernel⟩
abbrev s__law_told : Stmt := top 45
abbrev nm__law_told : List Str := ["value", "told", "error"]
abbrev pr__law_told : List Str := ["value"]
theorem sc__law_told : FnScope nm__law_told pr__law_told (defScope s__law_told) := ⟨rfl, rfl, rfl, by decide +kernel, rfl, by decide +kernel, by decide +kernel⟩
section
variable {P : Program} {w : World} {K : PySem.W.Frag} {mg : Str → Option Value} {base : Heap} {SA BM TG : Addr}
theorem ok_is_machine (X : ExS K mg SA BM TG) (F1 : Df P w K mg base (L2.CX P w) 4 "need_machine" pr_need_machine (spNeedMachine K BM TG)) (D : Dt K mg "is_machine" s_is_machine pr_is_machine) :
    Df P w K mg base CX0 5 "is_machine" pr_is_machine (spIsMachine K) := by
  refine D.ok sc_is_machine (fun vs H Q E h => ?_) (fun f cdv A outer s H vs Q E hr h => ?_)
  · obtain ⟨v, d, rfl, _⟩ := h
    rfl
  · obtain ⟨v, d, rfl, hd, k⟩ := h
    refine ⟨_, (pss_cons (ps_try_only (tb := _) (ts := _) (Wout := _) rfl rfl ⟨rfl, by decide, Or.inl X.say⟩ takes0 (fun W pn xe tk _ => (pss_one (ps_expr (pe_fS (E := WE W) F1 (hr.mono (by decide)) (fun σ => passAt tk σ) (pa_cons (pv 0) pa_nil))))) (fun a oe cls d pn hz hf => (pss_one (ps_ret pe_bl)))) (pss_one (ps_ret pe_bl))), ?_⟩
    walk_at "nf"
    walk_at "sx"
    refine ⟨v, d, rfl, hd, ?_⟩
    cases c : machF d with
    | ok =>
      rw [c] at k
      exact fun H' e => k H' e
    | bad l =>
      rw [c] at k
      exact fun H' d v e _ _ => ⟨true, X.bs, fun _ a ha => k H' e, fun z => by cases z⟩
    | great =>
      rw [c] at k
      exact fun H' d e _ => ⟨true, X.ts, fun _ a ha => k H' e, fun z => by cases z⟩
def spRunOf (K : PySem.W.Frag) : Sp := fun vs H Q _ => ∃ (mv rv : V) (M : Mc) (ns : List Nat), vs = [mv, rv] ∧ Dp K H mv (machD M) ∧ McOk M ∧ Dp K H rv (rowD ns) ∧ ns.length = M.many ∧ (∀ n ∈ ns, n ≤ 10 ^ 60) ∧ ∀ H' u, Same H H' → Dp K H' u (rowD (M.runs (cols ns))) → Q u H'
def spTakes (K : PySem.W.Frag) : Sp := fun vs H Q _ => ∃ (mv rv : V) (M : Mc) (ns : List Nat), vs = [mv, rv] ∧ Dp K H mv (machD M) ∧ McOk M ∧ Dp K H rv (rowD ns) ∧ ns.length = M.many ∧ (∀ n ∈ ns, n ≤ 10 ^ 60) ∧ ∀ H', Same H H' → Q (.bl (M.ends.getD (M.at (cols ns)) false)) H'
theorem isBt_int {i : Int} {lo hi : Int} (h1 : lo ≤ i) (h2 : i ≤ hi) : isBt (.int i) lo hi = true := isBt_ok h1 h2
theorem getD_map {α β : Type} (f : α → β) (l : List α) (i : Nat) (d : α) (e : β) (h : i < l.length) : (l.map f).getD i e = f (l.getD i d) := by simp [h]
theorem machF_ok {M : Mc} (O : McOk M) : machF (machD M) = .ok := by
  have hm : (2 : Nat) ^ M.many ≤ 16 := Nat.pow_le_pow_right (by decide) O.many2
  have o1 := O.many1
  have o2 := O.many2
  have o3 := O.one
  have o4 := O.few
  have row : ∀ q, q < M.steps.length → (M.steps.map rowD).getD q .none = rowD (M.steps.getD q []) := fun q hq => getD_map rowD M.steps q [] .none hq
  have fin : ∀ q, q < M.steps.length → (M.ends.map PyData.bool).getD q .none = .bool (M.ends.getD q false) := fun q hq => getD_map PyData.bool M.ends q false .none (by rw [O.ends]; exact hq)
  have cell : ∀ q c, q < M.steps.length → c < 2 ^ M.many → (itm (rowD (M.steps.getD q []))).getD c .none = .int ((M.go q c : Nat) : Int) := fun q c hq hc => by
    show ((nI (M.steps.getD q [])).map PyData.int).getD c .none = _
    have hl := O.row q hq
    rw [getD_map PyData.int _ c 0 .none (by rw [nI_length, hl]; exact hc)]
    unfold nI
    rw [getD_map (fun (n : Nat) => (n : Int)) _ c 0 0 (by rw [hl]; exact hc)]
    rfl
  unfold machF
  rw [if_pos (show isTn (machD M) 3 = true from rfl)]
  show machF3 (.int M.many) (.tuple (M.steps.map rowD)) (.tuple (M.ends.map PyData.bool)) = _
  unfold machF3
  rw [if_pos (isBt_ok (by omega) (by omega)), if_pos ⟨rfl, fun z => by
    have z2 : M.steps.map rowD = [] := z
    have := congrArg List.length z2
    simp at this
    rw [this] at o3
    simp at o3⟩]
  have hl : (itm (.tuple (M.steps.map rowD))).length = M.steps.length := List.length_map ..
  rw [hl, if_neg (by omega), if_pos (by simp [isTn, O.ends])]
  have h1 : overFl M.steps.length (stF (iOf (.int M.many)).toNat (itm (.tuple (M.steps.map rowD))) (itm (.tuple (M.ends.map PyData.bool)))) = .ok := overFl_ok fun q hq => by
    show stF ((M.many : Nat) : Int).toNat (M.steps.map rowD) (M.ends.map PyData.bool) q = .ok
    rw [Int.toNat_natCast]
    unfold stF
    rw [row q hq, fin q hq, if_pos (by rw [show isTn (rowD (M.steps.getD q [])) ((2 ^ M.many : Nat) : Int) = decide ((((nI (M.steps.getD q [])).map PyData.int).length : Int) = ((2 ^ M.many : Nat) : Int)) from rfl, List.length_map, nI_length, O.row q hq]; simp)]
    rw [overFl_ok fun c hc => by
      unfold colF
      rw [cell q c hq hc, if_pos (isBt_ok (by omega) (by have := O.cell q c hq hc; rw [List.length_map]; omega))]]
    rfl
  have h2 : overFl M.steps.length (endF (itm (.tuple (M.steps.map rowD))) (itm (.tuple (M.ends.map PyData.bool)))) = .ok := overFl_ok fun q hq => by
    show endF (M.steps.map rowD) (M.ends.map PyData.bool) q = .ok
    unfold endF
    rw [row q hq, cell q 0 hq (Nat.two_pow_pos _)]
    show (if boOf ((M.ends.map PyData.bool).getD ((M.go q 0 : Nat) : Int).toNat .none) = _ then Fl.ok else _) = _
    rw [Int.toNat_natCast, fin _ (O.cell q 0 hq (Nat.two_pow_pos _)), fin q hq]
    exact if_pos (O.settled q hq)
  rw [h1, h2]
  rfl
structure McV (K : PySem.W.Frag) (H : Hp) (M : Mc) (a b e : Addr) (xs : List V) : Prop where
  top : SqT K H a [.int M.many, .ref b, .ref e]
  steps : SqT K H b xs
  ends : SqT K H e (M.ends.map V.bl)
  row : ∀ q, q < M.steps.length → ∃ r, atI xs (q : Int) = some (.ref r) ∧ SqT K H r ((nI (M.steps.getD q [])).map V.int)
  rows : DpAll K H xs (M.steps.map rowD)
theorem ends_inv {H : Hp} : ∀ {bs : List Bool} {vs : List V}, DpAll K H vs (bs.map PyData.bool) → vs = bs.map V.bl
  | [], _, h => by cases h; rfl
  | b :: bs, _, h => by
    cases h with
    | cons h1 h2 =>
      cases h1
      rw [ends_inv h2]
      rfl
theorem mach_v {H : Hp} {mv : V} {M : Mc} (h : Dp K H mv (machD M)) : ∃ a b e xs, mv = .ref a ∧ McV K H M a b e xs := by
  obtain ⟨a, xs, rfl, hq, ha⟩ := h.tup_inv
  cases ha with
  | @cons v0 _ _ _ g0 ha =>
  cases ha with
  | @cons v1 _ _ _ g1 ha =>
  cases ha with
  | @cons v2 _ _ _ g2 ha =>
  cases ha
  obtain rfl := g0.int_inv
  obtain ⟨b, xs, rfl, hq1, ha1⟩ := g1.tup_inv
  obtain ⟨e, ys, rfl, hq2, ha2⟩ := g2.tup_inv
  rw [ends_inv ha2] at hq2
  refine ⟨a, b, e, xs, rfl, hq, hq1, hq2, fun q hq => ?_, ha1⟩
  obtain ⟨r, h1, h2, h3⟩ := ha1.at_ (i := q) (by rw [List.length_map]; exact hq)
  rw [getD_map rowD M.steps q [] .none hq] at h3
  obtain ⟨r, rfl, h4⟩ := h3.ints_tup
  exact ⟨r, h2, h4⟩
theorem go_at {M : Mc} (O : McOk M) {q c : Nat} (hq : q < M.steps.length) (hc : c < 2 ^ M.many) : atI ((nI (M.steps.getD q [])).map V.int) (c : Int) = some (.int ((M.go q c : Nat) : Int)) := by
  have hl := O.row q hq
  refine atI_nat ?_
  unfold Mc.go
  generalize M.steps.getD q [] = l at hl ⊢
  have h : c < l.length := by omega
  simp [nI, h]
theorem hL'_eq {H : Hp} {a : Addr} {x y : List V} (h1 : H a = some (.lst x)) (h2 : H a = some (.lst y)) : x = y := by
  rw [h1] at h2
  cases h2
  rfl
theorem ok_run_of (B : Bl mg) (F1 : Df P w K mg base (L2.CX P w) 4 "need_machine" pr_need_machine (spNeedMachine K BM TG)) (F2 : Df P w K mg base CX0 4 "is_row" pr_is_row (spIsRow K)) (F3 : Df P w K mg base CX0 2 "columns_in" pr_columns_in (spColumnsIn K))
    (D : Dt K mg "run_of" s_run_of pr_run_of) : Df P w K mg base CX0 5 "run_of" pr_run_of (spRunOf K) := by
  refine D.ok sc_run_of (fun vs H Q E h => ?_) (fun f cdv A outer s H vs Q E hr h => ?_)
  · obtain ⟨mv, rv, M, ns, rfl, _⟩ := h
    rfl
  · obtain ⟨mv, rv, M, ns, rfl, hm, O, hd, hl, hz, k⟩ := h
    refine ⟨_, (pss_cons (ps_expr (pe_fS (E := fun _ => E0) F1 (hr.mono (by decide)) (fun σ => passAt takes0 σ) (pa_cons (pv 0) pa_nil))) (pss_cons (ps_if (pt_not (pt_val (pe_f F2 (hr.mono (by decide)) pass0 (pa_cons (pv 1) (pa_cons (pe_ix ix_tup (pv 0) pe_int (fun _ _ => rfl)) pa_nil))))) (pss_one (ps_never)) pss_nil) (pss_cons (ps_set (i := 2) sc_run_of.nd rfl (Or.inl rfl) (pe_lst (pa_cons pe_int pa_nil))) (pss_cons (ps_for PassesOwn.never rfl (pi_list (pe_f F3 (hr.mono (by decide)) pass0 (pa_cons (pv 1) pa_nil))) (pg_name (i := 3) sc_run_of.nd rfl (Or.inl rfl)) (pss_one (ps_expr (pe_bm PySem.F.plainAttrs_list PySem.F.slot_list_append PySem.F.type_list_append mt_append (pv 2) (pa_cons (pe_ix ix_tup (pe_ix ix_tup (pe_ix ix_tup (pv 0) pe_int (fun _ _ => rfl)) (pe_ix ix_list (pv 2) (pe_un un_neg pe_int) (fun _ _ => rfl)) (fun _ _ => rfl)) (pv 3) (fun _ _ => rfl)) pa_nil))))) (pss_one (ps_ret (pe_callTy call_tuple_of (by rfl) B.tuple PyProof.Rows.boot_tuple (pa_cons (pv 2) pa_nil)))))))), ?_⟩
    walk_at "nf"
    walk_at "sx"
    obtain ⟨a, b, eA, xs, rfl, mv⟩ := mach_v hm
    have o1 := O.many1
    have o2 := O.many2
    have hnb := big_bits hz
    refine ⟨_, machD M, rfl, hm, ?_⟩
    rw [machF_ok O]
    intro H1 e1
    refine ⟨a, rfl, _, e1.seqT mv.top, _, rfl, rv, rowD ns, _, rfl, hd.to e1, by omega, fun H2 e2 => ⟨_, rfl, ?_⟩⟩
    rw [← hl, isTn_row, areB_row fun n hn => by have := hz n hn; exact_mod_cast this]
    refine iteF ⟨by decide, fun L hL => ?_⟩
    try walk_at "nf"
    try walk_at "sx"
    have e3 : Same H H2 := e1.trans e2
    have nL : H L = none := e3.free hL
    refine ⟨rv, rfl, rv, ns, rfl, hd.to (e3.then_new hL), by omega, by omega, fun H3 p e4 hp hC => ⟨p, rfl, ⟨_, .of hC⟩, ?_⟩⟩
    have e5 : Same H H3 := (e3.then_new hL).trans e4
    have npL : p ≠ L := fun z => by rw [z, upd_same] at hp; cases hp
    have hCl : (cols ns).length ≤ 200 := by
      rw [show (cols ns).length = nbits ns from by simp [cols]]
      exact hnb
    generalize eC : cols ns = C at *
    have hC2 : ∀ c ∈ C, c < 2 ^ M.many := fun c hc => by
      rw [← eC] at hc
      obtain ⟨i, _, rfl⟩ := List.mem_map.mp hc
      rw [← hl]
      exact colAt_lt ns i
    refine for_list (K := K) (a := p) (xs := (nI C).map V.int) (fun i σ H' => ∃ v3, σ = [some (.ref a), some rv, some (.ref L), v3] ∧ Same H H' ∧ H' p = some (.lst ((nI C).map V.int)) ∧ H' L = some (.lst ((nI ((List.range (i + 1)).map fun j => M.at (C.take j))).map V.int)))
      ⟨_, rfl, e5, hC, e4 _ _ upd_same⟩ (fun i σ H' _ ⟨_, _, _, h, _⟩ => .of h) ?_ ?_
    · rintro i x σ H' hx ⟨v3, rfl, e, hC', hL'⟩
      have hi : i < C.length := by
        have := (List.getElem?_eq_some_iff.mp hx).1
        rwa [List.length_map, nI_length] at this
      obtain rfl : x = V.int ((C.getD i 0 : Nat) : Int) := by
        simp [nI, hi] at hx
        rw [← hx]
        simp [hi]
      try walk_at "nf"
      try walk_at "sx"
      have qlt : M.at (C.take i) < M.steps.length := Mc.at_lt O fun c hc => hC2 c (List.mem_of_mem_take hc)
      obtain ⟨r, hr1, hr2⟩ := mv.row _ qlt
      have clt : C.getD i 0 < 2 ^ M.many := hC2 _ (by simp [hi])
      have hL2 : H' L = some (.lst ((nI ((List.range i).map fun j => M.at (C.take j))).map V.int ++ [.int ((M.at (C.take i) : Nat) : Int)])) := by
        rw [hL', List.range_succ, List.map_append]
        simp [nI]
      refine ⟨.inl ⟨_, .of hL'⟩, _, e.seqT mv.top, _, rfl, _, .of hL2, _, atI_last _ _, b, rfl, xs, _, rfl, e.seqT mv.steps, _, hr1, r, rfl, _, e.seqT hr2, _, go_at O qlt clt, _, hL2, ?_, e.mut nL, ?_, ?_⟩
      · simp [nI]
        exact Nat.lt_of_lt_of_le (by omega : i + 1 < 100000) (by decide)
      · rw [upd_ne npL]
        exact hC'
      · rw [upd_same, ← hL'_eq hL' hL2, ← Mc.at_take hi, List.range_succ (n := i + 1)]
        simp [nI]
    · rintro σ H' ⟨v3, rfl, e, hC', hL'⟩
      try walk_at "nf"
      try walk_at "sx"
      refine ⟨_, .inl ⟨.of hL', fun t ht => k _ _ (e.then_new ht) ?_⟩⟩
      rw [List.length_map, nI_length]
      exact Dp.tup_ints (.of upd_same)
end
end Ws
/-! ## K14g -/
namespace Ws
open PySem PySem.Spec PyProof.Rows L2
local macro_rules | `(tactic| walk_at "nf") => `(tactic| dsimp only [tNext, tSeq, tDrop, tRet, tRetN, tIfS, tAsg, gName, gTup, gCons, gNil, tVar, tC, tOp, tUn, rI, rI0, rU, rEq, rNe, tTest, tChain, tAnd, tOr, tNot, tAndV, tOrV, tNotV, tIf, tCB, tCKw, tCons, tNil, tTup, tLst, tCa, tCallS, tB, rIxT, rIxL, rIxS, cxOf, Cx.nox, Cx.wish, Cx.blk, L2.start, tPar, tPar3, tNever, tYes, tBits, tRz, tBM, rAppend, tyV, tXf, suiteEnds, gSub, rSetL, tBreak, rMax, tDGet, sDPut, tSl, tNoPart, tPart, tDisp, tPairs])
local macro_rules | `(tactic| walk_at "sx") => `(tactic| simp only [wipe, List.cons.injEq, and_assoc, exists_and_left, and_true, List.map_cons, List.map_nil, List.length_cons, List.length_nil, List.cons_append, List.nil_append, List.append_nil, Nat.reduceAdd, Nat.reduceSub, List.replicate, List.getElem?_cons_zero, List.getElem?_cons_succ, List.set_cons_zero, List.set_cons_succ, Option.some.injEq, V.int.injEq, V.bl.injEq, V.ref.injEq, V.str.injEq, exists_eq_left', exists_eq_left, true_and, Bool.true_eq_false, Bool.false_eq_true, if_true, if_false])

def dueD (d : PyData) : Fl → PyData
  | .ok => .tuple [.str "is", d]
  | .bad l => .tuple [.str "bad", .tuple (l.map PyData.int)]
  | .great => .tuple [.str "great", .int 600]
def spTold (K : PySem.W.Frag) : Sp := fun vs H Q _ => ∃ (v : V) (d : PyData), vs = [v] ∧ Dp K H v d ∧ ∀ H' u, Same H H' → Dp K H' u (dueD d (machF d)) → Q u H'
section
variable {P : Program} {w : World} {K : PySem.W.Frag} {mg : Str → Option Value} {base : Heap} {SA BM TG : Addr}
theorem ok_takes (F1 : Df P w K mg base CX0 5 "run_of" pr_run_of (spRunOf K)) (D : Dt K mg "takes" s_takes pr_takes) : Df P w K mg base CX0 6 "takes" pr_takes (spTakes K) := by
  refine D.ok sc_takes (fun vs H Q E h => ?_) (fun f cdv A outer s H vs Q E hr h => ?_)
  · obtain ⟨mv, rv, M, ns, rfl, _⟩ := h
    rfl
  · obtain ⟨mv, rv, M, ns, rfl, hm, O, hd, hl, hz, k⟩ := h
    refine ⟨_, (pss_cons (ps_set (i := 2) sc_takes.nd rfl (Or.inl rfl) (pe_f F1 (hr.mono (by decide)) pass0 (pa_cons (pv 0) (pa_cons (pv 1) pa_nil)))) (pss_one (ps_ret (pe_ix ix_tup (pe_ix ix_tup (pv 0) pe_int (fun _ _ => rfl)) (pe_ix ix_tup (pv 2) (pe_un un_neg pe_int) (fun _ _ => rfl)) (fun _ _ => rfl))))), ?_⟩
    walk_at "nf"
    walk_at "sx"
    refine ⟨mv, rv, M, ns, rfl, hm, O, hd, hl, hz, fun H1 u e1 hu => ?_⟩
    obtain ⟨a, b, eA, xs, rfl, mv⟩ := mach_v (hm.to e1)
    obtain ⟨p, rfl, hp⟩ := hu.ints_tup
    rw [runs_last] at hp
    have hC2 : ∀ c ∈ cols ns, c < 2 ^ M.many := fun c hc => by
      obtain ⟨i, _, rfl⟩ := List.mem_map.mp hc
      rw [← hl]
      exact colAt_lt ns i
    have qlt := Mc.at_lt O hC2
    have hp2 : SqT K H1 p ((nI ((List.range (cols ns).length).map fun i => M.at ((cols ns).take i))).map V.int ++ [V.int ((M.at (cols ns) : Nat) : Int)]) := by
      rw [show (nI ((List.range (cols ns).length).map fun i => M.at ((cols ns).take i))).map V.int ++ [V.int ((M.at (cols ns) : Nat) : Int)] = (nI (((List.range (cols ns).length).map fun i => M.at ((cols ns).take i)) ++ [M.at (cols ns)])).map V.int from by simp [nI]]
      exact hp
    try walk_at "nf"
    try walk_at "sx"
    refine ⟨_, mv.top, _, rfl, _, hp2, _, atI_last _ _, eA, rfl, _, _, rfl, mv.ends, V.bl (M.ends.getD (M.at (cols ns)) false), atI_nat ?_, k H1 e1⟩
    have h2 : M.at (cols ns) < M.ends.length := by rw [O.ends]; exact qlt
    simp [h2]
theorem ok_told (X : ExS K mg SA BM TG) (T : ErS P w K mg base BM TG) (F1 : Df P w K mg base (L2.CX P w) 4 "need_machine" pr_need_machine (spNeedMachine K BM TG)) (D : Dt K mg "_law_told" s__law_told pr__law_told) :
    Df P w K mg base CX0 5 "_law_told" pr__law_told (spTold K) := by
  refine D.ok sc__law_told (fun vs H Q E h => ?_) (fun f cdv A outer s H vs Q E hr h => ?_)
  · obtain ⟨v, d, rfl, _⟩ := h
    rfl
  · obtain ⟨v, d, rfl, hd, k⟩ := h
    refine ⟨_, (pss_cons (ps_set (i := 1) sc__law_told.nd rfl (Or.inl rfl) pe_non) (pss_cons (ps_try_manyA (i := 2) (tb := _) (Wout := _) rfl rfl sc__law_told.nd rfl rfl takes0 (fun W pn xe tk _ => (pss_one (ps_set (i := 1) sc__law_told.nd rfl (Or.inl rfl) (pe_tup (pa_cons pe_str (pa_cons (pe_fS (E := WE W) F1 (hr.mono (by decide)) (fun σ => passAt tk σ) (pa_cons (pv 0) pa_nil)) pa_nil)))))) (.cons ⟨rfl, by decide, Or.inl T.BadMachine.mgC⟩ (fun a oe cls d pn hz hf => (pss_one (ps_set (i := 1) sc__law_told.nd rfl (Or.inl rfl) (pe_tup (pa_cons pe_str (pa_cons (pe_xf T.BadMachine.xf T.BadMachine.no hz hf (pv 2)) pa_nil)))))) (.cons ⟨rfl, by decide, Or.inl T.TooGreat.mgC⟩ (fun a oe cls d pn hz hf => (pss_one (ps_set (i := 1) sc__law_told.nd rfl (Or.inl rfl) (pe_tup (pa_cons pe_str (pa_cons (pe_xf T.TooGreat.xf T.TooGreat.no hz hf (pv 2)) pa_nil)))))) .nil))) (pss_one (ps_ret (pv 1))))), ?_⟩
    walk_at "nf"
    walk_at "sx"
    refine ⟨v, d, rfl, hd, ?_⟩
    cases c : machF d with
    | ok =>
      rw [c] at k
      exact fun H' e => ⟨by decide, fun p hp => k _ _ (e.then_new hp) (.tup (.of upd_same) (.cons (.str _) (.cons ((hd.to e).to (Same.new hp)) .nil)))⟩
    | bad l =>
      rw [c] at k
      refine fun H' dx y e hdx hy => ⟨true, X.bb, fun _ a ha => ?_, fun z => by cases z⟩
      try walk_at "nf"
      try walk_at "sx"
      exact ⟨_, hdx, y, rfl, by decide, fun p hp => k _ _ (e.then_new hp) (.tup (.of upd_same) (.cons (.str _) (.cons (hy.to (Same.new hp)) .nil)))⟩
    | great =>
      rw [c] at k
      refine fun H' dx e hdx => ⟨false, X.tb, (fun z => by cases z), fun _ => ⟨true, X.tt, fun _ a ha => ?_, fun z => by cases z⟩⟩
      try walk_at "nf"
      try walk_at "sx"
      exact ⟨_, hdx, _, rfl, by decide, fun p hp => k _ _ (e.then_new hp) (.tup (.of upd_same) (.cons (.str _) (.cons (.int _) .nil)))⟩
end
end Ws
/-! ## K14h -/
namespace Ws
open PySem PySem.Spec PyProof.Rows L2
local macro_rules | `(tactic| walk_at "nf") => `(tactic| dsimp only [tNext, tSeq, tDrop, tRet, tRetN, tIfS, tAsg, gName, gTup, gCons, gNil, tVar, tC, tOp, tUn, rI, rI0, rU, rEq, rNe, tTest, tChain, tAnd, tOr, tNot, tAndV, tOrV, tNotV, tIf, tCB, tCKw, tCons, tNil, tTup, tLst, tCa, tCallS, tB, rIxT, rIxL, rIxS, cxOf, Cx.nox, Cx.wish, Cx.blk, L2.start, tPar, tPar3, tNever, tYes, tBits, tRz, tBM, rAppend, tyV, tXf, suiteEnds, gSub, rSetL, tBreak, rMax, tDGet, sDPut, tSl, tNoPart, tPart, tDisp, tPairs])
local macro_rules | `(tactic| walk_at "sx") => `(tactic| simp only [wipe, List.cons.injEq, and_assoc, exists_and_left, and_true, List.map_cons, List.map_nil, List.length_cons, List.length_nil, List.cons_append, List.nil_append, List.append_nil, Nat.reduceAdd, Nat.reduceSub, List.replicate, List.getElem?_cons_zero, List.getElem?_cons_succ, List.set_cons_zero, List.set_cons_succ, Option.some.injEq, V.int.injEq, V.bl.injEq, V.ref.injEq, V.str.injEq, exists_eq_left', exists_eq_left, true_and, Bool.true_eq_false, Bool.false_eq_true, if_true, if_false])

/-- the law's own look at a machine: None, ("bad", place), ("great", 600) -/
def faultD : Fl → PyData
  | .ok => .none
  | .bad l => .tuple [.str "bad", .tuple (l.map PyData.int)]
  | .great => .tuple [.str "great", .int 600]
def spWidth : Sp := fun vs H Q _ => ∃ m : Nat, vs = [.int m] ∧ m ≤ 6 ∧ ∀ H', Same H H' → Q (.int ((2 ^ m : Nat) : Int)) H'
def spFault (K : PySem.W.Frag) : Sp := fun vs H Q _ => ∃ (v : V) (d : PyData), vs = [v] ∧ Dp K H v d ∧ ∀ H' u, Same H H' → Dp K H' u (faultD (machF d)) → Q u H'
abbrev s__law_int : Stmt := top 41
abbrev nm__law_int : List Str := ["value", "least", "most"]
abbrev pr__law_int : List Str := ["value", "least", "most"]
theorem sc__law_int : FnScope nm__law_int pr__law_int (defScope s__law_int) := ⟨rfl, rfl, rfl, by decide +kernel, rfl, by decide +kernel, by decide +kernel⟩
abbrev s__law_width : Stmt := top 35
abbrev nm__law_width : List Str := ["many_so"]
abbrev pr__law_width : List Str := ["many_so"]
theorem sc__law_width : FnScope nm__law_width pr__law_width (defScope s__law_width) := ⟨rfl, rfl, rfl, by decide +kernel, rfl, by decide +kernel, by decide +kernel⟩
abbrev s__law_fault : Stmt := top 42
abbrev nm__law_fault : List Str := ["value", "steps", "ends", "one", "column"]
abbrev pr__law_fault : List Str := ["value"]
theorem sc__law_fault : FnScope nm__law_fault pr__law_fault (defScope s__law_fault) := ⟨rfl, rfl, rfl, by decide +kernel, rfl, by decide +kernel, by decide +kernel⟩
section
variable {P : Program} {w : World} {K : PySem.W.Frag} {mg : Str → Option Value} {base : Heap}
theorem ok_law_int (B : Bl mg) (D : Dt K mg "_law_int" s__law_int pr__law_int) : Df P w K mg base CX0 1 "_law_int" pr__law_int (spIsBetween K) := by
  refine D.ok sc__law_int (fun vs H Q E h => ?_) (fun f cdv A outer s H vs Q E hr h => ?_)
  · obtain ⟨v, d, lo, hi, rfl, _⟩ := h
    rfl
  · obtain ⟨v, d, lo, hi, rfl, hd, k⟩ := h
    refine ⟨_, (pss_one (ps_ret (pe_and (pe_callB call_isi (by rfl) B.isinstance boot_isinstance (pa_cons (pv 0) (pa_cons (pe_bltn (v := .ty "int") (by rfl) B.int PyProof.Rows.boot_int rfl) pa_nil))) (pe_and (pe_not (pe_callB call_isi (by rfl) B.isinstance boot_isinstance (pa_cons (pv 0) (pa_cons (pe_bltn (v := .ty "bool") (by rfl) B.bool PyProof.Rows.boot_bool rfl) pa_nil)))) (pe_one (pe_chain op_le op_le (pv 1) (pv 0) (pv 2))))))), ?_⟩
    walk_at "nf"
    walk_at "sx"
    refine isi_int hd ⟨_, rfl, ?_⟩
    cases hx : isIB d with
    | false =>
      refine iteF ?_
      have e : isBt d lo hi = false := by cases d <;> first | rfl | (simp [isIB, isI, isBo] at hx)
      rw [← e]
      exact k
    | true =>
      refine iteT (isi_bool hd ⟨_, rfl, ?_⟩)
      cases hd with
      | int i =>
        refine iteT ⟨i, rfl, ?_⟩
        by_cases c : lo ≤ i
        · rw [decide_eq_true c]
          refine iteT ⟨i, rfl, ?_⟩
          have e : isBt (.int i) lo hi = decide (i ≤ hi) := by simp [isBt, c]
          rw [← e]
          exact k
        · rw [decide_eq_false c]
          refine iteF ?_
          have e : isBt (.int i) lo hi = false := by simp [isBt, c]
          rw [← e]
          exact k
      | bl b => exact iteF k
      | _ => cases hx
theorem ok_width (D : Dt K mg "_law_width" s__law_width pr__law_width) : Df P w K mg base CX0 1 "_law_width" pr__law_width spWidth := by
  refine D.ok sc__law_width (fun vs H Q E h => ?_) (fun f cdv A outer s H vs Q E hr h => ?_)
  · obtain ⟨m, rfl, _⟩ := h
    rfl
  · obtain ⟨m, rfl, hm, k⟩ := h
    refine ⟨_, (pss_one (ps_ret (pe_ix ix_list (pe_lst (pa_cons pe_int (pa_cons pe_int (pa_cons pe_int (pa_cons pe_int (pa_cons pe_int (pa_cons pe_int (pa_cons pe_int pa_nil)))))))) (pv 0) (fun _ _ => rfl)))), ?_⟩
    walk_at "nf"
    walk_at "sx"
    refine ⟨by decide, fun p hp => ⟨_, .of upd_same, V.int ((2 ^ m : Nat) : Int), ?_, k _ (Same.new hp)⟩⟩
    match m, hm with
    | 0, _ => rfl
    | 1, _ => rfl
    | 2, _ => rfl
    | 3, _ => rfl
    | 4, _ => rfl
    | 5, _ => rfl
    | 6, _ => rfl
theorem fl_bad {l : List Int} {H H1 : Hp} {Q : VK} {p p1 : Addr} (k : ∀ (H' : Hp) (u : V), Same H H' → Dp K H' u (faultD (.bad l)) → Q u H') (e : Same H H1) (hp : H1 p = none) (hp1 : upd H1 p (.tup (l.map V.int)) p1 = none) :
    Q (.ref p1) (upd (upd H1 p (.tup (l.map V.int))) p1 (.tup [V.str "bad", V.ref p])) :=
  k _ _ ((e.then_new hp).then_new hp1) (.tup (.of upd_same) (.cons (.str _) (.cons (Dp.tup_ints (.of (by rw [upd_ne (ne_of_none upd_same hp1), upd_same]))) .nil)))
theorem ok_fault (B : Bl mg) (F1 : Df P w K mg base CX0 1 "_law_int" pr__law_int (spIsBetween K)) (F2 : Df P w K mg base CX0 1 "_law_width" pr__law_width spWidth) (D : Dt K mg "_law_fault" s__law_fault pr__law_fault) :
    Df P w K mg base CX0 2 "_law_fault" pr__law_fault (spFault K) := by
  refine D.ok sc__law_fault (fun vs H Q E h => ?_) (fun f cdv A outer s H vs Q E hr h => ?_)
  · obtain ⟨v, d, rfl, _⟩ := h
    rfl
  · obtain ⟨v, d, rfl, hd, k⟩ := h
    refine ⟨_, (pss_cons (ps_if (PW.pt (pw_or (pt_not (pt_val (pe_callB call_isi (by rfl) B.isinstance boot_isinstance (pa_cons (pv 0) (pa_cons (pe_bltn (v := .ty "tuple") (by rfl) B.tuple PyProof.Rows.boot_tuple rfl) pa_nil))))) (pw_or1 (pt_cmpR op_ne (pe_callB call_len_seq (by rfl) B.len PySem.boot_len (pa_cons (pv 0) pa_nil)) pe_int (nomark _))))) (pss_one (ps_ret (pe_tup (pa_cons pe_str (pa_cons (pe_tup pa_nil) pa_nil))))) pss_nil) (pss_cons (ps_if (pt_not (pt_val (pe_f F1 (hr.mono (by decide)) pass0 (pa_cons (pe_ix ix_tup (pv 0) pe_int (fun _ _ => rfl)) (pa_cons pe_int (pa_cons pe_int pa_nil)))))) (pss_one (ps_ret (pe_tup (pa_cons pe_str (pa_cons (pe_tup (pa_cons pe_int pa_nil)) pa_nil))))) pss_nil) (pss_cons (ps_par (i := 1) (j := 2) (by rfl) sc__law_fault.nd rfl rfl (by decide) rfl rfl (pa_cons (pe_ix ix_tup (pv 0) pe_int (fun _ _ => rfl)) (pa_cons (pe_ix ix_tup (pv 0) pe_int (fun _ _ => rfl)) pa_nil)) (by rfl)) (pss_cons (ps_if (PW.pt (pw_or (pt_not (pt_val (pe_callB call_isi (by rfl) B.isinstance boot_isinstance (pa_cons (pv 1) (pa_cons (pe_bltn (v := .ty "tuple") (by rfl) B.tuple PyProof.Rows.boot_tuple rfl) pa_nil))))) (pw_or1 (pt_cmpR op_eq (pe_callB call_len_seq (by rfl) B.len PySem.boot_len (pa_cons (pv 1) pa_nil)) pe_int (nomark _))))) (pss_one (ps_ret (pe_tup (pa_cons pe_str (pa_cons (pe_tup (pa_cons pe_int pa_nil)) pa_nil))))) pss_nil) (pss_cons (ps_if (pt_cmpR op_gt (pe_callB call_len_seq (by rfl) B.len PySem.boot_len (pa_cons (pv 1) pa_nil)) pe_int (nomark _)) (pss_one (ps_ret (pe_tup (pa_cons pe_str (pa_cons pe_int pa_nil))))) pss_nil) (pss_cons (ps_if (PW.pt (pw_or (pt_not (pt_val (pe_callB call_isi (by rfl) B.isinstance boot_isinstance (pa_cons (pv 2) (pa_cons (pe_bltn (v := .ty "tuple") (by rfl) B.tuple PyProof.Rows.boot_tuple rfl) pa_nil))))) (pw_or1 (pt_cmpR op_ne (pe_callB call_len_seq (by rfl) B.len PySem.boot_len (pa_cons (pv 2) pa_nil)) (pe_callB call_len_seq (by rfl) B.len PySem.boot_len (pa_cons (pv 1) pa_nil)) (nomark _))))) (pss_one (ps_ret (pe_tup (pa_cons pe_str (pa_cons (pe_tup (pa_cons pe_int pa_nil)) pa_nil))))) pss_nil) (pss_cons (ps_for PassesOwn.never rfl (pi_range1 (by rfl) B.range (pa_cons (pe_callB call_len_seq (by rfl) B.len PySem.boot_len (pa_cons (pv 1) pa_nil)) pa_nil)) (pg_name (i := 3) sc__law_fault.nd rfl (Or.inl rfl)) (pss_cons (ps_if (PW.pt (pw_or (pt_not (pt_val (pe_callB call_isi (by rfl) B.isinstance boot_isinstance (pa_cons (pe_ix ix_tup (pv 1) (pv 3) (fun _ _ => rfl)) (pa_cons (pe_bltn (v := .ty "tuple") (by rfl) B.tuple PyProof.Rows.boot_tuple rfl) pa_nil))))) (pw_or1 (pt_cmpR op_ne (pe_callB call_len_seq (by rfl) B.len PySem.boot_len (pa_cons (pe_ix ix_tup (pv 1) (pv 3) (fun _ _ => rfl)) pa_nil)) (pe_f F2 (hr.mono (by decide)) pass0 (pa_cons (pe_ix ix_tup (pv 0) pe_int (fun _ _ => rfl)) pa_nil)) (nomark _))))) (pss_one (ps_ret (pe_tup (pa_cons pe_str (pa_cons (pe_tup (pa_cons pe_int (pa_cons (pv 3) pa_nil))) pa_nil))))) pss_nil) (pss_cons (ps_for PassesOwn.never rfl (pi_range1 (by rfl) B.range (pa_cons (pe_callB call_len_seq (by rfl) B.len PySem.boot_len (pa_cons (pe_ix ix_tup (pv 1) (pv 3) (fun _ _ => rfl)) pa_nil)) pa_nil)) (pg_name (i := 4) sc__law_fault.nd rfl (Or.inl rfl)) (pss_one (ps_if (pt_not (pt_val (pe_f F1 (hr.mono (by decide)) pass0 (pa_cons (pe_ix ix_tup (pe_ix ix_tup (pv 1) (pv 3) (fun _ _ => rfl)) (pv 4) (fun _ _ => rfl)) (pa_cons pe_int (pa_cons (pe_op op_sub (pe_callB call_len_seq (by rfl) B.len PySem.boot_len (pa_cons (pv 1) pa_nil)) pe_int) pa_nil)))))) (pss_one (ps_ret (pe_tup (pa_cons pe_str (pa_cons (pe_tup (pa_cons pe_int (pa_cons (pv 3) (pa_cons (pv 4) pa_nil)))) pa_nil))))) pss_nil))) (pss_one (ps_if (pt_not (pt_val (pe_callB call_isi (by rfl) B.isinstance boot_isinstance (pa_cons (pe_ix ix_tup (pv 2) (pv 3) (fun _ _ => rfl)) (pa_cons (pe_bltn (v := .ty "bool") (by rfl) B.bool PyProof.Rows.boot_bool rfl) pa_nil))))) (pss_one (ps_ret (pe_tup (pa_cons pe_str (pa_cons (pe_tup (pa_cons pe_int (pa_cons (pv 3) pa_nil))) pa_nil))))) pss_nil))))) (pss_cons (ps_for PassesOwn.never rfl (pi_range1 (by rfl) B.range (pa_cons (pe_callB call_len_seq (by rfl) B.len PySem.boot_len (pa_cons (pv 1) pa_nil)) pa_nil)) (pg_name (i := 3) sc__law_fault.nd rfl (Or.inl rfl)) (pss_one (ps_if (pt_cmpR op_ne (pe_ix ix_tup (pv 2) (pe_ix ix_tup (pe_ix ix_tup (pv 1) (pv 3) (fun _ _ => rfl)) pe_int (fun _ _ => rfl)) (fun _ _ => rfl)) (pe_ix ix_tup (pv 2) (pv 3) (fun _ _ => rfl)) (nomark _)) (pss_one (ps_ret (pe_tup (pa_cons pe_str (pa_cons (pe_tup (pa_cons pe_int (pa_cons (pv 3) pa_nil))) pa_nil))))) pss_nil))) (pss_one (ps_ret pe_non)))))))))), ?_⟩
    walk_at "nf"
    walk_at "sx"
    refine isi_tuple hd ⟨_, rfl, ?_⟩
    cases c : isT d with
    | false =>
      have e : machF d = .bad [] := by
        cases d <;> first | rfl | cases c
      rw [e] at k
      exact iteT ⟨by decide, fun p hp => ⟨by decide, fun p1 hp1 => fl_bad (l := []) k (Same.refl _) hp hp1⟩⟩
    | true =>
    obtain ⟨ds, rfl⟩ : ∃ ds, d = .tuple ds := by
      cases d with
      | tuple ds => exact ⟨ds, rfl⟩
      | _ => cases c
    obtain ⟨a, xs, rfl, hq, ha⟩ := hd.tup_inv
    refine iteF ⟨a, rfl, xs, .inr hq, rfl, ?_⟩
    have hl := ha.length
    by_cases c3 : ds.length = 3
    case neg =>
      have e : machF (.tuple ds) = .bad [] := by
        unfold machF
        rw [if_neg]
        simp [isTn]
        omega
      rw [e] at k
      rw [decide_eq_false (by omega)]
      exact iteT ⟨by decide, fun p hp => ⟨by decide, fun p1 hp1 => fl_bad (l := []) k (Same.refl _) hp hp1⟩⟩
    case pos =>
    rw [decide_eq_true (by omega)]
    refine iteF ?_
    obtain ⟨d0, d1, d2, rfl⟩ : ∃ d0 d1 d2, ds = [d0, d1, d2] := by
      match ds, c3 with
      | [a, b, c], _ => exact ⟨a, b, c, rfl⟩
    cases ha with
    | @cons v0 _ _ _ g0 ha =>
    cases ha with
    | @cons v1 _ _ _ g1 ha =>
    cases ha with
    | @cons v2 _ _ _ g2 ha =>
    cases ha
    replace k : ∀ (H' : Hp) (u : V), Same H H' → Dp K H' u (faultD (machF3 d0 d1 d2)) → Q u H' := k
    unfold machF3 at k
    refine ⟨a, rfl, _, hq, v0, rfl, v0, d0, 1, 4, rfl, g0, _, rfl, ?_⟩
    cases c1 : isBt d0 1 4 with
    | false =>
      rw [c1, if_neg Bool.false_ne_true] at k
      exact iteT ⟨by decide, fun p hp => ⟨by decide, fun p1 hp1 => fl_bad (l := [0]) k (Same.refl _) hp hp1⟩⟩
    | true =>
    rw [c1, if_pos rfl] at k
    refine iteF ⟨a, rfl, _, hq, v1, rfl, a, rfl, _, hq, v2, rfl, isi_tuple g1 ⟨_, rfl, ?_⟩⟩
    cases c2 : isT d1 with
    | false =>
      rw [c2, if_neg (fun z => Bool.false_ne_true z.1)] at k
      exact iteT ⟨by decide, fun p hp => ⟨by decide, fun p1 hp1 => fl_bad (l := [1]) k (Same.refl _) hp hp1⟩⟩
    | true =>
    obtain ⟨sd, rfl⟩ : ∃ ds, d1 = .tuple ds := by
      cases d1 with
      | tuple ds => exact ⟨ds, rfl⟩
      | _ => cases c2
    obtain ⟨b, xs, rfl, hq1, ha1⟩ := g1.tup_inv
    have hl1 := ha1.length
    refine iteF ⟨b, rfl, xs, .inr hq1, rfl, ?_⟩
    rw [hl1]
    by_cases c3 : sd.length = 0
    case pos =>
      have e : sd = [] := List.eq_nil_of_length_eq_zero c3
      subst e
      rw [if_neg (fun z => z.2 rfl)] at k
      rw [decide_eq_true (by simp)]
      exact iteT ⟨by decide, fun p hp => ⟨by decide, fun p1 hp1 => fl_bad (l := [1]) k (Same.refl _) hp hp1⟩⟩
    case neg =>
    have hpos : 0 < sd.length := by omega
    rw [decide_eq_false (by omega)]
    rw [if_pos ⟨rfl, fun z => c3 (by rw [show sd = [] from z]; rfl)⟩] at k
    refine iteF ⟨b, rfl, xs, .inr hq1, ?_⟩
    replace k : ∀ (H' : Hp) (u : V), Same H H' → Dp K H' u (faultD (if 600 < sd.length then Fl.great else if isTn d2 (sd.length : Nat) = true then (overFl sd.length (stF (iOf d0).toNat sd (itm d2))).then (overFl sd.length (endF sd (itm d2))) else Fl.bad [2])) → Q u H' := k
    by_cases c4 : 600 < sd.length
    case pos =>
      rw [if_pos c4] at k
      rw [if_pos (by rw [hl1]; simp; omega)]
      exact ⟨by decide, fun p hp => k _ _ (Same.new hp) (.tup (.of upd_same) (.cons (.str _) (.cons (.int _) .nil)))⟩
    case neg =>
    rw [if_neg c4] at k
    rw [if_neg (by rw [hl1]; simp; omega)]
    refine isi_tuple g2 ⟨_, rfl, ?_⟩
    cases c5 : isT d2 with
    | false =>
      rw [if_neg (by cases d2 <;> first | exact Bool.false_ne_true | cases c5)] at k
      exact iteT ⟨by decide, fun p hp => ⟨by decide, fun p1 hp1 => fl_bad (l := [2]) k (Same.refl _) hp hp1⟩⟩
    | true =>
    obtain ⟨ed, rfl⟩ : ∃ ds, d2 = .tuple ds := by
      cases d2 with
      | tuple ds => exact ⟨ds, rfl⟩
      | _ => cases c5
    obtain ⟨b2, ys, rfl, hq2, ha2⟩ := g2.tup_inv
    have hl2 := ha2.length
    refine iteF ⟨b2, rfl, ys, .inr hq2, b, rfl, xs, .inr hq1, rfl, ?_⟩
    rw [hl1, hl2]
    by_cases c6 : ed.length = sd.length
    case neg =>
      rw [if_neg (by simp [isTn]; omega)] at k
      rw [decide_eq_false (by omega)]
      exact iteT ⟨by decide, fun p hp => ⟨by decide, fun p1 hp1 => fl_bad (l := [2]) k (Same.refl _) hp hp1⟩⟩
    case pos =>
    rw [if_pos (by simp [isTn]; omega)] at k
    rw [decide_eq_true (by omega)]
    refine iteF ?_
    obtain ⟨many, rfl, m1, m2⟩ : ∃ many : Nat, d0 = .int many ∧ 1 ≤ many ∧ many ≤ 4 := by
      cases d0 with
      | int i =>
        simp only [isBt, Bool.and_eq_true, decide_eq_true_eq] at c1
        exact ⟨i.toNat, by rw [Int.toNat_of_nonneg (by omega)], by omega, by omega⟩
      | _ => cases c1
    obtain rfl := g0.int_inv
    replace k : ∀ (H' : Hp) (u : V), Same H H' → Dp K H' u (faultD ((overFl sd.length (stF many sd ed)).then (overFl sd.length (endF sd ed)))) → Q u H' := k
    refine ⟨_, rfl, b, rfl, xs, .inr hq1, _, rfl, by omega, by omega, for_it walk_range (fun i σ H' => ∃ v3 v4, σ = [some (.ref a), some (.ref b), some (.ref b2), v3, v4] ∧ Same H H' ∧ ∀ j, j < i → stF many sd ed j = .ok)
      ⟨_, _, rfl, Same.refl _, fun j hj => absurd hj (by omega)⟩ (fun _ _ _ _ _ => trivial) ?_ ?_⟩
    · rintro i x σ H1 H2 hi ⟨v3, v4, rfl, e, hc⟩ ⟨rfl, rfl⟩
      have hi2 : i < sd.length := by omega
      obtain ⟨r, hr1, hr2, hr3⟩ := ha1.at_ hi2
      try walk_at "nf"
      simp only [Int.zero_add]
      walk_at "sx"
      have kbad : ∀ l, stF many sd ed i = .bad l → ∀ (H' : Hp) (u : V), Same H H' → Dp K H' u (faultD (.bad l)) → Q u H' := fun l hl => by
        rw [overFl_at hi2 (by rw [hl]; intro z; cases z) hc, hl] at k
        exact k
      refine ⟨xs, e.seqT hq1, r, hr2, isi_tuple (hr3.to e) ⟨_, rfl, ?_⟩⟩
      cases c7 : isT (sd.getD i .none) with
      | false =>
        have ek : stF many sd ed i = .bad [1, i] := by
          unfold stF
          rw [if_neg]
          cases ex : sd.getD i .none <;> first | exact Bool.false_ne_true | (rw [ex] at c7; cases c7)
        exact iteT ⟨by decide, fun p hp => ⟨by decide, fun p1 hp1 => fl_bad (l := [1, i]) (kbad _ ek) e hp hp1⟩⟩
      | true =>
      obtain ⟨rd, hrd⟩ : ∃ ds, sd.getD i .none = .tuple ds := by
        cases ex : sd.getD i .none with
        | tuple ds => exact ⟨ds, rfl⟩
        | _ => rw [ex] at c7; cases c7
      rw [hrd] at hr3
      obtain ⟨ar, zs, rfl, hq3, ha3⟩ := hr3.tup_inv
      have hl3 := ha3.length
      refine iteF ⟨xs, e.seqT hq1, _, hr2, ar, rfl, zs, .inr (e.seqT hq3), _, e.seqT hq, _, rfl, many, rfl, by omega, fun H3 e3 => ⟨rfl, ?_⟩⟩
      have e4 : Same H H3 := e.trans e3
      rw [hl3]
      by_cases c8 : rd.length = 2 ^ many
      case neg =>
        have ek : stF many sd ed i = .bad [1, i] := by
          unfold stF
          rw [if_neg]
          rw [hrd]
          simp only [isTn, decide_eq_true_eq]
          omega
        rw [decide_eq_false (fun z => c8 (by have := V.int.inj z; exact_mod_cast this))]
        exact iteT ⟨by decide, fun p hp => ⟨by decide, fun p1 hp1 => fl_bad (l := [1, i]) (kbad _ ek) e4 hp hp1⟩⟩
      case pos =>
      have ek : stF many sd ed i = (overFl (2 ^ many) (colF sd.length (.tuple rd) i)).then (if isBo (ed.getD i .none) = true then .ok else .bad [2, i]) := by
        unfold stF
        rw [if_pos]
        · rw [hrd]
        · rw [hrd]
          simp only [isTn, decide_eq_true_eq]
          omega
      rw [c8, decide_eq_true rfl]
      refine iteF ?_
      have hm : (2 : Nat) ^ many ≤ 16 := Nat.pow_le_pow_right (by decide) m2
      refine ⟨_, rfl, _, rfl, b, xs, i, _, rfl, rfl, e4.seqT hq1, hr2, ar, rfl, zs, .inr (e4.seqT hq3), _, rfl, by omega, by omega, for_it walk_range (fun j σ H' => ∃ v4, σ = [some (.ref a), some (.ref b), some (.ref b2), some (.int i), v4] ∧ Same H H' ∧ ∀ c, c < j → colF sd.length (.tuple rd) i c = .ok)
        ⟨_, rfl, e4, fun j hj => absurd hj (by omega)⟩ (fun _ _ _ _ _ => trivial) ?_ ?_⟩
      · rintro j x σ H5 H6 hj ⟨v4, rfl, e5, hcc⟩ ⟨rfl, rfl⟩
        have hj2 : j < 2 ^ many := by omega
        obtain ⟨r2, k1, k2, k3⟩ := ha3.at_ (i := j) (by omega)
        try walk_at "nf"
        simp only [Int.zero_add]
        walk_at "sx"
        refine ⟨xs, e5.seqT hq1, _, hr2, ar, rfl, zs, e5.seqT hq3, r2, k2, xs, .inr (e5.seqT hq1), r2, _, _, _, rfl, k3.to e5, _, rfl, ?_⟩
        rw [hl1]
        cases cb : isBt (rd.getD j .none) 0 ((sd.length : Int) - 1) with
        | true =>
          refine iteF ⟨e5, fun c hcj => ?_⟩
          by_cases hji : c < j
          · exact hcc c hji
          · have : c = j := by omega
            subst this
            show (if isBt (rd.getD c .none) 0 ((sd.length : Int) - 1) = true then Fl.ok else _) = _
            rw [cb, if_pos rfl]
        | false =>
          have ec : colF sd.length (.tuple rd) i j = .bad [1, i, j] := by
            show (if isBt (rd.getD j .none) 0 ((sd.length : Int) - 1) = true then Fl.ok else _) = _
            rw [cb, if_neg Bool.false_ne_true]
          rw [overFl_at hj2 (by rw [ec]; intro z; cases z) hcc, ec] at ek
          exact iteT ⟨by decide, fun p hp => ⟨by decide, fun p1 hp1 => fl_bad (l := [1, i, j]) (kbad _ ek) e5 hp hp1⟩⟩
      · rintro σ H5 ⟨v4, rfl, e5, hcc⟩
        obtain ⟨r2, k1, k2, k3⟩ := ha2.at_ (i := i) (by omega)
        rw [overFl_ok fun c hc => hcc c (by omega)] at ek
        replace ek : stF many sd ed i = if isBo (ed.getD i .none) = true then .ok else .bad [2, i] := ek
        try walk_at "nf"
        walk_at "sx"
        refine ⟨ys, e5.seqT hq2, r2, k2, isi_bool (k3.to e5) ⟨_, rfl, ?_⟩⟩
        cases cb : isBo (ed.getD i .none) with
        | false =>
          rw [cb, if_neg Bool.false_ne_true] at ek
          exact iteT ⟨by decide, fun p hp => ⟨by decide, fun p1 hp1 => fl_bad (l := [2, i]) (kbad _ ek) e5 hp hp1⟩⟩
        | true =>
          rw [cb, if_pos rfl] at ek
          refine iteF ⟨e5, fun j hj => ?_⟩
          by_cases hji : j < i
          · exact hc j hji
          · have : j = i := by omega
            subst this
            exact ek
    · rintro σ H1 ⟨v3, v4, rfl, e, hc⟩
      have okS : ∀ j, j < sd.length → stF many sd ed j = .ok := fun j hj => hc j (by omega)
      rw [overFl_ok okS] at k
      replace k : ∀ (H' : Hp) (u : V), Same H H' → Dp K H' u (faultD (overFl sd.length (endF sd ed))) → Q u H' := k
      try walk_at "nf"
      refine ⟨_, rfl, b, rfl, xs, .inr (e.seqT hq1), _, rfl, by omega, by omega, for_it walk_range (fun i σ H' => ∃ v3 v4, σ = [some (.ref a), some (.ref b), some (.ref b2), v3, v4] ∧ Same H H' ∧ ∀ j, j < i → endF sd ed j = .ok)
        ⟨_, _, rfl, e, fun j hj => absurd hj (by omega)⟩ (fun _ _ _ _ _ => trivial) ?_ ?_⟩
      · rintro i x σ H1 H2 hi ⟨v3, v4, rfl, e, hc⟩ ⟨rfl, rfl⟩
        have hi2 : i < sd.length := by omega
        obtain ⟨r, hr1, hr2, hr3⟩ := ha1.at_ hi2
        obtain ⟨rd, so⟩ := stF_ok' (okS i hi2) hpos
        obtain ⟨t, ht1, ht2⟩ := so.cell 0 (Nat.two_pow_pos many)
        obtain ⟨rd2, so2⟩ := stF_ok' (okS t ht2) hpos
        obtain ⟨bi, hbi⟩ := so.fin
        obtain ⟨bt, hbt⟩ := so2.fin
        rw [so.row] at hr3
        obtain ⟨ar, zs, rfl, hq3, ha3⟩ := hr3.tup_inv
        obtain ⟨w0, k1, k2, k3⟩ := ha3.at_ (i := 0) (by rw [so.len]; exact Nat.two_pow_pos many)
        rw [ht1] at k3
        obtain rfl := k3.int_inv
        obtain ⟨wt, j1, j2, j3⟩ := ha2.at_ (i := t) (by omega)
        rw [hbt] at j3
        obtain rfl := j3.bl_inv
        obtain ⟨wi, l1, l2, l3⟩ := ha2.at_ (i := i) (by omega)
        rw [hbi] at l3
        obtain rfl := l3.bl_inv
        have ec : endF sd ed i = if bt = bi then .ok else .bad [2, i] := by
          show (if boOf (ed.getD (iOf ((itm (sd.getD i .none)).getD 0 .none)).toNat .none) = boOf (ed.getD i .none) then Fl.ok else _) = _
          rw [so.row]
          show (if boOf (ed.getD (iOf (rd.getD 0 .none)).toNat .none) = boOf (ed.getD i .none) then Fl.ok else _) = _
          rw [ht1]
          show (if boOf (ed.getD ((t : Nat) : Int).toNat .none) = boOf (ed.getD i .none) then Fl.ok else _) = _
          rw [Int.toNat_natCast, hbt, hbi]
          rfl
        try walk_at "nf"
        simp only [Int.zero_add]
        walk_at "sx"
        refine ⟨xs, e.seqT hq1, _, hr2, ar, rfl, zs, e.seqT hq3, _, k2, ys, t, rfl, e.seqT hq2, _, j2, ys, e.seqT hq2, _, l2, rfl, ?_⟩
        by_cases cb : bt = bi
        · subst cb
          rw [if_pos rfl] at ec
          rw [decide_eq_true rfl]
          exact iteF ⟨e, fun j hj => by
            by_cases hji : j < i
            · exact hc j hji
            · have : j = i := by omega
              subst this
              exact ec⟩
        · rw [if_neg cb] at ec
          rw [decide_eq_false (fun z => cb (V.bl.inj z))]
          rw [overFl_at hi2 (by rw [ec]; intro z; cases z) hc, ec] at k
          exact iteT ⟨by decide, fun p hp => ⟨by decide, fun p1 hp1 => fl_bad (l := [2, i]) k e hp hp1⟩⟩
      · rintro σ H1 ⟨v3, v4, rfl, e, hc⟩
        rw [overFl_ok fun j hj => hc j (by omega)] at k
        try walk_at "nf"
        exact k _ _ e .non
end
end Ws
/-! ## K14i -/
namespace Ws
open PySem PySem.Spec PyProof.Rows L2
local macro_rules | `(tactic| walk_at "nf") => `(tactic| dsimp only [tNext, tSeq, tDrop, tRet, tRetN, tIfS, tAsg, gName, gTup, gCons, gNil, tVar, tC, tOp, tUn, rI, rI0, rU, rEq, rNe, tTest, tChain, tAnd, tOr, tNot, tAndV, tOrV, tNotV, tIf, tCB, tCKw, tCons, tNil, tTup, tLst, tCa, tCallS, tB, rIxT, rIxL, rIxS, cxOf, Cx.nox, Cx.wish, Cx.blk, L2.start, tPar, tPar3, tNever, tYes, tBits, tRz, tBM, rAppend, tyV, tXf, suiteEnds, gSub, rSetL, tBreak, rMax, tDGet, sDPut, tSl, tNoPart, tPart, tDisp, tPairs])
local macro_rules | `(tactic| walk_at "sx") => `(tactic| simp only [wipe, List.cons.injEq, and_assoc, exists_and_left, and_true, List.map_cons, List.map_nil, List.length_cons, List.length_nil, List.cons_append, List.nil_append, List.append_nil, Nat.reduceAdd, Nat.reduceSub, List.replicate, List.getElem?_cons_zero, List.getElem?_cons_succ, List.set_cons_zero, List.set_cons_succ, Option.some.injEq, V.int.injEq, V.bl.injEq, V.ref.injEq, V.str.injEq, exists_eq_left', exists_eq_left, true_and, Bool.true_eq_false, Bool.false_eq_true, if_true, if_false])

def spLawColumns (K : PySem.W.Frag) : Sp := fun vs H Q _ => ∃ (v : V) (ns : List Nat), vs = [v] ∧ Dp K H v (rowD ns) ∧ 1 ≤ ns.length ∧ ns.length ≤ 4 ∧ nbits ns ≤ 200 ∧ ∀ H' p, Same H H' → H p = none → H' p = some (.lst ((nI (cols ns)).map V.int)) → Q (.ref p) H'
def spLed (K : PySem.W.Frag) : Sp := fun vs H Q _ => ∃ (mv rv : V) (M : Mc) (ns : List Nat), vs = [mv, rv] ∧ Dp K H mv (machD M) ∧ McOk M ∧ Dp K H rv (rowD ns) ∧ ns.length = M.many ∧ nbits ns ≤ 200 ∧ ∀ H' u, Same H H' → Dp K H' u (rowD (M.runs (cols ns))) → Q u H'
abbrev s__law_columns : Stmt := top 38
abbrev nm__law_columns : List Str := ["row", "left", "found", "step", "column", "weight", "place"]
abbrev pr__law_columns : List Str := ["row"]
theorem sc__law_columns : FnScope nm__law_columns pr__law_columns (defScope s__law_columns) := ⟨rfl, rfl, rfl, by decide +kernel, rfl, by decide +kernel, by decide +kernel⟩
abbrev s__law_led : Stmt := top 39
abbrev nm__law_led : List Str := ["machine", "row", "found", "column"]
abbrev pr__law_led : List Str := ["machine", "row"]
theorem sc__law_led : FnScope nm__law_led pr__law_led (defScope s__law_led) := ⟨rfl, rfl, rfl, by decide +kernel, rfl, by decide +kernel, by decide +kernel⟩
/-- the numbers, the first j of them halved once more -/
def mix (ns : List Nat) (k j : Nat) : List Nat := (List.range ns.length).map fun i => ns.getD i 0 / 2 ^ (if i < j then k + 1 else k)
theorem mix_length (ns : List Nat) (k j : Nat) : (mix ns k j).length = ns.length := by simp [mix]
theorem mix_start (ns : List Nat) : mix ns 0 0 = ns := by
  refine List.ext_getElem (by simp [mix]) fun i h1 h2 => ?_
  simp [mix, h2]
theorem mix_end (ns : List Nat) (k : Nat) : mix ns k ns.length = mix ns (k + 1) 0 := by
  refine List.ext_getElem (by simp [mix]) fun i h1 h2 => ?_
  have : i < ns.length := by simpa [mix] using h1
  simp [mix, this]
theorem mix_set {ns : List Nat} {k j : Nat} (h : j < ns.length) : (mix ns k j).set j (ns.getD j 0 / 2 ^ k / 2) = mix ns k (j + 1) := by
  refine List.ext_getElem (by simp [mix]) fun i h1 h2 => ?_
  have hi : i < ns.length := by simpa [mix] using h2
  rw [List.getElem_set]
  by_cases e : j = i
  · subst e
    rw [if_pos rfl]
    simp only [mix, List.getElem_map, List.getElem_range]
    rw [if_pos (by omega), Nat.pow_succ, Nat.div_div_eq_div_mul]
  · rw [if_neg e]
    simp only [mix, List.getElem_map, List.getElem_range]
    by_cases c : i < j
    · rw [if_pos c, if_pos (by omega)]
    · rw [if_neg c, if_neg (by omega)]
theorem mix_zero {ns : List Nat} {k : Nat} (h : ∀ y ∈ nI (mix ns k 0), y ≤ (0 : Int)) : nbits ns ≤ k := by
  rw [nbits_le]
  intro n hn
  obtain ⟨i, hi, rfl⟩ := List.mem_iff_getElem.mp hn
  have := h ((ns.getD i 0 / 2 ^ k : Nat) : Int) (by
    unfold nI mix
    rw [List.map_map]
    refine List.mem_map.mpr ⟨i, List.mem_range.mpr hi, ?_⟩
    simp)
  have h2 : ns.getD i 0 / 2 ^ k = 0 := Nat.le_zero.mp (by exact_mod_cast this)
  simpa [hi] using h2
theorem mix_pos {ns : List Nat} {k : Nat} {m : Int} (h : m ∈ nI (mix ns k 0)) (hm : m ≠ 0) : k < nbits ns := by
  refine Nat.lt_of_not_le fun hle => hm ?_
  rw [nbits_le] at hle
  unfold nI mix at h
  rw [List.map_map] at h
  obtain ⟨i, hi, rfl⟩ := List.mem_map.mp h
  rw [List.mem_range] at hi
  have := hle ns[i] (List.getElem_mem hi)
  simp [hi, this]
section
variable {P : Program} {w : World} {K : PySem.W.Frag} {mg : Str → Option Value} {base : Heap}
theorem ok_law_columns (B : Bl mg) (D : Dt K mg "_law_columns" s__law_columns pr__law_columns) : Df P w K mg base CX0 1 "_law_columns" pr__law_columns (spLawColumns K) := by
  refine D.ok sc__law_columns (fun vs H Q E h => ?_) (fun f cdv A outer s H vs Q E hr h => ?_)
  · obtain ⟨v, ns, rfl, _⟩ := h
    rfl
  · obtain ⟨v, ns, rfl, hd, h1, h2, hz, k⟩ := h
    refine ⟨_, (pss_cons (ps_par (i := 1) (j := 2) (by rfl) sc__law_columns.nd rfl rfl (by decide) rfl rfl (pa_cons (pe_callTy call_list_of (by rfl) B.list PyProof.Rows.boot_list (pa_cons (pv 0) pa_nil)) (pa_cons (pe_lst pa_nil) pa_nil)) (by rfl)) (pss_cons (ps_for PassesOwn.never rfl (pi_range1 (by rfl) B.range (pa_cons pe_int pa_nil)) (pg_name (i := 3) sc__law_columns.nd rfl (Or.inl rfl)) (pss_cons (ps_if (pt_cmpR op_eq (pe_callB (cr_max rfl) (by rfl) B.max boot_max (pa_cons (pv 1) pa_nil)) pe_int (nomark _)) (pss_one (ps_break)) pss_nil) (pss_cons (ps_asg (pe_tup (pa_cons pe_int (pa_cons pe_int pa_nil))) (pg_tup rfl (pgs_cons (pg_name (i := 4) sc__law_columns.nd rfl (Or.inl rfl)) (pgs_cons (pg_name (i := 5) sc__law_columns.nd rfl (Or.inl rfl)) pgs_nil)))) (pss_cons (ps_for PassesOwn.never rfl (pi_range1 (by rfl) B.range (pa_cons (pe_callB call_len_seq (by rfl) B.len PySem.boot_len (pa_cons (pv 1) pa_nil)) pa_nil)) (pg_name (i := 6) sc__law_columns.nd rfl (Or.inl rfl)) (pss_cons (ps_set (i := 4) sc__law_columns.nd rfl (Or.inl rfl) (pe_op op_add (pv 4) (pe_op op_mul (pe_op op_mod (pe_callTy call_int1 (by rfl) B.int PyProof.Rows.boot_int (pa_cons (pe_ix ix_list (pv 1) (pv 6) (fun _ _ => rfl)) pa_nil)) pe_int) (pv 5)))) (pss_cons (ps_set (i := 5) sc__law_columns.nd rfl (Or.inl rfl) (pe_op op_mul (pv 5) pe_int)) (pss_one (ps_asg (pe_op op_fdiv (pe_ix ix_list (pv 1) (pv 6) (fun _ _ => rfl)) pe_int) (pg_sub (pv 1) (pv 6) set_list)))))) (pss_one (ps_expr (pe_bm PySem.F.plainAttrs_list PySem.F.slot_list_append PySem.F.type_list_append mt_append (pv 2) (pa_cons (pv 4) pa_nil)))))))) (pss_one (ps_ret (pv 2))))), ?_⟩
    walk_at "nf"
    walk_at "sx"
    obtain ⟨a, rfl, hs⟩ := hd.ints_tup
    refine ⟨a, rfl, _, .inr hs, fun l hl => ⟨by decide, fun p hp => ?_⟩⟩
    have npl : p ≠ l := fun z => by rw [z, upd_same] at hp; cases hp
    have hp0 : H p = none := by rwa [upd_ne npl] at hp
    have e0 : Same H (upd (upd H l (HO.lst ((nI ns).map V.int))) p (HO.lst [])) := (Same.new hl).then_new hp
    refine ⟨_, rfl, by omega, by omega, for_it walk_range (fun k σ H' => ∃ v3 v4 v5 v6, σ = [some (.ref a), some (.ref l), some (.ref p), v3, v4, v5, v6] ∧ Same H H' ∧ H' l = some (.lst ((nI (mix ns k 0)).map V.int)) ∧ H' p = some (.lst ((nI ((List.range k).map (colAt ns))).map V.int)) ∧ k ≤ nbits ns)
      ⟨_, _, _, _, rfl, e0, by rw [upd_ne (Ne.symm npl), upd_same, mix_start], upd_same, Nat.zero_le _⟩ (fun _ _ _ _ _ => trivial) ?_ ?_⟩
    · rintro i x σ H1 H2 hi ⟨v3, v4, v5, v6, rfl, e, hl1, hp1, hk⟩ ⟨rfl, rfl⟩
      try walk_at "nf"
      simp only [Int.zero_add]
      walk_at "sx"
      refine ⟨nI (mix ns i 0), .of hl1, by rw [nI_length, mix_length]; omega, fun m m1 m2 => ⟨rfl, ?_⟩⟩
      by_cases c : m = 0
      · subst c
        have hle : nbits ns ≤ i := mix_zero m2
        have e1 : i = nbits ns := by omega
        subst e1
        rw [decide_eq_true rfl]
        exact iteT (k _ _ e hp0 hp1)
      · have hlt : i < nbits ns := mix_pos m1 c
        rw [decide_eq_false c]
        refine iteF ⟨by decide, fun T hT => ⟨_, .of upd_same, rfl, _, _, rfl, _, _, rfl, rfl, ?_⟩⟩
        have hl2 : upd H2 T (HO.tup [V.int 0, V.int 1]) l = some (.lst ((nI (mix ns i 0)).map V.int)) := by rw [upd_ne (ne_of_none hl1 hT)]; exact hl1
        have hp2 : upd H2 T (HO.tup [V.int 0, V.int 1]) p = some (.lst ((nI ((List.range i).map (colAt ns))).map V.int)) := by rw [upd_ne (ne_of_none hp1 hT)]; exact hp1
        have hn : ((nI (mix ns i 0)).map V.int).length = ns.length := by rw [List.length_map, nI_length, mix_length]
        refine ⟨_, rfl, l, rfl, _, .inl (.of hl2), _, rfl, by omega, by omega, for_it walk_range (fun j σ H' => ∃ v6, σ = [some (.ref a), some (.ref l), some (.ref p), some (.int i), some (.int ((((List.range j).map fun x => dig (ns.getD x 0) i * 2 ^ x).sum : Nat) : Int)), some (.int ((2 ^ j : Nat) : Int)), v6] ∧ Same H H' ∧
            H' l = some (.lst ((nI (mix ns i j)).map V.int)) ∧ H' p = some (.lst ((nI ((List.range i).map (colAt ns))).map V.int)))
          ⟨_, rfl, e.then_new hT, hl2, hp2⟩ (fun _ _ _ _ _ => trivial) ?_ ?_⟩
        · rintro j x σ H3 H4 hj ⟨v6, rfl, e3, hl3, hp3⟩ ⟨rfl, rfl⟩
          have hj2 : j < ns.length := by rw [hn] at hj; simpa using hj
          have hat : atI ((nI (mix ns i j)).map V.int) (j : Int) = some (V.int ((ns.getD j 0 / 2 ^ i : Nat) : Int)) := atI_nat (by
            simp [nI, mix, hj2])
          have hix : ixN ((nI (mix ns i j)).map V.int).length (j : Int) = some j := by
            unfold ixN
            rw [if_pos (by omega), List.length_map, nI_length, mix_length, if_pos (by omega)]
            simp
          try walk_at "nf"
          simp only [Int.zero_add]
          walk_at "sx"
          have hp16 : (2 : Nat) ^ j ≤ 16 := Nat.pow_le_pow_right (by decide) (by omega : j ≤ 4)
          have hpi : ((2 ^ j : Nat) : Int) ≤ 16 := by exact_mod_cast hp16
          refine ⟨_, .of hl3, _, hat, .inl ⟨_, rfl, by decide, .inr ⟨Int.lt_of_lt_of_le (by decide) (Int.natCast_nonneg _), Int.lt_of_le_of_lt hpi (by decide)⟩, .inr ⟨by decide, by decide⟩, _, .of hl3, _, hat, _, rfl, ⟨by decide, by decide⟩, _, hl3, j, hix, ?_, ?_, e3.mut hl, ?_, ?_⟩⟩
          · rw [List.range_succ, List.map_append, List.sum_append]
            simp only [List.map_cons, List.map_nil, List.sum_cons, List.sum_nil, dig]
            push_cast
            omega
          · rw [Nat.pow_succ]
            push_cast
            rfl
          · rw [upd_same, ← mix_set hj2]
            simp [nI, List.map_set]
          · rw [upd_ne npl]
            exact hp3
        · rintro σ H3 ⟨v6, rfl, e3, hl3, hp3⟩
          simp only [Int.toNat_natCast] at hl3
          rw [hn, mix_end] at hl3
          try walk_at "nf"
          walk_at "sx"
          refine ⟨.inl ⟨_, .of hp3⟩, _, hp3, ?_, e3.mut hp0, ?_, ?_, hlt⟩
          · rw [List.length_map, nI_length, List.length_map, List.length_range]
            exact slt (by omega)
          · rw [upd_ne (Ne.symm npl)]
            exact hl3
          · rw [upd_same, hn, Int.toNat_natCast, colAt_sum, List.range_succ, List.map_append]
            simp [nI]
    · rintro σ H1 ⟨v3, v4, v5, v6, rfl, e, hl1, hp1, hk⟩
      exact absurd hk (by simp; omega)
theorem ok_led (F1 : Df P w K mg base CX0 1 "_law_columns" pr__law_columns (spLawColumns K)) (B : Bl mg) (D : Dt K mg "_law_led" s__law_led pr__law_led) : Df P w K mg base CX0 2 "_law_led" pr__law_led (spLed K) := by
  refine D.ok sc__law_led (fun vs H Q E h => ?_) (fun f cdv A outer s H vs Q E hr h => ?_)
  · obtain ⟨mv, rv, M, ns, rfl, _⟩ := h
    rfl
  · obtain ⟨mv, rv, M, ns, rfl, hm, O, hd, hl, hnb, k⟩ := h
    refine ⟨_, (pss_cons (ps_set (i := 2) sc__law_led.nd rfl (Or.inl rfl) (pe_lst (pa_cons pe_int pa_nil))) (pss_cons (ps_for PassesOwn.never rfl (pi_list (pe_f F1 (hr.mono (by decide)) pass0 (pa_cons (pv 1) pa_nil))) (pg_name (i := 3) sc__law_led.nd rfl (Or.inl rfl)) (pss_one (ps_expr (pe_bm PySem.F.plainAttrs_list PySem.F.slot_list_append PySem.F.type_list_append mt_append (pv 2) (pa_cons (pe_ix ix_tup (pe_ix ix_tup (pe_ix ix_tup (pv 0) pe_int (fun _ _ => rfl)) (pe_ix ix_list (pv 2) (pe_un un_neg pe_int) (fun _ _ => rfl)) (fun _ _ => rfl)) (pv 3) (fun _ _ => rfl)) pa_nil))))) (pss_one (ps_ret (pe_callTy call_tuple_of (by rfl) B.tuple PyProof.Rows.boot_tuple (pa_cons (pv 2) pa_nil)))))), ?_⟩
    walk_at "nf"
    walk_at "sx"
    obtain ⟨a, b, eA, xs, rfl, mv⟩ := mach_v hm
    have o1 := O.many1
    have o2 := O.many2
    refine ⟨by decide, fun L hL => ?_⟩
    have e3 : Same H H := Same.refl _
    have nL : H L = none := e3.free hL
    refine ⟨rv, rfl, rv, ns, rfl, hd.to (e3.then_new hL), by omega, by omega, hnb, fun H3 p e4 hp hC => ⟨p, rfl, ⟨_, .of hC⟩, ?_⟩⟩
    have e5 : Same H H3 := (e3.then_new hL).trans e4
    have npL : p ≠ L := fun z => by rw [z, upd_same] at hp; cases hp
    have hCl : (cols ns).length ≤ 200 := by
      rw [show (cols ns).length = nbits ns from by simp [cols]]
      exact hnb
    generalize eC : cols ns = C at *
    have hC2 : ∀ c ∈ C, c < 2 ^ M.many := fun c hc => by
      rw [← eC] at hc
      obtain ⟨i, _, rfl⟩ := List.mem_map.mp hc
      rw [← hl]
      exact colAt_lt ns i
    refine for_list (K := K) (a := p) (xs := (nI C).map V.int) (fun i σ H' => ∃ v3, σ = [some (.ref a), some rv, some (.ref L), v3] ∧ Same H H' ∧ H' p = some (.lst ((nI C).map V.int)) ∧ H' L = some (.lst ((nI ((List.range (i + 1)).map fun j => M.at (C.take j))).map V.int)))
      ⟨_, rfl, e5, hC, e4 _ _ upd_same⟩ (fun i σ H' _ ⟨_, _, _, h, _⟩ => .of h) ?_ ?_
    · rintro i x σ H' hx ⟨v3, rfl, e, hC', hL'⟩
      have hi : i < C.length := by
        have := (List.getElem?_eq_some_iff.mp hx).1
        rwa [List.length_map, nI_length] at this
      obtain rfl : x = V.int ((C.getD i 0 : Nat) : Int) := by
        simp [nI, hi] at hx
        rw [← hx]
        simp [hi]
      try walk_at "nf"
      try walk_at "sx"
      have qlt : M.at (C.take i) < M.steps.length := Mc.at_lt O fun c hc => hC2 c (List.mem_of_mem_take hc)
      obtain ⟨r, hr1, hr2⟩ := mv.row _ qlt
      have clt : C.getD i 0 < 2 ^ M.many := hC2 _ (by simp [hi])
      have hL2 : H' L = some (.lst ((nI ((List.range i).map fun j => M.at (C.take j))).map V.int ++ [.int ((M.at (C.take i) : Nat) : Int)])) := by
        rw [hL', List.range_succ, List.map_append]
        simp [nI]
      refine ⟨.inl ⟨_, .of hL'⟩, _, e.seqT mv.top, _, rfl, _, .of hL2, _, atI_last _ _, b, rfl, xs, _, rfl, e.seqT mv.steps, _, hr1, r, rfl, _, e.seqT hr2, _, go_at O qlt clt, _, hL2, ?_, e.mut nL, ?_, ?_⟩
      · simp [nI]
        exact Nat.lt_of_lt_of_le (by omega : i + 1 < 100000) (by decide)
      · rw [upd_ne npL]
        exact hC'
      · rw [upd_same, ← hL'_eq hL' hL2, ← Mc.at_take hi, List.range_succ (n := i + 1)]
        simp [nI]
    · rintro σ H' ⟨v3, rfl, e, hC', hL'⟩
      try walk_at "nf"
      try walk_at "sx"
      refine ⟨_, .inl ⟨.of hL', fun t ht => k _ _ (e.then_new ht) ?_⟩⟩
      rw [List.length_map, nI_length]
      exact Dp.tup_ints (.of upd_same)
end
end Ws
/-! ## K14j -/
namespace Ws
open PySem PySem.Spec PyProof.Rows L2
local macro_rules | `(tactic| walk_at "nf") => `(tactic| dsimp only [tNext, tSeq, tDrop, tRet, tRetN, tIfS, tAsg, gName, gTup, gCons, gNil, tVar, tC, tOp, tUn, rI, rI0, rU, rEq, rNe, tTest, tChain, tAnd, tOr, tNot, tAndV, tOrV, tNotV, tIf, tCB, tCKw, tCons, tNil, tTup, tLst, tCa, tCallS, tB, rIxT, rIxL, rIxS, cxOf, Cx.nox, Cx.wish, Cx.blk, L2.start, tPar, tPar3, tNever, tYes, tBits, tRz, tBM, rAppend, tyV, tXf, suiteEnds, gSub, rSetL, tBreak, rMax, tDGet, sDPut, tSl, tNoPart, tPart, tDisp, tPairs])
local macro_rules | `(tactic| walk_at "sx") => `(tactic| simp only [wipe, List.cons.injEq, and_assoc, exists_and_left, and_true, List.map_cons, List.map_nil, List.length_cons, List.length_nil, List.cons_append, List.nil_append, List.append_nil, Nat.reduceAdd, Nat.reduceSub, List.replicate, List.getElem?_cons_zero, List.getElem?_cons_succ, List.set_cons_zero, List.set_cons_succ, Option.some.injEq, V.int.injEq, V.bl.injEq, V.ref.injEq, V.str.injEq, exists_eq_left', exists_eq_left, true_and, Bool.true_eq_false, Bool.false_eq_true, if_true, if_false])

/-! ### repr of small data -/
structure Sm (N D : Nat) (d : PyData) : Prop where
  sh : d.showable = true
  lv : d.leavesShort 61 = true
  nd : d.hasDict = false
  bk : d.bulk ≤ N
  dp : d.depth ≤ D
structure SmA (N D : Nat) (xs : List PyData) : Prop where
  sh : PyData.showableAll xs = true
  lv : PyData.leavesShortAll 61 xs = true
  nd : PyData.hasDictAll xs = false
  bk : PyData.bulkAll xs ≤ N
  dp : PyData.depthAll xs ≤ D
theorem Sm.none' {N D : Nat} : Sm N D .none := ⟨rfl, rfl, rfl, Nat.zero_le _, Nat.zero_le _⟩
theorem Sm.bl' {N D : Nat} {b : Bool} : Sm N D (.bool b) := ⟨rfl, rfl, rfl, Nat.zero_le _, Nat.zero_le _⟩
theorem log_60 {n : Nat} (h : n < 10 ^ 60) : n.log2 < 1920 := by
  by_cases e : n = 0
  · subst e; decide
  · have : n.log2 < 200 := by
      rw [Nat.log2_lt e]
      exact Nat.lt_of_lt_of_le h (by decide)
    omega
theorem Sm.int' {N D : Nat} {i : Int} (h : i.natAbs < 10 ^ 60) : Sm N D (.int i) := by
  refine ⟨by simp only [PyData.showable, decide_eq_true_eq]; exact log_60 h, ?_, rfl, Nat.zero_le _, Nat.zero_le _⟩
  have e := int_text_length_le10 (k := 60) (by decide) h
  simp only [PyData.leavesShort, decide_eq_true_eq]
  show (Str.ofString (toString i)).length ≤ 61
  rw [PySem.ofString_length]; exact e
theorem SmA.nil' {N D : Nat} : SmA N D [] := ⟨rfl, rfl, rfl, Nat.zero_le _, Nat.zero_le _⟩
theorem SmA.cons' {N n m D : Nat} {x : PyData} {xs : List PyData} (h : Sm n D x) (r : SmA m D xs) (e : n + 1 + m ≤ N) : SmA N D (x :: xs) := by
  refine ⟨by simp only [PyData.showableAll, h.sh, r.sh, Bool.and_self], by simp only [PyData.leavesShortAll, h.lv, r.lv, Bool.and_self], by simp only [PyData.hasDictAll, h.nd, r.nd, Bool.or_self], ?_, ?_⟩
  · have := h.bk
    have := r.bk
    simp only [PyData.bulkAll]
    omega
  · have := h.dp
    have := r.dp
    simp only [PyData.depthAll]
    omega
theorem SmA.of_all {n D : Nat} : ∀ {xs : List PyData}, (∀ x ∈ xs, Sm n D x) → SmA ((n + 1) * xs.length) D xs
  | [], _ => SmA.nil'
  | x :: xs, h => SmA.cons' (h x (List.mem_cons_self ..)) (SmA.of_all fun y hy => h y (List.mem_cons_of_mem _ hy)) (by rw [List.length_cons, Nat.mul_succ]; omega)
theorem SmA.mono {N M D : Nat} {xs : List PyData} (h : SmA N D xs) (e : N ≤ M) : SmA M D xs := ⟨h.sh, h.lv, h.nd, Nat.le_trans h.bk e, h.dp⟩
theorem SmA.tup {N D : Nat} {xs : List PyData} (h : SmA N D xs) : Sm N (D + 1) (.tuple xs) :=
  ⟨by simpa only [PyData.showable] using h.sh, by simpa only [PyData.leavesShort] using h.lv, by simpa only [PyData.hasDict] using h.nd, by simpa only [PyData.bulk] using h.bk, by simp only [PyData.depth]; have := h.dp; omega⟩
theorem Sm.mono {N M D C : Nat} {d : PyData} (h : Sm N D d) (e : N ≤ M) (f : D ≤ C) : Sm M C d := ⟨h.sh, h.lv, h.nd, Nat.le_trans h.bk e, Nat.le_trans h.dp f⟩
theorem Sm.fits {N D : Nat} {d : PyData} (h : Sm N D d) (e : N ≤ 200000) : d.shown.length ≤ sizeLine := by
  have h1 := PyData.shown_le_bulk 61 (by decide) d h.lv
  have h2 := h.bk
  rw [sizeLine_eq]
  omega
theorem Sm.ints {N : Nat} {ns : List Nat} (h : ∀ n ∈ ns, n < 10 ^ 60) (e : ns.length ≤ N) : Sm N 1 (rowD ns) := by
  refine SmA.tup (SmA.mono (SmA.of_all (n := 0) fun x hx => ?_) (by rw [List.length_map, nI_length]; omega))
  obtain ⟨i, hi, rfl⟩ := List.mem_map.mp hx
  obtain ⟨n, hn, rfl⟩ := List.mem_map.mp hi
  exact Sm.int' (by have := h n hn; simpa using this)
def spLike (K : PySem.W.Frag) : Sp := fun vs H Q _ => ∃ (v u : V) (d : PyData) (N D : Nat), vs = [v, u] ∧ Dp K H v d ∧ Dp K H u d ∧ Sm N D d ∧ N ≤ 200000 ∧ D ≤ 60 ∧ Q (.bl true) H
def spRunsRight (K : PySem.W.Frag) : Sp := fun vs H Q _ => ∃ (mv rv : V) (M : Mc) (ns : List Nat), vs = [mv, rv] ∧ Dp K H mv (machD M) ∧ McOk M ∧ Dp K H rv (rowD ns) ∧ ns.length = M.many ∧ (∀ n ∈ ns, n < 10 ^ 60) ∧ ∀ H', Same H H' → Q (.bl true) H'
abbrev s__law_like : Stmt := top 40
abbrev nm__law_like : List Str := ["got", "due"]
abbrev pr__law_like : List Str := ["got", "due"]
theorem sc__law_like : FnScope nm__law_like pr__law_like (defScope s__law_like) := ⟨rfl, rfl, rfl, by decide +kernel, rfl, by decide +kernel, by decide +kernel⟩
abbrev s__law_runs_right : Stmt := top 47
abbrev nm__law_runs_right : List Str := ["machine", "row", "due", "zeros", "led"]
abbrev pr__law_runs_right : List Str := ["machine", "row"]
theorem sc__law_runs_right : FnScope nm__law_runs_right pr__law_runs_right (defScope s__law_runs_right) := ⟨rfl, rfl, rfl, by decide +kernel, rfl, by decide +kernel, by decide +kernel⟩
section
variable {P : Program} {w : World} {K : PySem.W.Frag} {mg : Str → Option Value} {base : Heap}
theorem flat_rep : ∀ i : Nat, (List.replicate i [V.int 0]).flatten = List.replicate i (V.int 0)
  | 0 => rfl
  | i + 1 => by
    rw [List.replicate_succ, List.flatten_cons, flat_rep i, List.replicate_succ]
    rfl
theorem ok_like (B : Bl mg) (D : Dt K mg "_law_like" s__law_like pr__law_like) : DfG P w K mg base CX0 1 "_law_like" pr__law_like (spLike K) := by
  refine D.okG sc__law_like (fun vs H Q E h => ?_) (fun f cdv A outer s H vs Q E hG hr h => ?_)
  · obtain ⟨v, u, d, N, D, rfl, _⟩ := h
    rfl
  · obtain ⟨v, u, d, N, D, rfl, hv, hu, hs, hN, hD, k⟩ := h
    refine ⟨_, (pss_one (ps_ret (pe_cmpR op_eq (pe_callB (call_reprD hG hr.units) (by rfl) B.repr boot_repr (pa_cons (pv 0) pa_nil)) (pe_callB (call_reprD hG hr.units) (by rfl) B.repr boot_repr (pa_cons (pv 1) pa_nil)) (nomark _)))), ?_⟩
    walk_at "nf"
    walk_at "sx"
    refine ⟨d, hv, hs.sh, hs.nd, by have := hs.dp; omega, hs.fits hN, d, hu, hs.sh, hs.nd, by have := hs.dp; omega, hs.fits hN, rfl, ?_⟩
    rw [decide_eq_true rfl]
    exact k
theorem ok_runs_right (B : Bl mg) (F1 : Df P w K mg base CX0 1 "_law_columns" pr__law_columns (spLawColumns K)) (F2 : Df P w K mg base CX0 6 "columns_of" pr_columns_of (spColumnsOf K)) (F3 : Df P w K mg base CX0 4 "row_of" pr_row_of (spRowOf K))
    (F4 : Df P w K mg base CX0 2 "_law_led" pr__law_led (spLed K)) (F5 : Df P w K mg base CX0 5 "run_of" pr_run_of (spRunOf K)) (F6 : Df P w K mg base CX0 6 "takes" pr_takes (spTakes K)) (F7 : DfG P w K mg base CX0 1 "_law_like" pr__law_like (spLike K))
    (D : Dt K mg "_law_runs_right" s__law_runs_right pr__law_runs_right) : DfG P w K mg base CX0 7 "_law_runs_right" pr__law_runs_right (spRunsRight K) := by
  refine D.okG sc__law_runs_right (fun vs H Q E h => ?_) (fun f cdv A outer s H vs Q E hG hr h => ?_)
  · obtain ⟨mv, rv, M, ns, rfl, _⟩ := h
    rfl
  · obtain ⟨mv, rv, M, ns, rfl, hm, O, hd, hl, hz, k⟩ := h
    refine ⟨_, (pss_cons (ps_set (i := 2) sc__law_runs_right.nd rfl (Or.inl rfl) (pe_f F1 (hr.mono (by decide)) pass0 (pa_cons (pv 1) pa_nil))) (pss_cons (ps_if (pt_not (pt_val (pe_fG F7 hG (hr.mono (by decide)) pass0 (pa_cons (pe_f F2 (hr.mono (by decide)) pass0 (pa_cons (pe_ix ix_tup (pv 0) pe_int (fun _ _ => rfl)) (pa_cons (pv 1) pa_nil))) (pa_cons (pe_callTy call_tuple_of (by rfl) B.tuple PyProof.Rows.boot_tuple (pa_cons (pv 2) pa_nil)) pa_nil))))) (pss_one (ps_ret pe_bl)) pss_nil) (pss_cons (ps_for PassesOwn.never rfl (pi_range1 (by rfl) B.range (pa_cons pe_int pa_nil)) (pg_name (i := 3) sc__law_runs_right.nd rfl (Or.inl rfl)) (pss_one (ps_if (pt_not (pt_val (pe_fG F7 hG (hr.mono (by decide)) pass0 (pa_cons (pe_f F3 (hr.mono (by decide)) pass0 (pa_cons (pe_ix ix_tup (pv 0) pe_int (fun _ _ => rfl)) (pa_cons (pe_callTy call_tuple_of (by rfl) B.tuple PyProof.Rows.boot_tuple (pa_cons (pe_op op_cat (pv 2) (pe_op op_rep (pe_lst (pa_cons pe_int pa_nil)) (pv 3))) pa_nil)) pa_nil))) (pa_cons (pv 1) pa_nil))))) (pss_one (ps_ret pe_bl)) pss_nil))) (pss_cons (ps_set (i := 4) sc__law_runs_right.nd rfl (Or.inl rfl) (pe_f F4 (hr.mono (by decide)) pass0 (pa_cons (pv 0) (pa_cons (pv 1) pa_nil)))) (pss_one (ps_ret (pe_and (pe_fG F7 hG (hr.mono (by decide)) pass0 (pa_cons (pe_f F5 (hr.mono (by decide)) pass0 (pa_cons (pv 0) (pa_cons (pv 1) pa_nil))) (pa_cons (pv 4) pa_nil))) (pe_one (pe_fG F7 hG (hr.mono (by decide)) pass0 (pa_cons (pe_f F6 (hr.mono (by decide)) pass0 (pa_cons (pv 0) (pa_cons (pv 1) pa_nil))) (pa_cons (pe_ix ix_tup (pe_ix ix_tup (pv 0) pe_int (fun _ _ => rfl)) (pe_ix ix_tup (pv 4) (pe_un un_neg pe_int) (fun _ _ => rfl)) (fun _ _ => rfl)) pa_nil))))))))))), ?_⟩
    walk_at "nf"
    walk_at "sx"
    have hz2 : ∀ n ∈ ns, n ≤ 10 ^ 60 := fun n hn => Nat.le_of_lt (hz n hn)
    have hnb := big_bits hz2
    have o1 := O.many1
    have o2 := O.many2
    obtain ⟨a, b, eA, xs, rfl, mv⟩ := mach_v hm
    have hcl : (cols ns).length ≤ 200 := by
      rw [show (cols ns).length = nbits ns from by simp [cols]]
      exact hnb
    have hcs : ∀ c ∈ cols ns, c < 2 ^ M.many := fun c hc => by
      obtain ⟨i, _, rfl⟩ := List.mem_map.mp hc
      rw [← hl]
      exact colAt_lt ns i
    have h16 : (2 : Nat) ^ M.many ≤ 16 := Nat.pow_le_pow_right (by decide) o2
    have hsm : Sm 200 1 (rowD (cols ns)) := Sm.ints (fun c hc => Nat.lt_of_lt_of_le (hcs c hc) (Nat.le_trans h16 (by decide))) hcl
    refine ⟨rv, ns, rfl, hd, by omega, by omega, hnb, fun H1 p e1 hp0 hp => ?_⟩
    refine ⟨a, rfl, _, e1.seqT mv.top, _, rfl, rv, ns, by rw [hl], hd.to e1, by omega, by omega, hz2, fun H2 u e2 hu => ⟨p, rfl, _, .inl ⟨.of (e2 _ _ hp), fun l hlx => ?_⟩⟩⟩
    have e12 := e1.trans e2
    have e3 := e12.then_new (o := HO.tup ((nI (cols ns)).map V.int)) hlx
    have hp3 : upd H2 l (HO.tup ((nI (cols ns)).map V.int)) p = some (.lst ((nI (cols ns)).map V.int)) := by
      have := e2 _ _ hp
      rw [upd_ne (ne_of_none this hlx)]
      exact this
    refine ⟨u, .ref l, rowD (cols ns), 200, 1, rfl, hu.to (Same.new hlx), Dp.tup_ints (.of upd_same), hsm, by decide, by decide, _, rfl, iteF ?_⟩
    refine ⟨_, rfl, by omega, by omega, for_it walk_range (fun i σ H' => ∃ v3, σ = [some (.ref a), some rv, some (.ref p), v3, none] ∧ Same H H' ∧ H' p = some (.lst ((nI (cols ns)).map V.int)))
      ⟨_, rfl, e3, hp3⟩ (fun _ _ _ _ _ => trivial) ?_ ?_⟩
    · rintro i x σ H3 H4 hi ⟨v3, rfl, e4, hp4⟩ ⟨rfl, rfl⟩
      try walk_at "nf"
      simp only [Int.zero_add]
      walk_at "sx"
      refine ⟨_, e4.seqT mv.top, _, rfl, by decide, fun p1 hp1 => ?_⟩
      have q1 : upd H4 p1 (HO.lst [V.int 0]) p = some (.lst ((nI (cols ns)).map V.int)) := by rw [upd_ne (ne_of_none hp4 hp1)]; exact hp4
      refine ⟨p1, i, _, rfl, rfl, upd_same, by omega, by omega, by rw [sizeLine_eq]; simp; omega, fun p2 hp2 => ?_⟩
      have q2 : ∀ o, upd (upd H4 p1 (HO.lst [V.int 0])) p2 o p = some (.lst ((nI (cols ns)).map V.int)) := fun o => by rw [upd_ne (ne_of_none q1 hp2)]; exact q1
      have ez : (List.replicate (i : Int).toNat [V.int 0]).flatten = (nI (List.replicate i 0)).map V.int := by
        rw [Int.toNat_natCast]
        simp [nI, flat_rep]
      rw [ez]
      refine ⟨p, p2, _, _, rfl, rfl, q2 _, upd_same, by rw [sizeLine_eq]; simp [nI_length]; omega, fun p3 hp3 => ⟨p3, rfl, _, .inl ⟨.of upd_same, fun l2 hl2 => ?_⟩⟩⟩
      have e5 : Same H (upd (upd (upd (upd H4 p1 (HO.lst [V.int 0])) p2 (HO.lst ((nI (List.replicate i 0)).map V.int))) p3 (HO.lst ((nI (cols ns)).map V.int ++ (nI (List.replicate i 0)).map V.int))) l2 (HO.tup ((nI (cols ns)).map V.int ++ (nI (List.replicate i 0)).map V.int))) :=
        (((e4.then_new hp1).then_new hp2).then_new hp3).then_new hl2
      have q3 : upd (upd (upd (upd H4 p1 (HO.lst [V.int 0])) p2 (HO.lst ((nI (List.replicate i 0)).map V.int))) p3 (HO.lst ((nI (cols ns)).map V.int ++ (nI (List.replicate i 0)).map V.int))) l2 (HO.tup ((nI (cols ns)).map V.int ++ (nI (List.replicate i 0)).map V.int)) p = some (.lst ((nI (cols ns)).map V.int)) := by
        have q4 := q2 (HO.lst ((nI (List.replicate i 0)).map V.int))
        have q5 : upd (upd (upd H4 p1 (HO.lst [V.int 0])) p2 (HO.lst ((nI (List.replicate i 0)).map V.int))) p3 (HO.lst ((nI (cols ns)).map V.int ++ (nI (List.replicate i 0)).map V.int)) p = some (.lst ((nI (cols ns)).map V.int)) := by
          rw [upd_ne (ne_of_none q4 hp3)]
          exact q4
        rw [upd_ne (ne_of_none q5 hl2)]
        exact q5
      refine ⟨.ref l2, cols ns ++ List.replicate i 0, M.many, rfl, Dp.tup_ints (ns := nI (cols ns ++ List.replicate i 0)) (.of (by rw [upd_same]; simp [nI])), o1, o2, by simp; omega, fun c hc => ?_, fun H6 u2 e6 hu2 => ?_⟩
      · rcases List.mem_append.mp hc with hc | hc
        · exact hcs c hc
        · rw [(List.mem_replicate.mp hc).2]
          exact Nat.two_pow_pos _
      · have er : (List.range M.many).map (rowNum (cols ns ++ List.replicate i 0)) = ns := by
          refine List.ext_getElem (by simp [hl]) fun j h1 h2 => ?_
          simp [row_back, h2]
        rw [er] at hu2
        exact ⟨u2, rv, rowD ns, 200, 1, rfl, hu2, hd.to (e5.trans e6), Sm.ints hz (by omega), by decide, by decide, _, rfl, iteF ⟨e5.trans e6, e6 _ _ q3⟩⟩
    · rintro σ H3 ⟨v3, rfl, e4, hp4⟩
      try walk_at "nf"
      walk_at "sx"
      have hrs : Sm 600 1 (rowD (M.runs (cols ns))) := by
        refine Sm.ints (fun n hn => ?_) (by unfold Mc.runs; rw [List.length_map, List.length_range]; omega)
        obtain ⟨j, _, rfl⟩ := List.mem_map.mp hn
        exact Nat.lt_of_lt_of_le (Mc.at_lt O fun c hc => hcs c (List.mem_of_mem_take hc)) (Nat.le_trans O.few (by decide))
      refine ⟨.ref a, rv, M, ns, rfl, hm.to e4, O, hd.to e4, hl, hnb, fun H5 u5 e5 hu5 => ?_⟩
      have f5 := e4.trans e5
      refine ⟨.ref a, rv, M, ns, rfl, hm.to f5, O, hd.to f5, hl, hz2, fun H6 u6 e6 hu6 => ?_⟩
      have f6 := f5.trans e6
      refine ⟨u6, u5, _, 600, 1, rfl, hu6, hu5.to e6, hrs, by decide, by decide, _, rfl, iteT ?_⟩
      refine ⟨.ref a, rv, M, ns, rfl, hm.to f6, O, hd.to f6, hl, hz2, fun H7 e7 => ?_⟩
      have f7 := f6.trans e7
      obtain ⟨p5, rfl, hp5⟩ := ((hu5.to e6).to e7).ints_tup
      rw [runs_last] at hp5
      have hp2 : SqT K H7 p5 ((nI ((List.range (cols ns).length).map fun i => M.at ((cols ns).take i))).map V.int ++ [V.int ((M.at (cols ns) : Nat) : Int)]) := by
        rw [show (nI ((List.range (cols ns).length).map fun i => M.at ((cols ns).take i))).map V.int ++ [V.int ((M.at (cols ns) : Nat) : Int)] = (nI (((List.range (cols ns).length).map fun i => M.at ((cols ns).take i)) ++ [M.at (cols ns)])).map V.int from by simp [nI]]
        exact hp5
      have qlt := Mc.at_lt O hcs
      have h2 : M.at (cols ns) < M.ends.length := by rw [O.ends]; exact qlt
      refine ⟨_, f7.seqT mv.top, _, rfl, p5, rfl, _, hp2, _, atI_last _ _, eA, rfl, _, _, rfl, f7.seqT mv.ends, V.bl (M.ends.getD (M.at (cols ns)) false), atI_nat (by simp [h2]), ?_⟩
      exact ⟨_, _, _, 0, 0, rfl, .bl _, .bl _, Sm.bl', by decide, by decide, k _ f7⟩
end
end Ws
/-! ## K14k -/
namespace Ws
open PySem PySem.Spec PyProof.Rows L2
local macro_rules | `(tactic| walk_at "nf") => `(tactic| dsimp only [tNext, tSeq, tDrop, tRet, tRetN, tIfS, tAsg, gName, gTup, gCons, gNil, tVar, tC, tOp, tUn, rI, rI0, rU, rEq, rNe, tTest, tChain, tAnd, tOr, tNot, tAndV, tOrV, tNotV, tIf, tCB, tCKw, tCons, tNil, tTup, tLst, tCa, tCallS, tB, rIxT, rIxL, rIxS, cxOf, Cx.nox, Cx.wish, Cx.blk, L2.start, tPar, tPar3, tNever, tYes, tBits, tRz, tBM, rAppend, tyV, tXf, suiteEnds, gSub, rSetL, tBreak, rMax, tDGet, sDPut, tSl, tNoPart, tPart, tDisp, tPairs])
local macro_rules | `(tactic| walk_at "sx") => `(tactic| simp only [wipe, List.cons.injEq, and_assoc, exists_and_left, and_true, List.map_cons, List.map_nil, List.length_cons, List.length_nil, List.cons_append, List.nil_append, List.append_nil, Nat.reduceAdd, Nat.reduceSub, List.replicate, List.getElem?_cons_zero, List.getElem?_cons_succ, List.set_cons_zero, List.set_cons_succ, Option.some.injEq, V.int.injEq, V.bl.injEq, V.ref.injEq, V.str.injEq, exists_eq_left', exists_eq_left, true_and, Bool.true_eq_false, Bool.false_eq_true, if_true, if_false])

/-! ### the law's state -/
/-- all but the dict at a and the list at l stands as before -/
def Sbt (a l : Addr) (H H' : Hp) : Prop := ∀ b o, H b = some o → b ≠ a → b ≠ l → H' b = some o
theorem Sbt.refl {a l : Addr} (H : Hp) : Sbt a l H H := fun _ _ e _ _ => e
theorem Sbt.trans {a l : Addr} {H H1 H2 : Hp} (h : Sbt a l H H1) (k : Sbt a l H1 H2) : Sbt a l H H2 := fun b o e h1 h2 => k b o (h b o e h1 h2) h1 h2
theorem Sbt.of {a l : Addr} {H H1 : Hp} (h : Same H H1) : Sbt a l H H1 := fun b o e _ _ => h b o e
theorem Sbt.same {a l : Addr} {H H1 H2 : Hp} (h : Sbt a l H H1) (k : Same H1 H2) : Sbt a l H H2 := fun b o e h1 h2 => k b o (h b o e h1 h2)
theorem Sbt.mut {a l p : Addr} {o : HO} {H H1 : Hp} (h : Sbt a l H H1) (n : H p = none) : Sbt a l H (upd H1 p o) := fun b u e h1 h2 => by
  rw [upd_ne (ne_of_none e n)]
  exact h b u e h1 h2
theorem Sbt.a {a l : Addr} {o : HO} {H H1 : Hp} (h : Sbt a l H H1) : Sbt a l H (upd H1 a o) := fun b u e h1 h2 => by
  rw [upd_ne h1]
  exact h b u e h1 h2
theorem Sbt.l {a l : Addr} {o : HO} {H H1 : Hp} (h : Sbt a l H H1) : Sbt a l H (upd H1 l o) := fun b u e h1 h2 => by
  rw [upd_ne h2]
  exact h b u e h1 h2
def stK (c l : Addr) (m : Nat) : List (Key × V) := [(.inr "cells", .ref c), (.inr "lefts", .ref l), (.inr "at", .int m)]
structure LStX (H : Hp) (a l : Addr) (n : Nat) (c : Addr) (cs ls : List Int) (m : Nat) : Prop where
  top : H a = some (.dK (stK c l m))
  cells : H c = some (.lst (cs.map V.int))
  lefts : H l = some (.lst (ls.map V.int))
  len : ls.length = cs.length
  pos : 0 < cs.length
  few : m ≤ n
  apart : c ≠ l
def LSt (H : Hp) (a l c : Addr) (n : Nat) : Prop := ∃ cs ls m, LStX H a l n c cs ls m
theorem LSt.same {H H' : Hp} {a l c : Addr} {n : Nat} (h : LSt H a l c n) (e : Same H H') : LSt H' a l c n := by
  obtain ⟨cs, ls, m, h⟩ := h
  exact ⟨cs, ls, m, e _ _ h.top, e _ _ h.cells, e _ _ h.lefts, h.len, h.pos, h.few, h.apart⟩
theorem LSt.mono {H : Hp} {a l c : Addr} {n k : Nat} (h : LSt H a l c n) (e : n ≤ k) : LSt H a l c k := by
  obtain ⟨cs, ls, m, h⟩ := h
  exact ⟨cs, ls, m, h.top, h.cells, h.lefts, h.len, h.pos, Nat.le_trans h.few e, h.apart⟩
/-- what is not the state's own may change -/
theorem LSt.put {H : Hp} {a l c p : Addr} {n : Nat} {o : HO} (h : LSt H a l c n) (e1 : p ≠ a) (e2 : p ≠ l) (e3 : p ≠ c) : LSt (upd H p o) a l c n := by
  obtain ⟨cs, ls, m, h⟩ := h
  exact ⟨cs, ls, m, by rw [upd_ne (Ne.symm e1)]; exact h.top, by rw [upd_ne (Ne.symm e3)]; exact h.cells, by rw [upd_ne (Ne.symm e2)]; exact h.lefts, h.len, h.pos, h.few, h.apart⟩
/-- what is none of the state's own -/
theorem LSt.off {H : Hp} {a l c p : Addr} {n : Nat} (h : LSt H a l c n) (e : H p = none) : p ≠ a ∧ p ≠ l ∧ p ≠ c := by
  obtain ⟨cs, ls, m, h⟩ := h
  exact ⟨Ne.symm (ne_of_none h.top e), Ne.symm (ne_of_none h.lefts e), Ne.symm (ne_of_none h.cells e)⟩
theorem LSt.new {H : Hp} {a l c p : Addr} {n : Nat} {o : HO} (h : LSt H a l c n) (e : H p = none) : LSt (upd H p o) a l c n := by
  obtain ⟨e1, e2, e3⟩ := h.off e
  exact h.put e1 e2 e3
section
variable {K : PySem.W.Frag}
mutual
def noList : PyData → Bool
  | .list _ => false
  | .tuple xs => noListAll xs
  | .dict _ => false
  | _ => true
def noListAll : List PyData → Bool
  | [] => true
  | x :: xs => noList x && noListAll xs
end
/-- at a stands no tuple -/
structure NoT (H : Hp) (a : Addr) : Prop where
  tup : ∀ xs, H a ≠ some (.tup xs)
  frz : ∀ o u, H a ≠ some (.frz o u)
theorem NoT.lst {H : Hp} {a : Addr} {xs : List V} (h : H a = some (.lst xs)) : NoT H a := ⟨(fun _ z => by rw [h] at z; cases z), (fun _ _ z => by rw [h] at z; cases z)⟩
theorem NoT.dK {H : Hp} {a : Addr} {xs : List (Key × V)} (h : H a = some (.dK xs)) : NoT H a := ⟨(fun _ z => by rw [h] at z; cases z), (fun _ _ z => by rw [h] at z; cases z)⟩
theorem LSt.noA {H : Hp} {a l c : Addr} {n : Nat} (s : LSt H a l c n) : NoT H a := by
  obtain ⟨cs, ls, m, s⟩ := s
  exact .dK s.top
theorem LSt.noL {H : Hp} {a l c : Addr} {n : Nat} (s : LSt H a l c n) : NoT H l := by
  obtain ⟨cs, ls, m, s⟩ := s
  exact .lst s.lefts
theorem seqTN {H H' : Hp} {a l b : Addr} {xs : List V} (e : Sbt a l H H') (na : NoT H a) (nl : NoT H l) (h : SqT K H b xs) : SqT K H' b xs := by
  rcases h with (h | ⟨o, h⟩) | h
  · exact .inl (.inl (e _ _ h (fun z => na.tup xs (by rw [← z]; exact h)) (fun z => nl.tup xs (by rw [← z]; exact h))))
  · exact .inl (.inr ⟨o, e _ _ h (fun z => na.frz _ _ (by rw [← z]; exact h)) (fun z => nl.frz _ _ (by rw [← z]; exact h))⟩)
  · exact .inr h
theorem Sbt.seqT {H H' : Hp} {a l c b : Addr} {n : Nat} {xs : List V} (e : Sbt a l H H') (s : LSt H a l c n) (h : SqT K H b xs) : SqT K H' b xs := seqTN e s.noA s.noL h
mutual
theorem keepN {H H' : Hp} {a l : Addr} (e : Sbt a l H H') (na : NoT H a) (nl : NoT H l) : ∀ (d : PyData) (v : V), noList d = true → Dp K H v d → Dp K H' v d
  | .none, _, _, h => by cases h; exact .non
  | .bool b, _, _, h => by cases h; exact .bl b
  | .int i, _, _, h => by cases h; exact .int i
  | .str x, _, _, h => by cases h; exact .str x
  | .list ds, _, q, h => by cases q
  | .tuple ds, _, q, h => by
    cases h with
    | tup hs ha => exact .tup (seqTN e na nl hs) (keepNs e na nl ds _ (by simpa only [noList] using q) ha)
  | .dict _, _, _, h => by cases h
theorem keepNs {H H' : Hp} {a l : Addr} (e : Sbt a l H H') (na : NoT H a) (nl : NoT H l) : ∀ (ds : List PyData) (vs : List V), noListAll ds = true → DpAll K H vs ds → DpAll K H' vs ds
  | [], _, _, h => by cases h; exact .nil
  | d :: ds, _, q, h => by
    cases h with
    | cons h1 h2 =>
      simp only [noListAll, Bool.and_eq_true] at q
      exact .cons (keepN e na nl d _ q.1 h1) (keepNs e na nl ds _ q.2 h2)
end
theorem keepT {H H' : Hp} {a l c : Addr} {n : Nat} (e : Sbt a l H H') (s : LSt H a l c n) (d : PyData) (v : V) (q : noList d = true) (h : Dp K H v d) : Dp K H' v d := keepN e s.noA s.noL d v q h
theorem keepTs {H H' : Hp} {a l c : Addr} {n : Nat} (e : Sbt a l H H') (s : LSt H a l c n) (ds : List PyData) (vs : List V) (q : noListAll ds = true) (h : DpAll K H vs ds) : DpAll K H' vs ds := keepNs e s.noA s.noL ds vs q h
/-- a list that changes -/
theorem keepLs {H : Hp} {p : Addr} {xs : List V} {o : HO} (hp : H p = some (.lst xs)) {ds : List PyData} {vs : List V} (q : noListAll ds = true) (h : DpAll K H vs ds) : DpAll K (upd H p o) vs ds :=
  keepNs (a := p) (l := p) (Sbt.refl H).a (.lst hp) (.lst hp) ds vs q h
theorem keepL {H : Hp} {p : Addr} {xs : List V} {o : HO} (hp : H p = some (.lst xs)) {d : PyData} {v : V} (q : noList d = true) (h : Dp K H v d) : Dp K (upd H p o) v d :=
  keepN (a := p) (l := p) (Sbt.refl H).a (.lst hp) (.lst hp) d v q h
theorem noListAll_of : ∀ {xs : List PyData}, (∀ x ∈ xs, noList x = true) → noListAll xs = true
  | [], _ => rfl
  | x :: xs, h => by
    simp only [noListAll, Bool.and_eq_true]
    exact ⟨h x (List.mem_cons_self ..), noListAll_of fun y hy => h y (List.mem_cons_of_mem _ hy)⟩
theorem noList_row (ns : List Nat) : noList (rowD ns) = true := by
  simp only [rowD, noList]
  exact noListAll_of fun x hx => by obtain ⟨i, _, rfl⟩ := List.mem_map.mp hx; rfl
theorem noList_rows (rows : List (List Nat)) : noListAll (rows.map rowD) = true := noListAll_of fun x hx => by obtain ⟨r, _, rfl⟩ := List.mem_map.mp hx; exact noList_row r
theorem noList_mach (M : Mc) : noList (machD M) = true := by
  simp only [machD, noList, noListAll, Bool.and_true, Bool.true_and, Bool.and_eq_true]
  exact ⟨noListAll_of fun x hx => by obtain ⟨r, _, rfl⟩ := List.mem_map.mp hx; exact noList_row r, noListAll_of fun x hx => by obtain ⟨r, _, rfl⟩ := List.mem_map.mp hx; rfl⟩
end
def spMixed : Sp := fun vs H Q _ => ∃ i k : Int, vs = [.int i, .int k] ∧ 0 ≤ k ∧ k ≤ 10000000 ∧ ∀ r : Int, 0 ≤ r → r < 2147483629 → Q (.int r) H
def spDraw : Sp := fun vs H Q _ => ∃ (a l c : Addr) (n : Nat) (lim : Int), vs = [.ref a, .int lim] ∧ LSt H a l c n ∧ n ≤ 1000000 ∧ 1 ≤ lim ∧ lim < 2 ^ 60 ∧ ∀ H' (r : Int), Sbt a l H H' → LSt H' a l c (n + 1) → 0 ≤ r → r < lim → Q (.int r) H'
def spGreat : Sp := fun vs H Q _ => ∃ (a l c : Addr) (n : Nat), vs = [.ref a] ∧ LSt H a l c n ∧ n ≤ 900000 ∧ ∀ H' (r : Nat), Sbt a l H H' → LSt H' a l c (n + 4) → r < 10 ^ 45 → Q (.int r) H'
abbrev s__law_mixed : Stmt := top 32
abbrev nm__law_mixed : List Str := ["cell", "k"]
abbrev pr__law_mixed : List Str := ["cell", "k"]
theorem sc__law_mixed : FnScope nm__law_mixed pr__law_mixed (defScope s__law_mixed) := ⟨rfl, rfl, rfl, by decide +kernel, rfl, by decide +kernel, by decide +kernel⟩
abbrev s__law_draw : Stmt := top 34
abbrev nm__law_draw : List Str := ["state", "limit", "at", "place", "left", "number"]
abbrev pr__law_draw : List Str := ["state", "limit"]
theorem sc__law_draw : FnScope nm__law_draw pr__law_draw (defScope s__law_draw) := ⟨rfl, rfl, rfl, by decide +kernel, rfl, by decide +kernel, by decide +kernel⟩
abbrev s__law_great : Stmt := top 36
abbrev nm__law_great : List Str := ["state", "found", "step"]
abbrev pr__law_great : List Str := ["state"]
theorem sc__law_great : FnScope nm__law_great pr__law_great (defScope s__law_great) := ⟨rfl, rfl, rfl, by decide +kernel, rfl, by decide +kernel, by decide +kernel⟩
section
variable {P : Program} {w : World} {K : PySem.W.Frag} {mg : Str → Option Value} {base : Heap}
theorem ks1 : ¬ (("cells" : Str) = "at") := by decide +kernel
theorem ks2 : ¬ (("lefts" : Str) = "at") := by decide +kernel
theorem ks3 : ¬ (("cells" : Str) = "lefts") := by decide +kernel
theorem dg_cells {H : Hp} {a c l : Addr} {m : Nat} (h : H a = some (.dK (stK c l m))) : DGet H a (V.str "cells") (some (.ref c)) := by
  have e : valV (stK c l m) (.inr "cells" : Key) = some (.ref c) := valV_pos rfl
  rw [← e]
  exact DGet.k (k := (Sum.inr ("cells" : Str) : Key)) h
theorem dg_lefts {H : Hp} {a c l : Addr} {m : Nat} (h : H a = some (.dK (stK c l m))) : DGet H a (V.str "lefts") (some (.ref l)) := by
  have e : valV (stK c l m) (.inr "lefts" : Key) = some (.ref l) := by simp [valV, stK, List.find?, ks3]
  rw [← e]
  exact DGet.k (k := (Sum.inr ("lefts" : Str) : Key)) h
theorem dg_at {H : Hp} {a c l : Addr} {m : Nat} (h : H a = some (.dK (stK c l m))) : DGet H a (V.str "at") (some (.int m)) := by
  have e : valV (stK c l m) (.inr "at" : Key) = some (.int m) := by simp [valV, stK, List.find?, ks1, ks2]
  rw [← e]
  exact DGet.k (k := (Sum.inr ("at" : Str) : Key)) h
theorem dp_at {H : Hp} {a c l : Addr} {m : Nat} (h : H a = some (.dK (stK c l m))) : DPut H a (V.str "at") (V.int ((m : Int) + 1)) (upd H a (.dK (stK c l (m + 1)))) := by
  have e : putK (stK c l m) (.inr "at" : Key) (V.int ((m : Int) + 1)) = stK c l (m + 1) := by simp [putK, stK, ks1, ks2]
  rw [← e]
  exact DPut.k (k := (Sum.inr ("at" : Str) : Key)) h (by show 3 < sizeLine; decide)
theorem ok_mixed (B : Bl mg) (D : Dt K mg "_law_mixed" s__law_mixed pr__law_mixed) : Df P w K mg base CX0 1 "_law_mixed" pr__law_mixed spMixed := by
  refine D.ok sc__law_mixed (fun vs H Q E h => ?_) (fun f cdv A outer s H vs Q E hr h => ?_)
  · obtain ⟨i, k, rfl, _⟩ := h
    rfl
  · obtain ⟨i, k, rfl, hk1, hk2, q⟩ := h
    refine ⟨_, (pss_cons (ps_set (i := 0) sc__law_mixed.nd rfl (Or.inl rfl) (pe_op op_mod (pe_callTy call_int1 (by rfl) B.int PyProof.Rows.boot_int (pa_cons (pv 0) pa_nil)) pe_int)) (pss_one (ps_ret (pe_op op_mod (pe_op op_mul (pe_op op_mod (pe_op op_add (pe_op op_add (pe_op op_mul (pv 0) (pe_op op_add pe_int (pe_op op_mul (pe_op op_mul pe_int (pv 1)) (pv 1)))) (pe_op op_mul pe_int (pv 1))) pe_int) pe_int) pe_int) pe_int)))), ?_⟩
    walk_at "nf"
    walk_at "sx"
    have m1 := Int.emod_nonneg i (show (2147483647 : Int) ≠ 0 by decide)
    have m2 := Int.emod_lt_of_pos i (show (0 : Int) < 2147483647 by decide)
    generalize hz : (i % 2147483647 * (48271 + 2 * k * k) + 69621 * k + 11) = z
    refine .inl ⟨by decide, .inl ⟨by decide, by decide⟩, .inr ⟨by omega, by omega⟩, .inl ⟨by omega, by omega⟩, .inl ⟨by decide, by decide⟩, by decide, .inr ⟨by decide, by decide⟩, by decide, q _ (Int.emod_nonneg _ (by decide)) (Int.emod_lt_of_pos _ (by decide))⟩
theorem ok_draw (B : Bl mg) (F1 : Df P w K mg base CX0 1 "_law_mixed" pr__law_mixed spMixed) (D : Dt K mg "_law_draw" s__law_draw pr__law_draw) : Df P w K mg base CX0 2 "_law_draw" pr__law_draw spDraw := by
  refine D.ok sc__law_draw (fun vs H Q E h => ?_) (fun f cdv A outer s H vs Q E hr h => ?_)
  · obtain ⟨a, l, c, n, lim, rfl, _⟩ := h
    rfl
  · obtain ⟨a, l, c, n, lim, rfl, hs, hn, h1, h2, k⟩ := h
    refine ⟨_, (pss_cons (ps_set (i := 2) sc__law_draw.nd rfl (Or.inl rfl) (pe_dget (hu_of hr) (pv 0) pe_str (fun _ _ => rfl))) (pss_cons (ps_dput (hu_of hr) (pv 0) pe_str (pe_op op_add (pv 2) pe_int) rfl) (pss_cons (ps_set (i := 3) sc__law_draw.nd rfl (Or.inl rfl) (pe_op op_mod (pe_callTy call_int1 (by rfl) B.int PyProof.Rows.boot_int (pa_cons (pv 2) pa_nil)) (pe_callB call_len_seq (by rfl) B.len PySem.boot_len (pa_cons (pe_dget (hu_of hr) (pv 0) pe_str (fun _ _ => rfl)) pa_nil)))) (pss_cons (ps_set (i := 4) sc__law_draw.nd rfl (Or.inl rfl) (pe_ix ix_list (pe_dget (hu_of hr) (pv 0) pe_str (fun _ _ => rfl)) (pv 3) (fun _ _ => rfl))) (pss_cons (ps_if (pt_cmpR op_gt (pv 4) pe_int (nomark _)) (pss_cons (ps_asg (pe_op op_fdivW (pv 4) (pv 1)) (pg_sub (pe_dget (hu_of hr) (pv 0) pe_str (fun _ _ => rfl)) (pv 3) set_list)) (pss_one (ps_ret (pe_op op_mod (pe_callTy call_int1 (by rfl) B.int PyProof.Rows.boot_int (pa_cons (pv 4) pa_nil)) (pv 1))))) pss_nil) (pss_cons (ps_set (i := 5) sc__law_draw.nd rfl (Or.inl rfl) (pe_f F1 (hr.mono (by decide)) pass0 (pa_cons (pe_f F1 (hr.mono (by decide)) pass0 (pa_cons (pe_ix ix_list (pe_dget (hu_of hr) (pv 0) pe_str (fun _ _ => rfl)) (pv 3) (fun _ _ => rfl)) (pa_cons (pv 2) pa_nil))) (pa_cons (pe_op op_add pe_int (pv 2)) pa_nil)))) (pss_one (ps_ret (pe_op op_mod (pe_op op_fdiv (pe_callTy call_int1 (by rfl) B.int PyProof.Rows.boot_int (pa_cons (pe_op op_add (pe_op op_mul (pv 5) pe_int) (pe_f F1 (hr.mono (by decide)) pass0 (pa_cons (pv 5) (pa_cons (pe_op op_add pe_int (pv 2)) pa_nil)))) pa_nil)) pe_int) (pv 1)))))))))), ?_⟩
    walk_at "nf"
    walk_at "sx"
    obtain ⟨cs, ls, m, S⟩ := hs
    have hac : a ≠ c := ne_of S.top S.cells (by intro z; cases z)
    have hal : a ≠ l := ne_of S.top S.lefts (by intro z; cases z)
    have hq : m % cs.length < cs.length := Nat.mod_lt _ S.pos
    have hq2 : m % cs.length < ls.length := by rw [S.len]; exact hq
    have em : ((m : Nat) : Int) % (((cs.map V.int).length : Nat) : Int) = ((m % cs.length : Nat) : Int) := by
      rw [List.length_map]
      exact (Int.natCast_emod m cs.length).symm
    have top1 : upd H a (.dK (stK c l (m + 1))) a = some (.dK (stK c l (m + 1))) := upd_same
    have cells1 : upd H a (.dK (stK c l (m + 1))) c = some (.lst (cs.map V.int)) := by rw [upd_ne (Ne.symm hac)]; exact S.cells
    have lefts1 : upd H a (.dK (stK c l (m + 1))) l = some (.lst (ls.map V.int)) := by rw [upd_ne (Ne.symm hal)]; exact S.lefts
    have few := S.few
    refine ⟨_, dg_at S.top, m, rfl, _, dp_at S.top, .inl ⟨m, rfl, _, dg_cells top1, c, rfl, _, .inl (.of cells1), by rw [List.length_map]; have := S.pos; omega, _, dg_lefts top1, l, rfl, _, .of lefts1, ?_⟩⟩
    rw [em]
    refine ⟨V.int (ls.getD (m % cs.length) 0), atI_nat (by simp [hq2]), _, rfl, ?_⟩
    generalize hleft : ls.getD (m % cs.length) 0 = left
    by_cases hp : 0 < left
    · rw [decide_eq_true hp]
      refine iteT ⟨left, rfl, wide_div (b := 60) (by omega) (by omega) (by decide) (by decide), _, dg_lefts top1, l, rfl, _, lefts1, m % cs.length, ?_, .inl ⟨left, rfl, by omega, ?_⟩⟩
      · unfold ixN
        rw [if_pos (by omega), List.length_map, if_pos (by omega), Int.toNat_natCast]
      · refine k _ _ (Sbt.refl H).a.l ⟨cs, ls.set (m % cs.length) (left / lim), m + 1, ?_, ?_, ?_, by rw [List.length_set]; exact S.len, S.pos, by omega, S.apart⟩ (Int.emod_nonneg _ (by omega)) (Int.emod_lt_of_pos _ (by omega))
        · rw [upd_ne hal]
          exact top1
        · rw [upd_ne S.apart]
          exact cells1
        · rw [upd_same, List.map_set]
    · rw [decide_eq_false hp]
      have fin : ∀ r : Int, 0 ≤ r → r < lim → Q (.int r) (upd H a (.dK (stK c l (m + 1)))) := fun r r1 r2 => k _ r (Sbt.refl H).a ⟨cs, ls, m + 1, top1, cells1, lefts1, S.len, S.pos, by omega, S.apart⟩ r1 r2
      refine iteF ⟨_, dg_cells top1, c, rfl, _, .of cells1, V.int (cs.getD (m % cs.length) 0), atI_nat (by simp [hq]), _, _, rfl, by omega, by omega, fun r1 a1 b1 => ⟨m, rfl, _, _, rfl, by omega, by omega, fun r2 a2 b2 => ⟨r2, rfl, .inr ⟨by decide, by decide⟩, m, rfl, _, _, rfl, by omega, by omega, fun r3 a3 b3 => ⟨r3, rfl, .inl ⟨⟨by decide, by decide⟩, by omega, ?_⟩⟩⟩⟩⟩
      exact fin _ (Int.emod_nonneg _ (by omega)) (Int.emod_lt_of_pos _ (by omega))
theorem ok_great (B : Bl mg) (F1 : Df P w K mg base CX0 2 "_law_draw" pr__law_draw spDraw) (D : Dt K mg "_law_great" s__law_great pr__law_great) : Df P w K mg base CX0 3 "_law_great" pr__law_great spGreat := by
  refine D.ok sc__law_great (fun vs H Q E h => ?_) (fun f cdv A outer s H vs Q E hr h => ?_)
  · obtain ⟨a, l, c, n, rfl, _⟩ := h
    rfl
  · obtain ⟨a, l, c, n, rfl, hs, hn, k⟩ := h
    refine ⟨_, (pss_cons (ps_set (i := 1) sc__law_great.nd rfl (Or.inl rfl) pe_int) (pss_cons (ps_for PassesOwn.never rfl (pi_range1 (by rfl) B.range (pa_cons (pe_f F1 (hr.mono (by decide)) pass0 (pa_cons (pv 0) (pa_cons pe_int pa_nil))) pa_nil)) (pg_name (i := 2) sc__law_great.nd rfl (Or.inl rfl)) (pss_one (ps_set (i := 1) sc__law_great.nd rfl (Or.inl rfl) (pe_op op_add (pe_op op_mul (pv 1) (pe_op op_pow pe_int pe_int)) (pe_f F1 (hr.mono (by decide)) pass0 (pa_cons (pv 0) (pa_cons (pe_op op_pow pe_int pe_int) pa_nil))))))) (pss_one (ps_ret (pv 1))))), ?_⟩
    walk_at "nf"
    walk_at "sx"
    refine ⟨_, rfl, a, l, c, n, 4, rfl, hs, by omega, by decide, by decide, fun H1 r e1 s1 r1 r2 => ⟨r, rfl, by omega, by omega, for_it walk_range (fun i σ H' => ∃ v2, ∃ x : Nat, σ = [some (.ref a), some (.int x), v2] ∧ Sbt a l H H' ∧ LSt H' a l c (n + 1 + i) ∧ x < 10 ^ (15 * i))
      ⟨_, 0, rfl, e1, s1, by decide⟩ (fun _ _ _ _ _ => trivial) ?_ ?_⟩⟩
    · rintro i x σ H2 H3 hi ⟨v2, x, rfl, e2, s2, hx⟩ ⟨rfl, rfl⟩
      try walk_at "nf"
      walk_at "sx"
      refine ⟨⟨by decide, by decide, by decide⟩, .inr ⟨by decide, by decide⟩, ⟨by decide, by decide, by decide⟩, a, l, c, n + 1 + i, _, rfl, s2, by omega, by decide, by decide, fun H4 r3 e3 s3 a3 b3 => ?_⟩
      obtain ⟨r3, rfl⟩ : ∃ m : Nat, r3 = (m : Int) := ⟨r3.toNat, by omega⟩
      refine ⟨r3, rfl, _, x * 10 ^ 15 + r3, ?_, rfl, e2.trans e3, s3, ?_⟩
      · have e10 : ((10 : Int) ^ (15 : Int).toNat) = ((10 ^ 15 : Nat) : Int) := by decide
        rw [e10, ← Int.natCast_mul, ← Int.natCast_add]
      · have b4 : r3 < 10 ^ 15 := by
          have : ((10 : Int) ^ (15 : Int).toNat) = ((10 ^ 15 : Nat) : Int) := by decide
          rw [this] at b3
          exact_mod_cast b3
        have e15 : 10 ^ (15 * (i + 1)) = 10 ^ (15 * i) * 10 ^ 15 := by rw [Nat.mul_add, Nat.mul_one, Nat.pow_add]
        rw [e15]
        have : (x + 1) * 10 ^ 15 ≤ 10 ^ (15 * i) * 10 ^ 15 := Nat.mul_le_mul_right _ hx
        omega
    · rintro σ H2 ⟨v2, x, rfl, e2, s2, hx⟩
      try walk_at "nf"
      refine ⟨_, rfl, k H2 x e2 (s2.mono (by omega)) (Nat.lt_of_lt_of_le hx (Nat.pow_le_pow_right (by decide) (by omega)))⟩
end
end Ws
/-! ## K14l -/
namespace Ws
open PySem PySem.Spec PyProof.Rows L2
local macro_rules | `(tactic| walk_at "nf") => `(tactic| dsimp only [tNext, tSeq, tDrop, tRet, tRetN, tIfS, tAsg, gName, gTup, gCons, gNil, tVar, tC, tOp, tUn, rI, rI0, rU, rEq, rNe, tTest, tChain, tAnd, tOr, tNot, tAndV, tOrV, tNotV, tIf, tCB, tCKw, tCons, tNil, tTup, tLst, tCa, tCallS, tB, rIxT, rIxL, rIxS, cxOf, Cx.nox, Cx.wish, Cx.blk, L2.start, tPar, tPar3, tNever, tYes, tBits, tRz, tBM, rAppend, tyV, tXf, suiteEnds, gSub, rSetL, tBreak, rMax, tDGet, sDPut, tSl, tNoPart, tPart, tDisp, tPairs])
local macro_rules | `(tactic| walk_at "sx") => `(tactic| simp only [wipe, List.cons.injEq, and_assoc, exists_and_left, and_true, List.map_cons, List.map_nil, List.length_cons, List.length_nil, List.cons_append, List.nil_append, List.append_nil, Nat.reduceAdd, Nat.reduceSub, List.replicate, List.getElem?_cons_zero, List.getElem?_cons_succ, List.set_cons_zero, List.set_cons_succ, Option.some.injEq, V.int.injEq, V.bl.injEq, V.ref.injEq, V.str.injEq, exists_eq_left', exists_eq_left, true_and, Bool.true_eq_false, Bool.false_eq_true, if_true, if_false])

/-! ### cycles -/
theorem pig : ∀ (n : Nat) (g : Nat → Nat), (∀ i, i ≤ n → g i < n) → ∃ i j, i < j ∧ j ≤ n ∧ g i = g j
  | 0, g, h => absurd (h 0 (Nat.le_refl _)) (by omega)
  | n + 1, g, h => by
    by_cases c : ∃ i, i ≤ n ∧ g i = g (n + 1)
    · obtain ⟨i, h1, h2⟩ := c
      exact ⟨i, n + 1, by omega, Nat.le_refl _, h2⟩
    · have c' : ∀ i, i ≤ n → g i ≠ g (n + 1) := fun i hi e => c ⟨i, hi, e⟩
      have hv := h (n + 1) (Nat.le_refl _)
      obtain ⟨i, j, h1, h2, h3⟩ := pig n (fun i => if g i = n then g (n + 1) else g i) (fun i hi => by
        have a1 := h i (by omega)
        have a2 := c' i hi
        by_cases e : g i = n
        · show (if g i = n then g (n + 1) else g i) < n
          rw [if_pos e]; omega
        · show (if g i = n then g (n + 1) else g i) < n
          rw [if_neg e]; omega)
      refine ⟨i, j, h1, by omega, ?_⟩
      have b1 := c' i (by omega)
      have b2 := c' j (by omega)
      have h3' : (if g i = n then g (n + 1) else g i) = (if g j = n then g (n + 1) else g j) := h3
      by_cases e1 : g i = n <;> by_cases e2 : g j = n
      · rw [e1, e2]
      · rw [if_pos e1, if_neg e2] at h3'
        exact absurd h3'.symm b2
      · rw [if_neg e1, if_pos e2] at h3'
        exact absurd h3' b1
      · rw [if_neg e1, if_neg e2] at h3'
        exact h3'
def it (f : Nat → Nat) : Nat → Nat → Nat
  | 0, x => x
  | k + 1, x => f (it f k x)
theorem it_succ (f : Nat → Nat) : ∀ k x, it f (k + 1) x = it f k (f x)
  | 0, x => rfl
  | k + 1, x => by
    show f (it f (k + 1) x) = f (it f k (f x))
    rw [it_succ f k x]
theorem it_add (f : Nat → Nat) (j : Nat) : ∀ k x, it f (k + j) x = it f k (it f j x)
  | 0, x => by rw [Nat.zero_add]; rfl
  | k + 1, x => by
    rw [Nat.succ_add]
    show f (it f (k + j) x) = f (it f k (it f j x))
    rw [it_add f j k x]
theorem it_lt {f : Nat → Nat} {n : Nat} (h : ∀ x, x < n → f x < n) : ∀ k {x : Nat}, x < n → it f k x < n
  | 0, x, hx => hx
  | k + 1, x, hx => h _ (it_lt h k hx)
def mn (g : Nat → Nat) : Nat → Nat
  | 0 => g 0
  | j + 1 => min (mn g j) (g (j + 1))
theorem mn_mem (g : Nat → Nat) : ∀ j, ∃ k, k ≤ j ∧ mn g j = g k
  | 0 => ⟨0, Nat.le_refl _, rfl⟩
  | j + 1 => by
    obtain ⟨k, h1, h2⟩ := mn_mem g j
    by_cases c : mn g j ≤ g (j + 1)
    · exact ⟨k, by omega, by show min _ _ = _; rw [Nat.min_eq_left c, h2]⟩
    · exact ⟨j + 1, Nat.le_refl _, by show min _ _ = _; rw [Nat.min_eq_right (by omega)]⟩
theorem mn_le (g : Nat → Nat) : ∀ j k, k ≤ j → mn g j ≤ g k
  | 0, k, h => by
    have : k = 0 := by omega
    subst this
    exact Nat.le_refl _
  | j + 1, k, h => by
    show min (mn g j) (g (j + 1)) ≤ g k
    by_cases c : k = j + 1
    · subst c; exact Nat.min_le_right _ _
    · exact Nat.le_trans (Nat.min_le_left _ _) (mn_le g j k (by omega))
theorem mn_eq {g h : Nat → Nat} {j : Nat} (h1 : ∀ k, k ≤ j → ∃ i, i ≤ j ∧ g k = h i) (h2 : ∀ k, k ≤ j → ∃ i, i ≤ j ∧ h k = g i) : mn g j = mn h j := by
  have le : ∀ {g h : Nat → Nat}, (∀ k, k ≤ j → ∃ i, i ≤ j ∧ g k = h i) → mn h j ≤ mn g j := fun {g h} hh => by
    obtain ⟨k, k1, k2⟩ := mn_mem g j
    obtain ⟨i, i1, i2⟩ := hh k k1
    rw [k2, i2]
    exact mn_le h j i i1
  exact Nat.le_antisymm (le h2) (le h1)
/-- the least state that x comes round to -/
def lst (f : Nat → Nat) (n x : Nat) : Nat := mn (fun j => it f (n + j) x) n
theorem lst_same {f : Nat → Nat} {n x : Nat} (h : ∀ x, x < n → f x < n) (hx : x < n) : lst f n (f x) = lst f n x := by
  obtain ⟨i, j, h1, h2, h3⟩ := pig n (fun k => it f k x) (fun k _ => it_lt h k hx)
  have per : ∀ m, it f (m + i) x = it f (m + j) x := fun m => by
    rw [it_add, it_add]
    exact congrArg (it f m) h3
  have per2 : ∀ k, i ≤ k → it f k x = it f (k + (j - i)) x := fun k hk => by
    have := per (k - i)
    rw [show k - i + i = k by omega, show k - i + j = k + (j - i) by omega] at this
    exact this
  refine mn_eq (fun k hk => ?_) (fun k hk => ?_)
  · show ∃ i', i' ≤ n ∧ it f (n + k) (f x) = it f (n + i') x
    rw [← it_succ]
    by_cases c : k < n
    · exact ⟨k + 1, by omega, rfl⟩
    · have e : k = n := by omega
      subst e
      refine ⟨k + 1 - (j - i), by omega, ?_⟩
      rw [per2 (k + (k + 1 - (j - i))) (by omega)]
      congr 1
      omega
  · show ∃ i', i' ≤ n ∧ it f (n + k) x = it f (n + i') (f x)
    by_cases c : k = 0
    · subst c
      refine ⟨j - i - 1, by omega, ?_⟩
      rw [← it_succ, per2 (n + 0) (by omega)]
      congr 1
      omega
    · refine ⟨k - 1, by omega, ?_⟩
      rw [← it_succ]
      congr 1
      omega
theorem lst_lt {f : Nat → Nat} {n x : Nat} (h : ∀ x, x < n → f x < n) (hx : x < n) : lst f n x < n := by
  obtain ⟨k, _, e⟩ := mn_mem (fun j => it f (n + j) x) n
  show mn _ n < n
  rw [e]
  exact it_lt h _ hx
def spMachine (K : PySem.W.Frag) : Sp := fun vs H Q _ => ∃ (a l c : Addr) (n many size : Nat), vs = [.ref a, .int many, .int size] ∧ LSt H a l c n ∧ n ≤ 900000 ∧ 1 ≤ many ∧ many ≤ 3 ∧ 1 ≤ size ∧ size ≤ 5 ∧
  ∀ H' u M, Sbt a l H H' → LSt H' a l c (n + 60) → Dp K H' u (machD M) → McOk M → M.many = many → M.steps.length = size → Q u H'
theorem Sbt.free {a l q : Addr} {H H' : Hp} (e : Sbt a l H H') (h : H' q = none) (na : q ≠ a) (nl : q ≠ l) : H q = none := by
  cases hq : H q with
  | none => rfl
  | some o =>
    have := e q o hq na nl
    rw [h] at this
    cases this
theorem dp_bools {K : PySem.W.Frag} {H : Hp} : ∀ bs : List Bool, DpAll K H (bs.map V.bl) (bs.map PyData.bool)
  | [] => .nil
  | b :: bs => .cons (.bl b) (dp_bools bs)
/-- a comprehension whose elements draw -/
theorem lcD {J : It} {n : Nat} {G : Hp → Prop} {Y : Nat → Hp → V → Hp → Prop} (w : Walk J n G Y) {g : TG} {te : TE} {vs : List Nat} {σ : L2.St} {H1 : Hp} {D : Addr} {Qd : Hp → Prop} {a l c : Addr} {m : Nat} (st : Nat) (hD : H1 D = none) (hn : n < sizeLine) (R : Nat → V → Prop)
    (hl : LSt H1 a l c m) (hG : ∀ H, G H)
    (hs : ∀ i x H H' (Q : VK), i < n → Sbt a l H1 H → LSt H a l c (m + i * st) → Y i H x H' → (∀ y H4, R i y → Sbt a l H H4 → LSt H4 a l c (m + (i + 1) * st) → Q y H4) → g x (wipe σ vs) H' fun σ2 H2 => wipe σ2 vs = wipe σ vs ∧ te σ2 H2 Q)
    (hd : ∀ H ys, Sbt a l H1 H → LSt H a l c (m + n * st) → H D = some (.lst ys) → ys.length = n → (∀ i y, ys[i]? = some y → R i y) → Qd H) :
    ∃ W : Nat → Nat → Hp → Prop, (∃ m, W 0 m (upd H1 D (.lst []))) ∧ ∀ i m H, W i m H →
      (J.stop i H ∧ Qd H) ∨ (J.go i H ∧ ∃ Nx : Hp → Prop, (∀ H', Nx H' → ∃ m', m' < m ∧ W (i + 1) m' H') ∧ ∀ x H', J.yld i H x H' → g x (wipe σ vs) H' fun σ2 H2 => wipe σ2 vs = wipe σ vs ∧ tYes σ2 H2 fun b H3 =>
        if b = true then te σ2 H3 fun y H4 => ∃ acc, H4 D = some (.lst acc) ∧ acc.length < sizeLine ∧ Nx (upd H4 D (.lst (acc ++ [y]))) else Nx H3) := by
  obtain ⟨da, dl, dc⟩ := hl.off hD
  refine lc_it w (fun i H => Sbt a l H1 H ∧ LSt H a l c (m + i * st) ∧ ∃ ys, H D = some (.lst ys) ∧ ys.length = i ∧ ∀ j y, ys[j]? = some y → R j y) ⟨(Sbt.refl H1).mut hD, by rw [Nat.zero_mul]; exact hl.new hD, [], upd_same, rfl, fun j y h => by simp at h⟩ (fun i H _ p => hG H) (fun i x H H' hi p y => ?_) (fun H p => ?_)
  · obtain ⟨s, sl, ys, hy, hlen, hr⟩ := p
    have q := hs i x H H' (fun y H4 => ∃ acc, H4 D = some (.lst acc) ∧ acc.length < sizeLine ∧ Sbt a l H1 (upd H4 D (.lst (acc ++ [y]))) ∧ LSt (upd H4 D (.lst (acc ++ [y]))) a l c (m + (i + 1) * st) ∧ ∃ ys, (upd H4 D (.lst (acc ++ [y]))) D = some (.lst ys) ∧ ys.length = i + 1 ∧ ∀ j y, ys[j]? = some y → R j y) hi s sl y (fun v H4 r s4 sl4 => ?_)
    · have e : (fun σ2 H2 => wipe σ2 vs = wipe σ vs ∧ tYes σ2 H2 fun b H3 =>
        if b = true then te σ2 H3 fun y H4 => ∃ acc, H4 D = some (.lst acc) ∧ acc.length < sizeLine ∧ Sbt a l H1 (upd H4 D (.lst (acc ++ [y]))) ∧ LSt (upd H4 D (.lst (acc ++ [y]))) a l c (m + (i + 1) * st) ∧ ∃ ys, (upd H4 D (.lst (acc ++ [y]))) D = some (.lst ys) ∧ ys.length = i + 1 ∧ ∀ j y, ys[j]? = some y → R j y
        else Sbt a l H1 H3 ∧ LSt H3 a l c (m + (i + 1) * st) ∧ ∃ ys, H3 D = some (.lst ys) ∧ ys.length = i + 1 ∧ ∀ j y, ys[j]? = some y → R j y) =
        (fun σ2 H2 => wipe σ2 vs = wipe σ vs ∧ te σ2 H2 fun y H4 => ∃ acc, H4 D = some (.lst acc) ∧ acc.length < sizeLine ∧ Sbt a l H1 (upd H4 D (.lst (acc ++ [y]))) ∧ LSt (upd H4 D (.lst (acc ++ [y]))) a l c (m + (i + 1) * st) ∧ ∃ ys, (upd H4 D (.lst (acc ++ [y]))) D = some (.lst ys) ∧ ys.length = i + 1 ∧ ∀ j y, ys[j]? = some y → R j y) := by
        funext σ2 H2
        simp only [tYes, if_true]
      rw [e]
      exact q
    · refine ⟨ys, s4 _ _ hy da dl, by omega, (Sbt.trans s s4).mut hD, sl4.put da dl dc, _, upd_same, by simp [hlen], fun j z hz => ?_⟩
      by_cases hj : j < ys.length
      · rw [List.getElem?_append_left hj] at hz
        exact hr j z hz
      · rw [List.getElem?_append_right (by omega)] at hz
        have e : j = i := by
          have := (List.getElem?_eq_some_iff.mp hz).1
          simp at this
          omega
        subst e
        rw [hlen, Nat.sub_self] at hz
        simp at hz
        rw [← hz]
        exact r
  · obtain ⟨s, sl, ys, hy, hlen, hr⟩ := p
    exact hd H ys s sl hy hlen hr
/-- items that are numbers below a bound -/
theorem ints_of {ys : List V} {b : Nat} (h : ∀ (i : Nat) (y : V), ys[i]? = some y → ∃ r : Nat, y = V.int r ∧ r < b) : ∃ cs : List Nat, ys = (nI cs).map V.int ∧ cs.length = ys.length ∧ ∀ c ∈ cs, c < b := by
  induction ys with
  | nil => exact ⟨[], rfl, rfl, fun c hc => absurd hc (by simp)⟩
  | cons y ys ih =>
    obtain ⟨cs, h1, h2, h3⟩ := ih fun i z hz => h (i + 1) z (by simpa using hz)
    obtain ⟨r, h4, h5⟩ := h 0 y rfl
    refine ⟨r :: cs, by rw [h4, h1]; rfl, by simp [h2], fun c hc => ?_⟩
    rcases List.mem_cons.mp hc with e | e
    · rw [e]; exact h5
    · exact h3 c e
theorem bools_of {ys : List V} (h : ∀ (i : Nat) (y : V), ys[i]? = some y → ∃ b : Bool, y = V.bl b) : ∃ bs : List Bool, ys = bs.map V.bl ∧ bs.length = ys.length := by
  induction ys with
  | nil => exact ⟨[], rfl, rfl⟩
  | cons y ys ih =>
    obtain ⟨bs, h1, h2⟩ := ih fun i z hz => h (i + 1) z (by simpa using hz)
    obtain ⟨b, h4⟩ := h 0 y rfl
    exact ⟨b :: bs, by rw [h4, h1]; rfl, by simp [h2]⟩
def fstep (rows : List (List Nat)) (x : Nat) : Nat := (rows.getD x []).getD 0 0
/-- i rows of the right length, their cells states -/
structure Rows (many size i : Nat) (rows : List (List Nat)) : Prop where
  len : rows.length = i
  row : ∀ r ∈ rows, r.length = 2 ^ many ∧ ∀ c ∈ r, c < size
abbrev s__law_machine : Stmt := top 37
abbrev nm__law_machine : List Str := ["state", "many_so", "size", "steps", "one", "signs", "ends", "here", "turn", "least", "column"]
abbrev pr__law_machine : List Str := ["state", "many_so", "size"]
theorem sc__law_machine : FnScope nm__law_machine pr__law_machine (defScope s__law_machine) := ⟨rfl, rfl, rfl, by decide +kernel, rfl, by decide +kernel, by decide +kernel⟩
section
variable {P : Program} {w : World} {K : PySem.W.Frag} {mg : Str → Option Value} {base : Heap}
theorem ok_machine (B : Bl mg) (F1 : Df P w K mg base CX0 2 "_law_draw" pr__law_draw spDraw) (F2 : Df P w K mg base CX0 1 "_law_width" pr__law_width spWidth) (D : Dt K mg "_law_machine" s__law_machine pr__law_machine) :
    Df P w K mg base CX0 3 "_law_machine" pr__law_machine (spMachine K) := by
  refine D.ok sc__law_machine (fun vs H Q E h => ?_) (fun f cdv A outer s H vs Q E hr h => ?_)
  · obtain ⟨a, l, c, n, many, size, rfl, _⟩ := h
    rfl
  · obtain ⟨a, l, c, n, many, size, rfl, hs, hn, m1, m2, z1, z2, k⟩ := h
    refine ⟨_, (pss_cons (ps_set (i := 3) sc__law_machine.nd rfl (Or.inl rfl) (pe_lst pa_nil)) (pss_cons (ps_for PassesOwn.never rfl (pi_range1 (by rfl) B.range (pa_cons (pv 2) pa_nil)) (pg_name (i := 4) sc__law_machine.nd rfl (Or.inl rfl)) (pss_one (ps_expr (pe_bm PySem.F.plainAttrs_list PySem.F.slot_list_append PySem.F.type_list_append mt_append (pv 3) (pa_cons (pe_callTy call_tuple_of (by rfl) B.tuple PyProof.Rows.boot_tuple (pa_cons (pe_lc (own := [("column", 10)]) (g := gName 10) (tt := tYes) (by rfl) sc__law_machine.nd (pi_range1 (by rfl) B.range (pa_cons (pe_f F2 (hr.mono (by decide)) pass0 (pa_cons (pv 1) pa_nil)) pa_nil)) (blkOk_by (own := [("column", 10)]) (N := nm__law_machine) (sc := defScope s__law_machine) (by decide +kernel)) (fun _ _ _ _ _ => pg_name (i := 10) sc__law_machine.nd rfl (Or.inl rfl)) (fun _ _ _ _ _ => pts_nil) (fun _ _ _ _ _ => (pe_f F1 (hr.mono (by decide)) pass0 (pa_cons (pv 0) (pa_cons (pv 2) pa_nil))))) pa_nil)) pa_nil))))) (pss_cons (ps_setLc (i := 5) (own := [("one", 4)]) (g := gName 4) (tt := tYes) rfl sc__law_machine.nd rfl rfl (sw_true rfl rfl rfl (by decide +kernel)) (pi_range1 (by rfl) B.range (pa_cons (pv 2) pa_nil)) (blkOk_by (own := [("one", 4)]) (N := nm__law_machine) (sc := defScope s__law_machine) (by decide +kernel)) (fun _ _ _ _ _ => pg_name (i := 4) sc__law_machine.nd rfl (Or.inl rfl)) (fun _ _ _ _ _ => pts_nil) (fun _ _ _ _ _ => (pe_cmpR op_eq (pe_f F1 (hr.mono (by decide)) pass0 (pa_cons (pv 0) (pa_cons pe_int pa_nil))) pe_int (nomark _)))) (pss_cons (ps_set (i := 6) sc__law_machine.nd rfl (Or.inl rfl) (pe_lst pa_nil)) (pss_cons (ps_for PassesOwn.never rfl (pi_range1 (by rfl) B.range (pa_cons (pv 2) pa_nil)) (pg_name (i := 4) sc__law_machine.nd rfl (Or.inl rfl)) (pss_cons (ps_set (i := 7) sc__law_machine.nd rfl (Or.inl rfl) (pv 4)) (pss_cons (ps_for PassesOwn.never rfl (pi_range1 (by rfl) B.range (pa_cons (pv 2) pa_nil)) (pg_name (i := 8) sc__law_machine.nd rfl (Or.inl rfl)) (pss_one (ps_set (i := 7) sc__law_machine.nd rfl (Or.inl rfl) (pe_ix ix_tup (pe_ix ix_list (pv 3) (pv 7) (fun _ _ => rfl)) pe_int (fun _ _ => rfl))))) (pss_cons (ps_set (i := 9) sc__law_machine.nd rfl (Or.inl rfl) (pv 7)) (pss_cons (ps_for PassesOwn.never rfl (pi_range1 (by rfl) B.range (pa_cons (pv 2) pa_nil)) (pg_name (i := 8) sc__law_machine.nd rfl (Or.inl rfl)) (pss_cons (ps_set (i := 7) sc__law_machine.nd rfl (Or.inl rfl) (pe_ix ix_tup (pe_ix ix_list (pv 3) (pv 7) (fun _ _ => rfl)) pe_int (fun _ _ => rfl))) (pss_one (ps_set (i := 9) sc__law_machine.nd rfl (Or.inl rfl) (pe_callB (call_min2 rfl) (by rfl) B.min boot_min (pa_cons (pv 9) (pa_cons (pv 7) pa_nil))))))) (pss_one (ps_expr (pe_bm PySem.F.plainAttrs_list PySem.F.slot_list_append PySem.F.type_list_append mt_append (pv 6) (pa_cons (pe_ix ix_list (pv 5) (pv 9) (fun _ _ => rfl)) pa_nil))))))))) (pss_one (ps_ret (pe_tup (pa_cons (pv 1) (pa_cons (pe_callTy call_tuple_of (by rfl) B.tuple PyProof.Rows.boot_tuple (pa_cons (pv 3) pa_nil)) (pa_cons (pe_callTy call_tuple_of (by rfl) B.tuple PyProof.Rows.boot_tuple (pa_cons (pv 6) pa_nil)) pa_nil))))))))))), ?_⟩
    walk_at "nf"
    walk_at "sx"
    refine ⟨by decide, fun p hp => ?_⟩
    obtain ⟨pa, pl, pc⟩ := hs.off hp
    have e0 : Sbt a l H (upd H p (HO.lst [])) := (Sbt.refl H).mut hp
    refine ⟨_, rfl, _, rfl, by omega, by omega, for_it walk_range (fun i σ H' => ∃ v4 rows vs, σ = [some (.ref a), some (.int many), some (.int size), some (.ref p), v4, none, none, none, none, none, none] ∧ Sbt a l H H' ∧ LSt H' a l c (n + i * 8) ∧ H' p = some (.lst vs) ∧ DpAll K H' vs (rows.map rowD) ∧ Rows many size i rows)
      ⟨_, [], [], rfl, e0, hs.new hp, upd_same, .nil, rfl, fun r hr => absurd hr (by simp)⟩ (fun _ _ _ _ _ => trivial) ?_ ?_⟩
    · rintro i x σ H1 H2 hi ⟨v4, rows, vs, rfl, e1, s1, hp1, ha1, hr1⟩ ⟨rfl, rfl⟩
      try walk_at "nf"
      simp only [Int.zero_add]
      try walk_at "sx"
      refine ⟨.inl ⟨_, .of hp1⟩, ?_⟩
      have hw8 : (2 : Nat) ^ many ≤ 8 := Nat.pow_le_pow_right (by decide) m2
      have hwi : ((2 ^ many : Nat) : Int) ≤ 8 := by exact_mod_cast hw8
      have hw0 : (0 : Int) ≤ ((2 ^ many : Nat) : Int) := Int.natCast_nonneg _
      refine ⟨_, rfl, many, rfl, by omega, fun H3 e3 => ⟨_, rfl, by omega, by omega, fun D hD => ?_⟩⟩
      rw [Int.toNat_natCast]
      have s3 := s1.same e3
      refine lcD walk_range 1 hD (slt (Nat.lt_of_le_of_lt hw8 (by decide))) (fun _ y => ∃ r : Nat, y = V.int r ∧ r < size) s3 (fun _ => trivial) (fun j x H4 H5 Q1 hj e4 s4 y q => ?_) (fun H4 ys e4 s4 hD4 hn4 hR4 => ?_)
      · obtain ⟨rfl, rfl⟩ := y
        try walk_at "nf"
        try walk_at "sx"
        refine ⟨a, l, c, _, _, rfl, s4, by omega, by omega, by omega, fun H6 r e6 s6 r1 r2 => ?_⟩
        exact q _ _ ⟨r.toNat, by rw [Int.toNat_of_nonneg r1], by omega⟩ e6 (s6.mono (by omega))
      · obtain ⟨cs, rfl, hcl, hcb⟩ := ints_of (b := size) hR4
        refine ⟨D, rfl, _, .inl ⟨.of hD4, fun t ht => ?_⟩⟩
        have e24 : Sbt a l H2 H4 := (Sbt.of e3).trans e4
        have hp4 : H4 p = some (.lst vs) := e24 _ _ hp1 pa pl
        have ha4 := keepTs e24 s1 _ _ (noList_rows rows) ha1
        have npt : p ≠ t := ne_of_none hp4 ht
        have hp5 : upd H4 t (HO.tup ((nI cs).map V.int)) p = some (.lst vs) := by rw [upd_ne npt]; exact hp4
        have ha5 : DpAll K (upd H4 t (HO.tup ((nI cs).map V.int))) vs (rows.map rowD) := ha4.to (Same.new ht)
        have hln := ha1.length
        rw [List.length_map, hr1.len] at hln
        have hn4' : cs.length = 2 ^ many := by rw [hcl]; exact hn4
        refine ⟨vs, hp5, slt (by omega), ((e1.trans e24).same (Same.new ht)).mut hp, ((s4.new ht).put pa pl pc).mono (by omega), rows ++ [cs], _, upd_same, ?_, ?_⟩
        · rw [List.map_append]
          exact (keepLs hp5 (noList_rows rows) ha5).snoc (keepL hp5 (noList_row cs) (Dp.tup_ints (.of upd_same)))
        · refine ⟨by rw [List.length_append, hr1.len]; rfl, fun r hr => ?_⟩
          rcases List.mem_append.mp hr with hr | hr
          · exact hr1.row r hr
          · obtain rfl : r = cs := by simpa using hr
            exact ⟨hn4', hcb⟩
    · rintro σ H1 ⟨v4, rows, vs, rfl, e1, s1, hp1, ha1, hr1⟩
      simp only [Int.toNat_natCast, Int.sub_zero] at s1 hr1
      try walk_at "nf"
      try walk_at "sx"
      refine ⟨_, rfl, _, rfl, by omega, by omega, fun D hD => ?_⟩
      simp only [Int.toNat_natCast, Int.sub_zero]
      obtain ⟨da, dl, dc⟩ := s1.off hD
      refine lcD walk_range 1 hD (slt (by omega)) (fun _ y => ∃ b : Bool, y = V.bl b) s1 (fun _ => trivial) (fun j x H4 H5 Q1 hj e4 s4 y q => ?_) (fun H4 ys e4 s4 hD4 hn4 hR4 => ?_)
      · obtain ⟨rfl, rfl⟩ := y
        try walk_at "nf"
        try walk_at "sx"
        refine ⟨a, l, c, _, 2, rfl, s4, by omega, by decide, by decide, fun H6 r e6 s6 r1 r2 => ⟨rfl, ?_⟩⟩
        exact q _ _ ⟨_, rfl⟩ e6 (s6.mono (by omega))
      · obtain ⟨bs, rfl, hbl⟩ := bools_of hR4
        try walk_at "nf"
        try walk_at "sx"
        refine ⟨by decide, fun q hq => ?_⟩
        have nDp : D ≠ p := fun z => by rw [z, hp1] at hD; cases hD
        have hp4 : H4 p = some (.lst vs) := e4 _ _ hp1 pa pl
        have ha4 := keepTs e4 s1 _ _ (noList_rows rows) ha1
        obtain ⟨qa, ql, qc⟩ := s4.off hq
        have hq0 : H q = none := (e1.trans e4).free hq qa ql
        have hbs : bs.length = size := by rw [hbl]; exact hn4
        have fl : ∀ x, x < size → fstep rows x < size := fun x hx => by
          have hx2 : x < rows.length := by rw [hr1.len]; exact hx
          obtain ⟨r1, r2⟩ := hr1.row (rows.getD x []) (by simp [hx2])
          have hw0 := Nat.two_pow_pos many
          refine r2 _ ?_
          have : 0 < (rows.getD x []).length := by omega
          unfold fstep
          generalize rows.getD x [] = rr at this ⊢
          simp [this]
        have cell : ∀ {H' : Hp} {x : Nat}, x < size → DpAll K H' vs (rows.map rowD) → ∃ r, atI vs (x : Int) = some (.ref r) ∧ ∃ zs, SqT K H' r zs ∧ atI zs 0 = some (.int ((fstep rows x : Nat) : Int)) := fun {H' x} hx hA => by
          have hx2 : x < rows.length := by rw [hr1.len]; exact hx
          obtain ⟨u, g1, g2, g3⟩ := hA.at_ (i := x) (by rw [List.length_map]; exact hx2)
          rw [getD_map rowD rows x [] .none hx2] at g3
          obtain ⟨r, rfl, g4⟩ := g3.ints_tup
          obtain ⟨r1, r2⟩ := hr1.row (rows.getD x []) (by simp [hx2])
          have hw0 := Nat.two_pow_pos many
          refine ⟨r, g2, _, g4, ?_⟩
          have h0 : 0 < (rows.getD x []).length := by omega
          unfold fstep
          generalize rows.getD x [] = rr at h0 ⊢
          cases rr with
          | nil => cases h0
          | cons z zs => exact atI_nat (j := 0) (by simp [nI])
        refine ⟨_, rfl, _, rfl, by omega, by omega, for_it walk_range (fun i σ H' => ∃ v4 v7 v8 v9, σ = [some (.ref a), some (.int many), some (.int size), some (.ref p), v4, some (.ref D), some (.ref q), v7, v8, v9, none] ∧ Sbt a l H H' ∧ LSt H' a l c (n + size * 8 + size * 1) ∧ H' p = some (.lst vs) ∧ DpAll K H' vs (rows.map rowD) ∧
            H' D = some (.lst (bs.map V.bl)) ∧ H' q = some (.lst (((List.range i).map fun x => bs.getD (lst (fstep rows) size x) false).map V.bl)))
          ⟨_, _, _, _, rfl, (e1.trans e4).same (Same.new hq), s4.new hq, by rw [upd_ne (ne_of_none hp4 hq)]; exact hp4, ha4.to (Same.new hq), by rw [upd_ne (ne_of_none hD4 hq)]; exact hD4, upd_same⟩ (fun _ _ _ _ _ => trivial) ?_ ?_⟩
        · rintro i x σ H5 H6 hi ⟨v4, v7, v8, v9, rfl, e5, s5, hp5, ha5, hD5, hq5⟩ ⟨rfl, rfl⟩
          have hi2 : i < size := by omega
          try walk_at "nf"
          simp only [Int.zero_add]
          try walk_at "sx"
          refine ⟨_, rfl, _, rfl, by omega, by omega, for_it walk_range (fun k σ H' => ∃ v8, σ = [some (.ref a), some (.int many), some (.int size), some (.ref p), some (.int i), some (.ref D), some (.ref q), some (.int (it (fstep rows) k i : Nat)), v8, v9, none] ∧ H' = H6)
            ⟨_, rfl, rfl⟩ (fun _ _ _ _ _ => trivial) ?_ ?_⟩
          · rintro j x σ H7 H8 hj ⟨v8, rfl, rfl⟩ ⟨rfl, rfl⟩
            obtain ⟨r, c1, zs, c2, c3⟩ := cell (it_lt fl j hi2) ha5
            try walk_at "nf"
            try walk_at "sx"
            exact ⟨_, .of hp5, _, c1, r, rfl, zs, c2, _, c3, rfl, _, rfl⟩
          · rintro σ H7 ⟨v8, rfl, rfl⟩
            try walk_at "nf"
            try walk_at "sx"
            refine ⟨_, rfl, _, rfl, by omega, by omega, for_it walk_range (fun k σ H' => ∃ v8, σ = [some (.ref a), some (.int many), some (.int size), some (.ref p), some (.int i), some (.ref D), some (.ref q), some (.int (it (fstep rows) (size + k) i : Nat)), v8, some (.int (mn (fun j => it (fstep rows) (size + j) i) k : Nat)), none] ∧ H' = H7)
              ⟨_, rfl, rfl⟩ (fun _ _ _ _ _ => trivial) ?_ ?_⟩
            · rintro j x σ H8 H9 hj ⟨v8, rfl, rfl⟩ ⟨rfl, rfl⟩
              obtain ⟨r, c1, zs, c2, c3⟩ := cell (it_lt fl (size + j) hi2) ha5
              try walk_at "nf"
              try walk_at "sx"
              refine ⟨_, .of hp5, _, c1, r, rfl, zs, c2, _, c3, _, rfl, rfl, ?_⟩
              show (if _ then _ else _) = ((min (mn (fun j => it (fstep rows) (size + j) i) j) (it (fstep rows) (size + (j + 1)) i) : Nat) : Int)
              rw [show it (fstep rows) (size + (j + 1)) i = fstep rows (it (fstep rows) (size + j) i) from rfl]
              generalize mn (fun j => it (fstep rows) (size + j) i) j = A
              generalize fstep rows (it (fstep rows) (size + j) i) = B
              by_cases cc : (B : Int) < (A : Int)
              · rw [if_pos cc, Nat.min_eq_right (by omega)]
              · rw [if_neg cc, Nat.min_eq_left (by omega)]
            · rintro σ H8 ⟨v8, rfl, rfl⟩
              have hls : lst (fstep rows) size i < bs.length := by rw [hbs]; exact lst_lt fl hi2
              have hat : atI (bs.map V.bl) ((lst (fstep rows) size i : Nat) : Int) = some (.bl (bs.getD (lst (fstep rows) size i) false)) := atI_nat (by simp [hls])
              have nqp : q ≠ p := fun z => by rw [z, hp4] at hq; cases hq
              have nqD : q ≠ D := fun z => by rw [z, hD4] at hq; cases hq
              try walk_at "nf"
              try walk_at "sx"
              simp only [Int.toNat_natCast, Int.sub_zero]
              refine ⟨.inl ⟨_, .of hq5⟩, _, .of hD5, _, hat, _, hq5, ?_, ?_⟩
              · rw [List.length_map, List.length_map, List.length_range]
                exact slt (by omega)
              · refine ⟨e5.mut hq0, s5.put qa ql qc, by rw [upd_ne (Ne.symm nqp)]; exact hp5, keepLs hq5 (noList_rows rows) ha5, by rw [upd_ne (Ne.symm nqD)]; exact hD5, ?_⟩
                rw [upd_same, List.range_succ, List.map_append, List.map_append]
                rfl
        · rintro σ H5 ⟨v4, v7, v8, v9, rfl, e5, s5, hp5, ha5, hD5, hq5⟩
          simp only [Int.toNat_natCast, Int.sub_zero] at hq5
          try walk_at "nf"
          try walk_at "sx"
          refine ⟨_, .inl ⟨.of hp5, fun t ht => ⟨_, .inl ⟨.of (by rw [upd_ne (ne_of_none hq5 ht)]; exact hq5), fun t2 ht2 => ⟨by decide, fun t3 ht3 => ?_⟩⟩⟩⟩⟩
          have nt2 : t ≠ t2 := ne_of_none upd_same ht2
          have g2 : upd (upd H5 t (HO.tup vs)) t2 (HO.tup (((List.range size).map fun x => bs.getD (lst (fstep rows) size x) false).map V.bl)) t = some (.tup vs) := by rw [upd_ne nt2, upd_same]
          have g3 := ne_of_none g2 ht3
          have g4 : t2 ≠ t3 := ne_of_none upd_same ht3
          have sm : Same H5 (upd (upd (upd H5 t (HO.tup vs)) t2 (HO.tup (((List.range size).map fun x => bs.getD (lst (fstep rows) size x) false).map V.bl))) t3 (HO.tup [V.int ↑many, V.ref t, V.ref t2])) := ((Same.new ht).then_new ht2).then_new ht3
          refine k _ _ ⟨many, rows, (List.range size).map fun x => bs.getD (lst (fstep rows) size x) false⟩ (e5.same sm) ((s5.same sm).mono (by omega)) ?_ ?_ rfl hr1.len
          · refine .tup (.of upd_same) (.cons (.int _) (.cons (.tup (.of (by rw [upd_ne g3]; exact g2)) (ha5.to sm)) (.cons (.tup (.of (by rw [upd_ne g4, upd_same])) (dp_bools _)) .nil)))
          · have len := hr1.len
            refine ⟨m1, by show many ≤ 4; omega, by show 1 ≤ rows.length; omega, by show rows.length ≤ 600; omega, fun x hx => ?_, fun x y hx hy => ?_, by simp [len], fun x hx => ?_⟩
            · have hx2 : x < rows.length := hx
              exact (hr1.row (rows.getD x []) (by simp [hx2])).1
            · have hx2 : x < rows.length := hx
              obtain ⟨r1, r2⟩ := hr1.row (rows.getD x []) (by simp [hx2])
              show (rows.getD x []).getD y 0 < rows.length
              rw [len]
              replace hy : y < 2 ^ many := hy
              refine r2 _ ?_
              generalize rows.getD x [] = rr at r1 ⊢
              have : y < rr.length := by omega
              simp [this]
            · have hx2 : x < size := by rw [← len]; exact hx
              have hf := fl x hx2
              show ((List.range size).map fun x => bs.getD (lst (fstep rows) size x) false).getD (fstep rows x) false = ((List.range size).map fun x => bs.getD (lst (fstep rows) size x) false).getD x false
              rw [getD_map (fun x => bs.getD (lst (fstep rows) size x) false) (List.range size) (fstep rows x) 0 false (by simpa using hf), getD_map (fun x => bs.getD (lst (fstep rows) size x) false) (List.range size) x 0 false (by simpa using hx2)]
              have i1 : (List.range size).getD (fstep rows x) 0 = fstep rows x := by simp [hf]
              have i2 : (List.range size).getD x 0 = x := by simp [hx2]
              rw [i1, i2, lst_same fl hx2]
end
end Ws
/-! ## K14m -/
namespace Ws
open PySem PySem.Spec PyProof.Rows L2
local macro_rules | `(tactic| walk_at "nf") => `(tactic| dsimp only [tNext, tSeq, tDrop, tRet, tRetN, tIfS, tAsg, gName, gTup, gCons, gNil, tVar, tC, tOp, tUn, rI, rI0, rU, rEq, rNe, tTest, tChain, tAnd, tOr, tNot, tAndV, tOrV, tNotV, tIf, tCB, tCKw, tCons, tNil, tTup, tLst, tCa, tCallS, tB, rIxT, rIxL, rIxS, cxOf, Cx.nox, Cx.wish, Cx.blk, L2.start, tPar, tPar3, tNever, tYes, tBits, tRz, tBM, rAppend, tyV, tXf, suiteEnds, gSub, rSetL, tBreak, rMax, tDGet, sDPut, tSl, tNoPart, tPart, tDisp, tPairs])
local macro_rules | `(tactic| walk_at "sx") => `(tactic| simp only [wipe, List.cons.injEq, and_assoc, exists_and_left, and_true, List.map_cons, List.map_nil, List.length_cons, List.length_nil, List.cons_append, List.nil_append, List.append_nil, Nat.reduceAdd, Nat.reduceSub, List.replicate, List.getElem?_cons_zero, List.getElem?_cons_succ, List.set_cons_zero, List.set_cons_succ, Option.some.injEq, V.int.injEq, V.bl.injEq, V.ref.injEq, V.str.injEq, exists_eq_left', exists_eq_left, true_and, Bool.true_eq_false, Bool.false_eq_true, if_true, if_false])

section
variable {K : PySem.W.Frag} {H : Hp}
theorem cat_ok {a b : Addr} {xs ys : List V} {Q : VK} (h1 : SqT K H a xs) (h2 : SqT K H b ys) (hz : xs.length + ys.length ≤ sizeLine) (q : ∀ r H', Same H H' → SqT K H' r (xs ++ ys) → Q (.ref r) H') : rCatA K (.ref a) (.ref b) H Q := by
  refine ⟨a, b, xs, ys, rfl, rfl, h1, h2, hz, fun e => ?_, fun _ e => ?_, fun _ _ p hp => q p _ (Same.new hp) (.of upd_same)⟩
  · subst e
    exact q b H (Same.refl _) h2
  · subst e
    exact q a H (Same.refl _) (by rw [List.append_nil]; exact h1)
theorem sl_ok {a : Addr} {xs : List V} {lo hi : Option Int} {Q : VK} (h1 : SqT K H a xs) (q : ∀ r H', Same H H' → SqT K H' r (cutV xs lo hi) → Q (.ref r) H') : rSlA K (.ref a) lo hi H Q := by
  refine ⟨a, xs, rfl, h1, fun e => q a H (Same.refl _) ?_, fun _ p hp => q p _ (Same.new hp) (.of upd_same)⟩
  have : cutV xs lo hi = xs := by
    unfold cutV
    rw [e.1, e.2]
    simp
  rw [this]
  exact h1
theorem DpAll_cut {xs : List V} {ds : List PyData} (h : DpAll K H xs ds) (lo hi : Option Int) : ∃ es, DpAll K H (cutV xs lo hi) es ∧ (∀ d ∈ es, d ∈ ds) :=
  ⟨_, (h.drop _).take _, fun d hd => List.mem_of_mem_drop (List.mem_of_mem_take hd)⟩
end
theorem _root_.L2.SqT.to' {K : PySem.W.Frag} {H H' : Hp} {a : Addr} {xs : List V} (h : SqT K H a xs) (e : Same H H') : SqT K H' a xs := e.seqT h
/-! ### data that stays while the state, the lists of H0 change -/
def IsT (o : HO) : Prop := (∃ xs, o = .tup xs) ∨ ∃ ob u, o = .frz ob u
def Kp (H0 H H' : Hp) : Prop := ∀ b o, H b = some o → (H0 b = none ∨ IsT o) → H' b = some o
theorem Kp.refl {H0 H : Hp} : Kp H0 H H := fun _ _ e _ => e
theorem Kp.trans {H0 H H1 H2 : Hp} (h : Kp H0 H H1) (k : Kp H0 H1 H2) : Kp H0 H H2 := fun b o e c => k b o (h b o e c) c
theorem Kp.same {H0 H H1 : Hp} (h : Same H H1) : Kp H0 H H1 := fun b o e _ => h b o e
theorem Kp.sbt {H0 H H1 : Hp} {a l c : Addr} {n : Nat} (h : Sbt a l H H1) (s : LSt H a l c n) (ha : H0 a ≠ none) (hl : H0 l ≠ none) : Kp H0 H H1 := fun b o e k => by
  have nt : ∀ {x : Addr}, NoT H x → H0 x ≠ none → b ≠ x := fun {x} hn h0 z => by
    subst z
    rcases k with k | ⟨xs, k⟩ | ⟨ob, u, k⟩
    · exact h0 k
    · exact hn.tup xs (by rw [e, k])
    · exact hn.frz ob u (by rw [e, k])
  exact h b o e (nt s.noA ha) (nt s.noL hl)
theorem Kp.put {H0 H : Hp} {p : Addr} {xs : List V} {o : HO} (hp : H p = some (.lst xs)) (h0 : H0 p ≠ none) : Kp H0 H (upd H p o) := fun b u e k => by
  have : b ≠ p := fun z => by
    subst z
    rcases k with k | ⟨ys, k⟩ | ⟨ob, w, k⟩
    · exact h0 k
    · rw [hp] at e; cases e; cases k
    · rw [hp] at e; cases e; cases k
  rw [upd_ne this]
  exact e
def DpN (H0 : Hp) (K : PySem.W.Frag) (H : Hp) (v : V) (d : PyData) : Prop := ∀ H', Kp H0 H H' → Dp K H' v d
theorem DpN.dp {H0 H : Hp} {K : PySem.W.Frag} {v : V} {d : PyData} (h : DpN H0 K H v d) : Dp K H v d := h H .refl
theorem DpN.step {H0 H H' : Hp} {K : PySem.W.Frag} {v : V} {d : PyData} (h : DpN H0 K H v d) (e : Kp H0 H H') : DpN H0 K H' v d := fun H2 k => h H2 (e.trans k)
theorem DpN.base {H0 H1 H : Hp} {K : PySem.W.Frag} {v : V} {d : PyData} (h : DpN H1 K H v d) (e : ∀ b, H1 b = none → H0 b = none) : DpN H0 K H v d := fun H2 k => h H2 fun b o x y => k b o x (y.imp (e b) id)
theorem seqTK {H0 H H' : Hp} {K : PySem.W.Frag} {b : Addr} {xs : List V} (e : Kp H0 H H') (h : SqT K H b xs) : SqT K H' b xs := by
  rcases h with (h | ⟨o, h⟩) | h
  · exact .inl (.inl (e _ _ h (.inr (.inl ⟨_, rfl⟩))))
  · exact .inl (.inr ⟨o, e _ _ h (.inr (.inr ⟨_, _, rfl⟩))⟩)
  · exact .inr h
mutual
theorem DpN.flat {H0 H : Hp} {K : PySem.W.Frag} : ∀ (d : PyData) (v : V), noList d = true → Dp K H v d → DpN H0 K H v d
  | .none, _, _, h => by cases h; exact fun _ _ => .non
  | .bool b, _, _, h => by cases h; exact fun _ _ => .bl b
  | .int i, _, _, h => by cases h; exact fun _ _ => .int i
  | .str x, _, _, h => by cases h; exact fun _ _ => .str x
  | .list ds, _, q, h => by cases q
  | .tuple ds, _, q, h => by
    cases h with
    | tup hs ha => exact fun H' e => .tup (seqTK e hs) (DpN.flats ds _ (by simpa only [noList] using q) ha H' e)
  | .dict _, _, _, h => by cases h
theorem DpN.flats {H0 H : Hp} {K : PySem.W.Frag} : ∀ (ds : List PyData) (vs : List V), noListAll ds = true → DpAll K H vs ds → ∀ H', Kp H0 H H' → DpAll K H' vs ds
  | [], _, _, h, _, _ => by cases h; exact .nil
  | d :: ds, _, q, h, H', e => by
    cases h with
    | cons h1 h2 =>
      simp only [noListAll, Bool.and_eq_true] at q
      exact .cons (DpN.flat d _ q.1 h1 H' e) (DpN.flats ds _ q.2 h2 H' e)
end
def spOddRow (K : PySem.W.Frag) : Sp := fun vs H Q _ => ∃ (a l c : Addr) (n size : Nat) (rv : V) (ns : List Nat), vs = [.ref a, rv, .int size] ∧ LSt H a l c n ∧ n ≤ 900000 ∧ Dp K H rv (rowD ns) ∧ 1 ≤ ns.length ∧ ns.length ≤ 16 ∧
  ∀ H' v d, Sbt a l H H' → LSt H' a l c (n + 2) → DpN H K H' v d → Q v H'
def spSpoilt (K : PySem.W.Frag) : Sp := fun vs H Q _ => ∃ (a l c : Addr) (n : Nat) (mv : V) (M : Mc), vs = [.ref a, mv] ∧ LSt H a l c n ∧ n ≤ 800000 ∧ Dp K H mv (machD M) ∧ McOk M ∧ M.steps.length ≤ 5 ∧
  ∀ H' u d, Sbt a l H H' → LSt H' a l c (n + 40) → Dp K H' u d → Q u H'
def spBegin (K : PySem.W.Frag) : Sp := fun vs H Q _ => ∃ (p : Addr) (is : List Int), vs = [.ref p] ∧ SqL K H p (is.map V.int) ∧ is.length ≤ 1000 ∧ ∀ H' a l c, Same H H' → LSt H' a l c 0 → Q (.ref a) H'
abbrev s__law_begin : Stmt := top 33
abbrev nm__law_begin : List Str := ["script", "cells_so", "cell"]
abbrev pr__law_begin : List Str := ["script"]
theorem sc__law_begin : FnScope nm__law_begin pr__law_begin (defScope s__law_begin) := ⟨rfl, rfl, rfl, by decide +kernel, rfl, by decide +kernel, by decide +kernel⟩
abbrev s__law_odd_row : Stmt := top 43
abbrev nm__law_odd_row : List Str := ["state", "row", "size", "pick", "at"]
abbrev pr__law_odd_row : List Str := ["state", "row", "size"]
theorem sc__law_odd_row : FnScope nm__law_odd_row pr__law_odd_row (defScope s__law_odd_row) := ⟨rfl, rfl, rfl, by decide +kernel, rfl, by decide +kernel, by decide +kernel⟩
section
variable {P : Program} {w : World} {K : PySem.W.Frag} {mg : Str → Option Value} {base : Heap}
theorem odd_at {size : Nat} {r : Int} (h1 : 0 ≤ r) (h2 : r < 5) : ∃ x d, atI [V.int (-1), V.int size, V.bl true, V.non, V.str "0"] r = some x ∧ (∀ H, Dp K H x d) ∧ noList d = true := by
  have : r = 0 ∨ r = 1 ∨ r = 2 ∨ r = 3 ∨ r = 4 := by omega
  rcases this with rfl | rfl | rfl | rfl | rfl
  · exact ⟨_, _, rfl, fun _ => .int _, rfl⟩
  · exact ⟨_, _, rfl, fun _ => .int _, rfl⟩
  · exact ⟨_, _, rfl, fun _ => .bl _, rfl⟩
  · exact ⟨_, _, rfl, fun _ => .non, rfl⟩
  · exact ⟨_, _, rfl, fun _ => .str _, rfl⟩
theorem _root_.L2.SqT.cast {H : Hp} {a : Addr} {xs ys : List V} (h : SqT K H a xs) (e : xs = ys) : SqT K H a ys := by rw [← e]; exact h
theorem canLay_ints : ∀ is : List Int, PyData.canLayAll0 (is.map PyData.int) = true
  | [] => rfl
  | i :: is => by
    simp only [List.map_cons, PyData.canLayAll0, PyData.canLay0, Bool.true_and]
    exact canLay_ints is
theorem shaped_ints (is : List Int) : SeqAt.shaped (.list (is.map PyData.int)) = true := by
  unfold SeqAt.shaped
  simp only [PyData.canLay0, canLay_ints, PyData.depth, depth_ints, Bool.true_and]
  rfl
theorem ints_any {ys : List V} (h : ∀ (i : Nat) (y : V), ys[i]? = some y → ∃ z : Int, y = .int z) : ∃ zs : List Int, ys = zs.map V.int ∧ zs.length = ys.length := by
  induction ys with
  | nil => exact ⟨[], rfl, rfl⟩
  | cons y ys ih =>
    obtain ⟨zs, h1, h2⟩ := ih fun i z hz => h (i + 1) z (by simpa using hz)
    obtain ⟨b, h4⟩ := h 0 y rfl
    exact ⟨b :: zs, by rw [h4, h1]; rfl, by simp [h2]⟩
theorem ok_begin (B : Bl mg) (D : Dt K mg "_law_begin" s__law_begin pr__law_begin) : Df P w K mg base CX0 1 "_law_begin" pr__law_begin (spBegin K) := by
  refine D.ok sc__law_begin (fun vs H Q E h => ?_) (fun f cdv A outer s H vs Q E hr h => ?_)
  · obtain ⟨p, is, rfl, _⟩ := h
    rfl
  · obtain ⟨p, is, rfl, hs, hl, k⟩ := h
    refine ⟨_, (pss_cons (ps_set (i := 1) sc__law_begin.nd rfl (Or.inl rfl) (pe_ifExp (pt_cmpR (op_neD hr.units) (pv 0) (pe_lst pa_nil) (nomark _)) (pe_callTy call_list_of (by rfl) B.list PyProof.Rows.boot_list (pa_cons (pv 0) pa_nil)) (pe_lst (pa_cons pe_int pa_nil)))) (pss_one (ps_ret (pe_disp (pps_cons pe_str (pv 1) (pps_cons pe_str (pe_lc (own := [("cell", 2)]) (g := gName 2) (tt := tYes) (by rfl) sc__law_begin.nd (pi_list (pv 1)) (blkOk_by (own := [("cell", 2)]) (N := nm__law_begin) (sc := defScope s__law_begin) (by decide +kernel)) (fun _ _ _ _ _ => pg_name (i := 2) sc__law_begin.nd rfl (Or.inl rfl)) (fun _ _ _ _ _ => pts_nil) (fun _ _ _ _ _ => (pe_ifExp (pt_cmpR op_ge (pv 2) (pe_op op_pow pe_int pe_int) (nomark _)) (pv 2) pe_int))) (pps_cons pe_str pe_int pps_nil))) (by rfl) (by rfl) (fun z => by cases z) (by decide))))), ?_⟩
    walk_at "nf"
    walk_at "sx"
    have fin : ∀ (G : Hp) (l : Addr) (zs : List Int), Same H G → G l = some (.lst (zs.map V.int)) → 0 < zs.length → zs.length ≤ 1000 → ∀ p2, G p2 = none →
        tLc (iList K (tVar 1)) (gName 2) tYes (tIf (tTest (tOp (rI0 fun i j => V.bl (decide (j ≤ i))) (tVar 2) (tOp (rI CPow fun i j => V.int (i ^ j.toNat)) (tC (V.int 10)) (tC (V.int 18))))) (tVar 2) (tC (V.int 0)))
          [2] [some (V.ref p), some (V.ref l), none] (upd G p2 (HO.dK [])) fun y H2 => H2 p2 = some (HO.dK []) ∧ ∃ kvs : List (Key × V),
            [(V.str (Str.ofString "cells"), V.ref l), (V.str (Str.ofString "lefts"), y), (V.str (Str.ofString "at"), V.int 0)] = List.map (fun kv => (kV kv.fst, kv.snd)) kvs ∧ kvs.length ≤ 15 ∧ Q (V.ref p2) (upd H2 p2 (HO.dK (mergeK [] kvs))) := by
      intro G l zs e hl2 hz1 hz2 p2 hp2
      have hl3 : upd G p2 (HO.dK []) l = some (.lst (zs.map V.int)) := by rw [upd_ne (ne_of_none hl2 hp2)]; exact hl2
      try walk_at "nf"
      try walk_at "sx"
      refine ⟨_, rfl, l, rfl, ⟨_, .of hl3⟩, fun D hD => lcS walk_list hD (by rw [List.length_map]; exact slt (by omega)) (fun _ y => ∃ z : Int, y = .int z) (fun H1 e1 => .of (e1 _ _ hl3)) (fun i x H1 H2 Q1 hi1 e1 y q => ?_) (fun H1 ys e1 hy hn hr => ?_)⟩
      · obtain ⟨rfl, hx⟩ := y
        obtain ⟨z, hz, rfl⟩ := List.mem_map.mp (List.mem_of_getElem? hx)
        try walk_at "nf"
        try walk_at "sx"
        refine ⟨⟨by decide, by decide, by decide⟩, ?_⟩
        refine ite2 (fun _ => q _ _ ⟨_, rfl⟩ (Same.refl _)) (fun _ => q _ _ ⟨_, rfl⟩ (Same.refl _))
      · obtain ⟨ls, rfl, hlen⟩ := ints_any hr
        have hp3 : H1 p2 = some (.dK []) := e1 _ _ upd_same
        refine ⟨hp3, [(.inr "cells", .ref l), (.inr "lefts", .ref D), (.inr "at", .int 0)], rfl, by show 3 ≤ 15; omega, ?_⟩
        have em : mergeK [] [((.inr ("cells" : Str) : Key), V.ref l), (.inr ("lefts" : Str), V.ref D), (.inr ("at" : Str), V.int 0)] = stK l D 0 := by
          have k4 : ¬ (("lefts" : Str) = "cells") := by decide +kernel
          have k5 : ¬ (("cells" : Str) = "lefts") := ks3
          simp [mergeK, putK, stK, ks1, ks2, k4, k5]
        rw [em]
        have hl4 := e1 _ _ hl3
        have hDl : D ≠ l := fun z => by rw [z, hl3] at hD; cases hD
        refine k _ p2 D l ?_ ⟨zs, ls, 0, upd_same, by rw [upd_ne (ne_of_none hl2 hp2)]; exact hl4, by rw [upd_ne (fun z => by rw [z, upd_same] at hD; cases hD)]; exact hy, by rw [hlen, hn, List.length_map], hz1, Nat.le_refl _, Ne.symm hDl⟩
        intro b o hb
        have hb2 := e _ _ hb
        have nb : b ≠ p2 := ne_of_none hb2 hp2
        rw [upd_ne nb]
        exact e1 _ _ (by rw [upd_ne nb]; exact hb2)
    refine ⟨by decide, fun p1 hp1 => ⟨.list (is.map PyData.int), .list [], .lst ((Same.new hp1).seq hs) (DpAll.ints is), .lst (.of upd_same) .nil, shaped_ints is, rfl, _, rfl, ?_⟩⟩
    cases is with
    | nil => exact iteF ⟨by decide, fun p2 hp2 => fun p3 hp3 => fin _ p2 [0] ((Same.new hp1).then_new hp2) upd_same (by decide) (by decide) p3 hp3⟩
    | cons z zs =>
      refine iteT ⟨_, .inl ((Same.new hp1).seq hs), fun p2 hp2 => fun p3 hp3 => fin _ p2 (z :: zs) ((Same.new hp1).then_new hp2) upd_same (by simp) hl p3 hp3⟩
theorem ok_odd_row (B : Bl mg) (F1 : Df P w K mg base CX0 2 "_law_draw" pr__law_draw spDraw) (D : Dt K mg "_law_odd_row" s__law_odd_row pr__law_odd_row) : Df P w K mg base CX0 3 "_law_odd_row" pr__law_odd_row (spOddRow K) := by
  refine D.ok sc__law_odd_row (fun vs H Q E h => ?_) (fun f cdv A outer s H vs Q E hr h => ?_)
  · obtain ⟨a, l, c, n, size, rv, ns, rfl, _⟩ := h
    rfl
  · obtain ⟨a, l, c, n, size, rv, ns, rfl, hs, hn, hd, z1, z2, k⟩ := h
    refine ⟨_, (pss_cons (ps_set (i := 3) sc__law_odd_row.nd rfl (Or.inl rfl) (pe_f F1 (hr.mono (by decide)) pass0 (pa_cons (pv 0) (pa_cons pe_int pa_nil)))) (pss_cons (ps_if (pt_cmpR op_lt (pv 3) pe_int (nomark _)) (pss_one (ps_ret (pe_ix ix_list (pe_lst (pa_cons (pe_tup pa_nil) (pa_cons pe_non (pa_cons (pe_callTy call_list_of (by rfl) B.list PyProof.Rows.boot_list (pa_cons (pv 1) pa_nil)) (pa_cons (pe_op op_catA (pv 1) (pe_tup (pa_cons pe_int pa_nil))) pa_nil))))) (pv 3) (fun _ _ => rfl)))) pss_nil) (pss_cons (ps_set (i := 4) sc__law_odd_row.nd rfl (Or.inl rfl) (pe_f F1 (hr.mono (by decide)) pass0 (pa_cons (pv 0) (pa_cons (pe_callB call_len_seq (by rfl) B.len PySem.boot_len (pa_cons (pv 1) pa_nil)) pa_nil)))) (pss_one (ps_ret (pe_op op_catA (pe_op op_catA (pe_slice sl_tupA (pv 1) po_none (po_some (pv 4))) (pe_tup (pa_cons (pe_ix ix_list (pe_lst (pa_cons (pe_un un_neg pe_int) (pa_cons (pv 2) (pa_cons pe_bl (pa_cons pe_non (pa_cons pe_str pa_nil)))))) (pe_op op_sub (pv 3) pe_int) (fun _ _ => rfl)) pa_nil))) (pe_slice sl_tupA (pv 1) (po_some (pe_op op_add (pv 4) pe_int)) po_none))))))), ?_⟩
    walk_at "nf"
    walk_at "sx"
    obtain ⟨p, rfl, hq⟩ := hd.ints_tup
    have hl : ((nI ns).map V.int).length = ns.length := by rw [List.length_map, nI_length]
    refine ⟨a, l, c, n, 9, rfl, hs, by omega, by decide, by decide, fun H1 r e1 s1 r1 r2 => ⟨r, rfl, ?_⟩⟩
    by_cases c1 : r < 4
    · rw [decide_eq_true c1]
      refine iteT ⟨by decide, fun t1 h1 => ⟨p, rfl, _, .inr ((e1.seqT hs hq).to' (Same.new h1)), fun t2 h2 => ⟨by decide, fun t3 h3 => ?_⟩⟩⟩
      refine cat_ok (K := K) (a := p) (b := t3) ((((e1.seqT hs hq).to' (Same.new h1)).to' (Same.new h2)).to' (Same.new h3)) (.of upd_same) (by rw [hl, sizeLine_eq]; show ns.length + 1 ≤ _; omega) fun r' H4 e4 hq4 => ⟨by decide, fun t4 h4 => ?_⟩
      have sm2 : Same H1 (upd (upd H1 t1 (HO.tup [])) t2 (HO.lst ((nI ns).map V.int))) := (Same.new h1).then_new h2
      have g1 : (upd (upd H1 t1 (HO.tup [])) t2 (HO.lst ((nI ns).map V.int))) t1 = some (.tup []) := by rw [upd_ne (ne_of_none upd_same h2), upd_same]
      have g2 : (upd (upd H1 t1 (HO.tup [])) t2 (HO.lst ((nI ns).map V.int))) t2 = some (.lst ((nI ns).map V.int)) := upd_same
      have sm4 : Same (upd (upd H1 t1 (HO.tup [])) t2 (HO.lst ((nI ns).map V.int))) (upd H4 t4 (HO.lst [V.ref t1, V.non, V.ref t2, V.ref r'])) := ((Same.new h3).trans e4).then_new h4
      have h20 : H1 t2 = none := by rwa [upd_ne (fun z => by rw [z, upd_same] at h2; cases h2)] at h2
      obtain ⟨ta, tl, tc⟩ := s1.off h20
      have h2H : H t2 = none := e1.free h20 ta tl
      have es : Sbt a l H (upd H4 t4 (HO.lst [V.ref t1, V.non, V.ref t2, V.ref r'])) := e1.same (sm2.trans sm4)
      have ss : LSt (upd H4 t4 (HO.lst [V.ref t1, V.non, V.ref t2, V.ref r'])) a l c (n + 2) := (s1.same (sm2.trans sm4)).mono (by omega)
      have rr : r = 0 ∨ r = 1 ∨ r = 2 ∨ r = 3 := by omega
      rcases rr with rfl | rfl | rfl | rfl
      · exact ⟨_, _, rfl, .of upd_same, _, rfl, k _ _ (.tuple []) es ss (DpN.flat _ _ rfl (.tup (.of (sm4 _ _ g1)) .nil))⟩
      · exact ⟨_, _, rfl, .of upd_same, _, rfl, k _ _ .none es ss (DpN.flat _ _ rfl .non)⟩
      · exact ⟨_, _, rfl, .of upd_same, _, rfl, k _ _ (.list ((nI ns).map PyData.int)) es ss fun H5 e5 => .lst (.of (e5 _ _ (sm4 _ _ g2) (.inl h2H))) (DpAll.ints _)⟩
      · refine ⟨_, _, rfl, .of upd_same, _, rfl, k _ _ (rowD (ns ++ [0])) es ss (DpN.flat _ _ (noList_row _) (Dp.tup_ints ((hq4.to' (Same.new h4)).cast ?_)))⟩
        simp [nI]
    · rw [decide_eq_false c1]
      refine iteF ⟨p, rfl, _, .inr (e1.seqT hs hq), ?_⟩
      rw [hl]
      refine ⟨a, l, c, n + 1, ns.length, rfl, s1, by omega, by omega, by omega, fun H2 r3 e2 s2 a3 b3 => ?_⟩
      try walk_at "nf"
      try walk_at "sx"
      obtain ⟨x, dx, hx1, hx2, hx3⟩ := odd_at (K := K) (size := size) (r := r - 4) (by omega) (by omega)
      have hq2 : SqT K H2 p ((nI ns).map V.int) := e2.seqT s1 (e1.seqT hs hq)
      refine sl_ok (K := K) hq2 fun p3 H3 e3 hq3 => ⟨by decide, fun t1 h1 => ⟨_, .of upd_same, x, hx1, by decide, fun t2 h2 => ?_⟩⟩
      have e4 : Same H3 (upd (upd H3 t1 (HO.lst [V.int (-1), V.int ↑size, V.bl true, V.non, V.str (Str.ofString "0")])) t2 (HO.tup [x])) := (Same.new h1).then_new h2
      have hcl : ∀ lo hi, (cutV ((nI ns).map V.int) lo hi).length ≤ 16 := fun lo hi => Nat.le_trans (cutV_length _ _ _) (by rw [hl]; exact z2)
      refine cat_ok (K := K) (a := p3) (b := t2) (e4.seqT hq3) (.of upd_same) (by have := hcl none (some r3); rw [sizeLine_eq]; show _ + 1 ≤ _; omega) fun p5 H5 e5 hq5 => ?_
      refine sl_ok (K := K) (a := p) (e5.seqT (e4.seqT (e3.seqT hq2))) fun p6 H6 e6 hq6 => ?_
      refine cat_ok (K := K) (a := p5) (b := p6) (e6.seqT hq5) hq6 (by have := hcl none (some r3); have := hcl (some (r3 + 1)) none; rw [List.length_append, sizeLine_eq]; show _ + 1 + _ ≤ _; omega) fun p7 H7 e7 hq7 => ?_
      have sm : Same H2 H7 := (((e3.trans e4).trans e5).trans e6).trans e7
      obtain ⟨es1, d1, m1⟩ := DpAll_cut (DpAll.ints (K := K) (H := H7) (nI ns)) none (some r3)
      obtain ⟨es2, d2, m2⟩ := DpAll_cut (DpAll.ints (K := K) (H := H7) (nI ns)) (some (r3 + 1)) none
      have nl : ∀ d ∈ (nI ns).map PyData.int, noList d = true := fun d hd => by obtain ⟨i, _, rfl⟩ := List.mem_map.mp hd; rfl
      refine k H7 (.ref p7) (.tuple ((es1 ++ [dx]) ++ es2)) ((e1.trans e2).same sm) (s2.same sm) (DpN.flat _ _ ?_ (.tup hq7 ((d1.append (.cons (hx2 H7) .nil)).append d2)))
      simp only [noList]
      refine noListAll_of fun d hd => ?_
      rcases List.mem_append.mp hd with hd | hd
      · rcases List.mem_append.mp hd with hd | hd
        · exact nl d (m1 d hd)
        · obtain rfl : d = dx := by simpa using hd
          exact hx3
      · exact nl d (m2 d hd)
end
end Ws
/-! ## K14o -/
namespace Ws
open PySem PySem.Spec PyProof.Rows L2
local macro_rules | `(tactic| walk_at "nf") => `(tactic| dsimp only [tNext, tSeq, tDrop, tRet, tRetN, tIfS, tAsg, gName, gTup, gCons, gNil, tVar, tC, tOp, tUn, rI, rI0, rU, rEq, rNe, tTest, tChain, tAnd, tOr, tNot, tAndV, tOrV, tNotV, tIf, tCB, tCKw, tCons, tNil, tTup, tLst, tCa, tCallS, tB, rIxT, rIxL, rIxS, cxOf, Cx.nox, Cx.wish, Cx.blk, L2.start, tPar, tPar3, tNever, tYes, tBits, tRz, tBM, rAppend, tyV, tXf, suiteEnds, gSub, rSetL, tBreak, rMax, tDGet, sDPut, tSl, tNoPart, tPart, tDisp, tPairs])
local macro_rules | `(tactic| walk_at "sx") => `(tactic| simp only [wipe, List.cons.injEq, and_assoc, exists_and_left, and_true, List.map_cons, List.map_nil, List.length_cons, List.length_nil, List.cons_append, List.nil_append, List.append_nil, Nat.reduceAdd, Nat.reduceSub, List.replicate, List.getElem?_cons_zero, List.getElem?_cons_succ, List.set_cons_zero, List.set_cons_succ, Option.some.injEq, V.int.injEq, V.bl.injEq, V.ref.injEq, V.str.injEq, exists_eq_left', exists_eq_left, true_and, Bool.true_eq_false, Bool.false_eq_true, if_true, if_false])

/-! ### the end of _law_spoilt -/
section
variable {K : PySem.W.Frag}
def tL1 (K : PySem.W.Frag) : List V → Hp → VK → Prop := fun xs H Q => ∃ p, xs = [V.ref p] ∧ ∃ x, (SqL K H p x ∨ SqT K H p x) ∧ ∀ l, H l = none → Q (V.ref l) (upd H l (HO.lst x))
def tT1 (K : PySem.W.Frag) : List V → Hp → VK → Prop := fun xs H Q => ∃ p, xs = [V.ref p] ∧ ∃ x, (SqL K H p x ∧ ∀ l, H l = none → Q (V.ref l) (upd H l (HO.tup x))) ∨ SqT K H p x ∧ Q (V.ref p) H
def tIn2 (K : PySem.W.Frag) (x y : Str) : TT := tTest (tOp (rIn K false) (tVar 5) (tTup (tCons (tC (V.str x)) (tCons (tC (V.str y)) tNil))))
def tIs (x : Str) : TT := tTest (tOp rEq (tVar 5) (tC (V.str x)))
def R7 (K : PySem.W.Frag) : TS := tSeq (tIfS (tIn2 K "four" "nothing") (tRet (tIf (tIs "four") (tOp (rCatA K) (tVar 9) (tTup (tCons (tC (V.int 0)) tNil))) (tC V.non))) tNext) (tRet (tVar 9))
def R6 (K : PySem.W.Frag) : TS := tSeq (tIfS (tIn2 K "list" "pair") (tRet (tIf (tIs "list") (tCB (tL1 K) (tCons (tVar 9) tNil)) (tSl (rSlA K) (tVar 9) tNoPart (tPart (tC (V.int 2)))))) tNext) (R7 K)
def R5 (K : PySem.W.Frag) : TS := tSeq (tAsg (tTup (tCons (tVar 2) (tCons (tVar 3) (tCons (tVar 4) tNil)))) (gName 9)) (R6 K)
def R4 (K : PySem.W.Frag) : TS := tSeq (tIfS (tIs "great") (tPar 3 4 (tCons (tOp (rRepT K) (tVar 3) (tC (V.int 601))) (tCons (tOp (rRepT K) (tVar 4) (tC (V.int 601))) tNil))) tNext) (R5 K)
def R3 (K : PySem.W.Frag) : TS := tSeq (tIfS (tIs "empty") (tAsg (tTup tNil) (gName 3)) tNext) (R4 K)
def R2 (K : PySem.W.Frag) : TS := tSeq (tIfS (tIn2 K "listed" "none") (tAsg (tIf (tIs "listed") (tCB (tL1 K) (tCons (tVar 3) tNil)) (tC V.non)) (gName 3)) tNext) (R3 K)
def R1 (K : PySem.W.Frag) : TS := tSeq (tIfS (tIn2 K "short" "long") (tAsg (tIf (tIs "short") (tSl (rSlA K) (tVar 4) (tPart (tC (V.int 1))) tNoPart) (tOp (rCatA K) (tVar 4) (tTup (tCons (tC (V.bl true)) tNil)))) (gName 4)) tNext) (R2 K)
theorem ifs_in {x y w : Str} {A B : TS} {D : Ends} {σ : L2.St} {H : Hp} (h : σ[5]? = some (some (.str w))) (k1 : ∀ H', Same H H' → inV (.str w) [.str x, .str y] = true → A D σ H') (k2 : ∀ H', Same H H' → inV (.str w) [.str x, .str y] = false → B D σ H') :
    tIfS (tIn2 K x y) A B D σ H := by
  unfold tIn2
  walk_at "nf"
  refine ⟨_, h, (by show 2 ≤ sizeLine; decide), fun p hp => ⟨p, _, rfl, .inr (.of upd_same), rfl, rfl, _, rfl, ?_⟩⟩
  rw [if_neg Bool.false_ne_true]
  cases c : inV (.str w) [.str x, .str y] with
  | true => exact iteT (k1 _ (Same.new hp) c)
  | false => exact iteF (k2 _ (Same.new hp) c)
theorem ifs_is {x w : Str} {A B : TS} {D : Ends} {σ : L2.St} {H : Hp} (h : σ[5]? = some (some (.str w))) (k1 : w = x → A D σ H) (k2 : w ≠ x → B D σ H) : tIfS (tIs x) A B D σ H := by
  unfold tIs
  walk_at "nf"
  refine ⟨_, h, rfl, _, rfl, ?_⟩
  by_cases c : w = x
  · subst c
    rw [decide_eq_true rfl]
    exact iteT (k1 rfl)
  · rw [decide_eq_false (fun z => c (V.str.inj z))]
    exact iteF (k2 c)
theorem tif_is {x w : Str} {ta tb : TE} {Q : VK} {σ : L2.St} {H : Hp} (h : σ[5]? = some (some (.str w))) (k1 : ta σ H Q) (k2 : tb σ H Q) : tIf (tIs x) ta tb σ H Q := by
  unfold tIs
  walk_at "nf"
  refine ⟨_, h, rfl, _, rfl, ?_⟩
  cases decide (V.str w = V.str x) with
  | true => exact iteT k1
  | false => exact iteF k2
theorem dp_cut {H : Hp} {xs : List V} {ds : List PyData} {r : Addr} {lo hi : Option Int} (h : DpAll K H xs ds) (q : SqT K H r (cutV xs lo hi)) : ∃ d, Dp K H (.ref r) d := by
  obtain ⟨es, h1, _⟩ := DpAll_cut h lo hi
  exact ⟨_, .tup q h1⟩
theorem r5_ok {D : Ends} {G : Hp} {s0 s1 v6 v7 v8 : Option V} {vm sv ev : V} {dm ds de : PyData} {w : Str} (hm : Dp K G vm dm) (hs : Dp K G sv ds) (he : Dp K G ev de) (q : ∀ H' u d, Same G H' → Dp K H' u d → D.rt u H') :
    R5 K D [s0, s1, some vm, some sv, some ev, some (.str w), v6, v7, v8, none] G := by
  unfold R5
  try walk_at "nf"
  try walk_at "sx"
  refine ⟨by decide, fun t ht => ?_⟩
  have e1 : Same G (upd G t (HO.tup [vm, sv, ev])) := Same.new ht
  have hd : DpAll K (upd G t (HO.tup [vm, sv, ev])) [vm, sv, ev] [dm, ds, de] := .cons (hm.to e1) (.cons (hs.to e1) (.cons (he.to e1) .nil))
  have ht1 : SqT K (upd G t (HO.tup [vm, sv, ev])) t [vm, sv, ev] := .of upd_same
  unfold R6 tSeq
  refine ifs_in rfl (fun H1 e2 c1 => ?_) (fun H1 e2 c1 => ?_)
  · unfold tRet
    refine tif_is rfl ?_ ?_
    · unfold tL1
      try walk_at "nf"
      refine ⟨_, rfl, t, rfl, _, .inr (e2.seqT ht1), fun l hl => q _ _ (.list [dm, ds, de]) ((e1.trans e2).then_new hl) (.lst (.of upd_same) ((hd.to e2).to (Same.new hl)))⟩
    · try walk_at "nf"
      refine ⟨_, rfl, _, rfl, sl_ok (K := K) (e2.seqT ht1) fun r H2 e3 h3 => ?_⟩
      obtain ⟨d, hdd⟩ := dp_cut ((hd.to e2).to e3) h3
      exact q _ _ d ((e1.trans e2).trans e3) hdd
  · unfold tNext R7 tSeq
    refine ifs_in rfl (fun H2 e3 c2 => ?_) (fun H2 e3 c2 => ?_)
    · have e13 := (e1.trans e2).trans e3
      unfold tRet
      refine tif_is rfl ?_ ?_
      · try walk_at "nf"
        refine ⟨_, rfl, by decide, fun t2 ht2 => cat_ok (K := K) (a := t) (b := t2) ((Same.new ht2).seqT (e3.seqT (e2.seqT ht1))) (.of upd_same) (by rw [sizeLine_eq]; show 3 + 1 ≤ _; omega) fun r H3 e4 h4 => ?_⟩
        exact q _ _ (.tuple ([dm, ds, de] ++ [.int 0])) ((e13.then_new ht2).trans e4) (.tup h4 (((((hd.to e2).to e3).to (Same.new ht2)).to e4).append (.cons (.int 0) .nil)))
      · exact q _ _ .none e13 .non
    · unfold tNext tRet tVar
      exact ⟨_, rfl, q _ _ (.tuple [dm, ds, de]) ((e1.trans e2).trans e3) (.tup (e3.seqT (e2.seqT ht1)) ((hd.to e2).to e3))⟩
theorem dp_rep {H : Hp} {xs : List V} {ds : List PyData} (h : DpAll K H xs ds) : ∀ k : Nat, DpAll K H (List.replicate k xs).flatten (List.replicate k ds).flatten
  | 0 => .nil
  | k + 1 => by
    rw [List.replicate_succ, List.replicate_succ, List.flatten_cons, List.flatten_cons]
    exact h.append (dp_rep h k)
theorem r4_ok {D : Ends} {G : Hp} {s0 s1 v6 v7 v8 : Option V} {vm sv ev : V} {dm ds de : PyData} {w : Str} (hm : Dp K G vm dm) (hs : Dp K G sv ds) (he : Dp K G ev de) (q : ∀ H' u d, Same G H' → Dp K H' u d → D.rt u H')
    (g : w = "great" → ∃ t1 t2 xs ys ds es, sv = .ref t1 ∧ ev = .ref t2 ∧ SqT K G t1 xs ∧ SqT K G t2 ys ∧ DpAll K G xs ds ∧ DpAll K G ys es ∧ xs ≠ [] ∧ ys ≠ [] ∧ xs.length ≤ 1000 ∧ ys.length ≤ 1000) :
    R4 K D [s0, s1, some vm, some sv, some ev, some (.str w), v6, v7, v8, none] G := by
  unfold R4 tSeq
  refine ifs_is rfl (fun c => ?_) (fun c => ?_)
  · obtain ⟨t1, t2, xs, ys, ds, es, rfl, rfl, h1, h2, a1, a2, n1, n2, z1, z2⟩ := g c
    unfold rRepT
    try walk_at "nf"
    refine ⟨_, rfl, t1, 601, xs, rfl, rfl, h1, n1, by decide, by decide, z1, fun p hp => ⟨_, rfl, t2, 601, ys, rfl, rfl, (Same.new hp).seqT h2, n2, by decide, by decide, z2, fun p2 hp2 => ⟨_, _, rfl, ?_⟩⟩⟩
    try walk_at "sx"
    have e : Same G (upd (upd G p (HO.tup (List.replicate (601 : Int).toNat xs).flatten)) p2 (HO.tup (List.replicate (601 : Int).toNat ys).flatten)) := (Same.new hp).then_new hp2
    have np : p ≠ p2 := ne_of_none upd_same hp2
    exact r5_ok (hm.to e) (.tup (.of (by rw [upd_ne np, upd_same])) ((dp_rep a1 _).to e)) (.tup (.of upd_same) ((dp_rep a2 _).to e)) fun H' u d e' => q H' u d (e.trans e')
  · exact r5_ok hm hs he q
theorem r1_ok {D : Ends} {G : Hp} {s0 s1 v6 v7 v8 : Option V} {vm : V} {dm : PyData} {w : Str} {t1 t2 : Addr} {xs ys : List V} {ds es : List PyData} (hm : Dp K G vm dm) (h1 : SqT K G t1 xs) (h2 : SqT K G t2 ys) (a1 : DpAll K G xs ds) (a2 : DpAll K G ys es)
    (n1 : xs ≠ []) (n2 : ys ≠ []) (z1 : xs.length ≤ 1000) (z2 : ys.length ≤ 1000) (q : ∀ H' u d, Same G H' → Dp K H' u d → D.rt u H') : R1 K D [s0, s1, some vm, some (.ref t1), some (.ref t2), some (.str w), v6, v7, v8, none] G := by
  have q3 : ∀ {G3 : Hp} {sv ev : V} {d1 d2 : PyData}, w ≠ "great" → Same G G3 → Dp K G3 sv d1 → Dp K G3 ev d2 → R3 K D [s0, s1, some vm, some sv, some ev, some (.str w), v6, v7, v8, none] G3 := fun {G3 sv ev d1 d2} ng e b1 b2 => by
    unfold R3 tSeq
    refine ifs_is rfl (fun c => ?_) (fun c => ?_)
    · try walk_at "nf"
      try walk_at "sx"
      refine ⟨by decide, fun t ht => ?_⟩
      exact r4_ok ((hm.to e).to (Same.new ht)) (.tup (.of upd_same) .nil) (b2.to (Same.new ht)) (fun H' u d e' => q H' u d ((e.then_new ht).trans e')) fun z => absurd z ng
    · exact r4_ok (hm.to e) b1 b2 (fun H' u d e' => q H' u d (e.trans e')) fun z => absurd z ng
  have q2 : ∀ {G3 : Hp} {ev : V} {d2 : PyData}, w ≠ "great" → Same G G3 → Dp K G3 ev d2 → R2 K D [s0, s1, some vm, some (.ref t1), some ev, some (.str w), v6, v7, v8, none] G3 := fun {G3 ev d2} ng e b2 => by
    unfold R2 tSeq
    refine ifs_in rfl (fun H1 e1 c => ?_) (fun H1 e1 c => ?_)
    · have f := e.trans e1
      unfold tAsg
      refine tif_is rfl ?_ ?_
      · unfold tL1
        try walk_at "nf"
        refine ⟨_, rfl, t1, rfl, _, .inr (f.seqT h1), fun l hl => ?_⟩
        try walk_at "sx"
        exact q3 ng (f.then_new hl) (.lst (.of upd_same) ((a1.to f).to (Same.new hl))) ((b2.to e1).to (Same.new hl))
      · try walk_at "nf"
        try walk_at "sx"
        exact q3 ng f .non (b2.to e1)
    · exact q3 ng (e.trans e1) (.tup ((e.trans e1).seqT h1) (a1.to (e.trans e1))) (b2.to e1)
  by_cases gr : w = "great"
  · subst gr
    unfold R1 tSeq
    refine ifs_in rfl (fun H1 e1 c => absurd c (by decide)) (fun H1 e1 c => ?_)
    unfold tNext R2 tSeq
    refine ifs_in rfl (fun H2 e2 c => absurd c (by decide)) (fun H2 e2 c => ?_)
    unfold tNext R3 tSeq
    refine ifs_is rfl (fun c => absurd c (by decide)) (fun c => ?_)
    have f := e1.trans e2
    exact r4_ok (hm.to f) (.tup (f.seqT h1) (a1.to f)) (.tup (f.seqT h2) (a2.to f)) (fun H' u d e' => q H' u d (f.trans e')) fun _ => ⟨t1, t2, xs, ys, ds, es, rfl, rfl, f.seqT h1, f.seqT h2, a1.to f, a2.to f, n1, n2, z1, z2⟩
  · unfold R1 tSeq
    refine ifs_in rfl (fun H1 e1 c => ?_) (fun H1 e1 c => ?_)
    · unfold tAsg
      refine tif_is rfl ?_ ?_
      · try walk_at "nf"
        refine ⟨_, rfl, _, rfl, sl_ok (K := K) (e1.seqT h2) fun r H2 e3 h3 => ?_⟩
        obtain ⟨d, hdd⟩ := dp_cut ((a2.to e1).to e3) h3
        try walk_at "sx"
        exact q2 gr (e1.trans e3) hdd
      · try walk_at "nf"
        refine ⟨_, rfl, by decide, fun t3 ht3 => cat_ok (K := K) (a := t2) (b := t3) ((Same.new ht3).seqT (e1.seqT h2)) (.of upd_same) (by rw [sizeLine_eq]; show _ + 1 ≤ _; omega) fun r H3 e4 h4 => ?_⟩
        try walk_at "sx"
        exact q2 gr ((e1.then_new ht3).trans e4) (.tup h4 ((((a2.to e1).to (Same.new ht3)).to e4).append (.cons (.bl true) .nil)))
    · exact q2 gr e1 (.tup (e1.seqT h2) (a2.to e1))
end
end Ws
/-! ## K14n -/
namespace Ws
open PySem PySem.Spec PyProof.Rows L2
local macro_rules | `(tactic| walk_at "nf") => `(tactic| dsimp only [tNext, tSeq, tDrop, tRet, tRetN, tIfS, tAsg, gName, gTup, gCons, gNil, tVar, tC, tOp, tUn, rI, rI0, rU, rEq, rNe, tTest, tChain, tAnd, tOr, tNot, tAndV, tOrV, tNotV, tIf, tCB, tCKw, tCons, tNil, tTup, tLst, tCa, tCallS, tB, rIxT, rIxL, rIxS, cxOf, Cx.nox, Cx.wish, Cx.blk, L2.start, tPar, tPar3, tNever, tYes, tBits, tRz, tBM, rAppend, tyV, tXf, suiteEnds, gSub, rSetL, tBreak, rMax, tDGet, sDPut, tSl, tNoPart, tPart, tDisp, tPairs])
local macro_rules | `(tactic| walk_at "sx") => `(tactic| simp only [wipe, List.cons.injEq, and_assoc, exists_and_left, and_true, List.map_cons, List.map_nil, List.length_cons, List.length_nil, List.cons_append, List.nil_append, List.append_nil, Nat.reduceAdd, Nat.reduceSub, List.replicate, List.getElem?_cons_zero, List.getElem?_cons_succ, List.set_cons_zero, List.set_cons_succ, Option.some.injEq, V.int.injEq, V.bl.injEq, V.ref.injEq, V.str.injEq, exists_eq_left', exists_eq_left, true_and, Bool.true_eq_false, Bool.false_eq_true, if_true, if_false])

abbrev s__law_spoilt : Stmt := top 44
abbrev nm__law_spoilt : List Str := ["state", "machine", "many_so", "steps", "ends", "whole", "turn", "pick", "spot", "value"]
abbrev pr__law_spoilt : List Str := ["state", "machine"]
theorem sc__law_spoilt : FnScope nm__law_spoilt pr__law_spoilt (defScope s__law_spoilt) := ⟨rfl, rfl, rfl, by decide +kernel, rfl, by decide +kernel, by decide +kernel⟩
theorem LSt.domA {H : Hp} {a l c : Addr} {n : Nat} (h : LSt H a l c n) : H a ≠ none := by
  obtain ⟨cs, ls, m, h⟩ := h
  intro z
  rw [h.top] at z
  cases z
theorem LSt.domL {H : Hp} {a l c : Addr} {n : Nat} (h : LSt H a l c n) : H l ≠ none := by
  obtain ⟨cs, ls, m, h⟩ := h
  intro z
  rw [h.lefts] at z
  cases z
/-- nothing is lost -/
def Dom (H H' : Hp) : Prop := ∀ b, H' b = none → H b = none
theorem Dom.trans {H H1 H2 : Hp} (h : Dom H H1) (k : Dom H1 H2) : Dom H H2 := fun b e => h b (k b e)
theorem Dom.same {H H1 : Hp} (h : Same H H1) : Dom H H1 := fun b e => h.free e
theorem Dom.put {H : Hp} {p : Addr} {o : HO} : Dom H (upd H p o) := fun b e => by
  by_cases z : b = p
  · subst z; rw [upd_same] at e; cases e
  · rwa [upd_ne z] at e
theorem dom_sbt {H H1 : Hp} {a l c : Addr} {n : Nat} (e : Sbt a l H H1) (s : LSt H1 a l c n) : Dom H H1 := fun b z => by
  have h1 := s.domA
  have h2 := s.domL
  exact e.free z (fun y => by subst y; exact h1 z) (fun y => by subst y; exact h2 z)
def DpNs (H0 : Hp) (K : PySem.W.Frag) (H : Hp) (vs : List V) (ds : List PyData) : Prop := ∀ H', Kp H0 H H' → DpAll K H' vs ds
theorem DpNs.dp {H0 H : Hp} {K : PySem.W.Frag} {v : List V} {d : List PyData} (h : DpNs H0 K H v d) : DpAll K H v d := h H .refl
theorem DpNs.step {H0 H H' : Hp} {K : PySem.W.Frag} {v : List V} {d : List PyData} (h : DpNs H0 K H v d) (e : Kp H0 H H') : DpNs H0 K H' v d := fun H2 k => h H2 (e.trans k)
theorem DpNs.flat {H0 H : Hp} {K : PySem.W.Frag} {ds : List PyData} {vs : List V} (q : noListAll ds = true) (h : DpAll K H vs ds) : DpNs H0 K H vs ds := DpN.flats ds vs q h
theorem DpNs.set {H0 H : Hp} {K : PySem.W.Frag} {ds : List PyData} {vs : List V} {v : V} {d : PyData} (h : DpNs H0 K H vs ds) (k : DpN H0 K H v d) (j : Nat) : DpNs H0 K H (vs.set j v) (ds.set j d) := fun H' e => (h H' e).set (k H' e) j
def words : List Str := ["", "short", "long", "listed", "none", "empty", "list", "pair", "four", "nothing", "great"]
theorem pick7 {K : PySem.W.Frag} {r : Int} (h1 : 0 ≤ r) (h2 : r < 7) : ∃ x d, atI [V.int 0, V.int 5, V.bl true, V.non, V.str "2", V.int 1, V.int 3] r = some x ∧ (∀ H, Dp K H x d) ∧ noList d = true := by
  have : r = 0 ∨ r = 1 ∨ r = 2 ∨ r = 3 ∨ r = 4 ∨ r = 5 ∨ r = 6 := by omega
  rcases this with rfl | rfl | rfl | rfl | rfl | rfl | rfl
  · exact ⟨_, _, rfl, fun _ => .int _, rfl⟩
  · exact ⟨_, _, rfl, fun _ => .int _, rfl⟩
  · exact ⟨_, _, rfl, fun _ => .bl _, rfl⟩
  · exact ⟨_, _, rfl, fun _ => .non, rfl⟩
  · exact ⟨_, _, rfl, fun _ => .str _, rfl⟩
  · exact ⟨_, _, rfl, fun _ => .int _, rfl⟩
  · exact ⟨_, _, rfl, fun _ => .int _, rfl⟩
theorem pick5 {K : PySem.W.Frag} {r : Int} {b : Bool} (h1 : 0 ≤ r) (h2 : r < 5) : ∃ x d, atI [V.int 1, V.int 0, V.non, V.str "True", V.bl b] r = some x ∧ (∀ H, Dp K H x d) ∧ noList d = true := by
  have : r = 0 ∨ r = 1 ∨ r = 2 ∨ r = 3 ∨ r = 4 := by omega
  rcases this with rfl | rfl | rfl | rfl | rfl
  · exact ⟨_, _, rfl, fun _ => .int _, rfl⟩
  · exact ⟨_, _, rfl, fun _ => .int _, rfl⟩
  · exact ⟨_, _, rfl, fun _ => .non, rfl⟩
  · exact ⟨_, _, rfl, fun _ => .str _, rfl⟩
  · exact ⟨_, _, rfl, fun _ => .bl _, rfl⟩
theorem pickA {r : Int} (h1 : 0 ≤ r) (h2 : r < 5) : ∃ x : Str, atI [V.str "short", V.str "long", V.str "listed", V.str "none", V.str "empty"] r = some (.str x) ∧ x ∈ words := by
  have : r = 0 ∨ r = 1 ∨ r = 2 ∨ r = 3 ∨ r = 4 := by omega
  rcases this with rfl | rfl | rfl | rfl | rfl <;> exact ⟨_, rfl, by decide⟩
theorem pickB {r : Int} (h1 : 0 ≤ r) (h2 : r < 5) : ∃ x : Str, atI [V.str "list", V.str "pair", V.str "four", V.str "nothing", V.str "great"] r = some (.str x) ∧ x ∈ words := by
  have : r = 0 ∨ r = 1 ∨ r = 2 ∨ r = 3 ∨ r = 4 := by omega
  rcases this with rfl | rfl | rfl | rfl | rfl <;> exact ⟨_, rfl, by decide⟩
/-- the loop of _law_spoilt, behind i turns -/
structure SpI (K : PySem.W.Frag) (Hs H : Hp) (a l c : Addr) (n : Nat) (p q : Addr) (M : Mc) (i : Nat) (H' : Hp) (vm : V) (dm : PyData) (xs : List V) (ds : List PyData) (ys : List V) (es : List PyData) (w : Str) : Prop where
  sb : Sbt a l H H'
  st : LSt H' a l c (n + 1 + i * 6)
  vm : ∀ H, Dp K H vm dm
  nm : noList dm = true
  hp : H' p = some (.lst xs)
  dx : DpNs Hs K H' xs ds
  lx : xs.length = M.steps.length
  hq : H' q = some (.lst ys)
  dy : DpNs Hs K H' ys es
  ly : ys.length = M.steps.length
  hw : w ∈ words
  dom : Dom Hs H'
section
variable {P : Program} {w : World} {K : PySem.W.Frag} {mg : Str → Option Value} {base : Heap}
theorem ok_spoilt (B : Bl mg) (F1 : Df P w K mg base CX0 2 "_law_draw" pr__law_draw spDraw) (F2 : Df P w K mg base CX0 3 "_law_odd_row" pr__law_odd_row (spOddRow K)) (D : Dt K mg "_law_spoilt" s__law_spoilt pr__law_spoilt) : Df P w K mg base CX0 4 "_law_spoilt" pr__law_spoilt (spSpoilt K) := by
  refine D.ok sc__law_spoilt (fun vs H Q E h => ?_) (fun f cdv A outer s H vs Q E hr h => ?_)
  · obtain ⟨a, l, c, n, mv, M, rfl, _⟩ := h
    rfl
  · obtain ⟨a, l, c, n, mv, M, rfl, hs, hn, hm, O, z1, k⟩ := h
    refine ⟨_, (pss_cons (ps_par3 (i := 2) (j := 3) (l := 4) rfl sc__law_spoilt.nd rfl rfl rfl (by decide) (by decide) (by decide) rfl rfl rfl (pa_cons (pe_ix ix_tup (pv 1) pe_int (fun _ _ => rfl)) (pa_cons (pe_callTy call_list_of (by rfl) B.list PyProof.Rows.boot_list (pa_cons (pe_ix ix_tup (pv 1) pe_int (fun _ _ => rfl)) pa_nil)) (pa_cons (pe_callTy call_list_of (by rfl) B.list PyProof.Rows.boot_list (pa_cons (pe_ix ix_tup (pv 1) pe_int (fun _ _ => rfl)) pa_nil)) pa_nil))) (by rfl)) (pss_cons (ps_set (i := 5) sc__law_spoilt.nd rfl (Or.inl rfl) pe_str) (pss_cons (ps_for PassesOwn.never rfl (pi_range1 (by rfl) B.range (pa_cons (pe_f F1 (hr.mono (by decide)) pass0 (pa_cons (pv 0) (pa_cons pe_int pa_nil))) pa_nil)) (pg_name (i := 6) sc__law_spoilt.nd rfl (Or.inl rfl)) (pss_cons (ps_par (i := 7) (j := 8) (by rfl) sc__law_spoilt.nd rfl rfl (by decide) rfl rfl (pa_cons (pe_f F1 (hr.mono (by decide)) pass0 (pa_cons (pv 0) (pa_cons pe_int pa_nil))) (pa_cons (pe_f F1 (hr.mono (by decide)) pass0 (pa_cons (pv 0) (pa_cons (pe_callB call_len_seq (by rfl) B.len PySem.boot_len (pa_cons (pv 3) pa_nil)) pa_nil))) pa_nil)) (by rfl)) (pss_one (ps_if (pt_cmpR op_eq (pv 7) pe_int (nomark _)) (pss_one (ps_set (i := 2) sc__law_spoilt.nd rfl (Or.inl rfl) (pe_ix ix_list (pe_lst (pa_cons pe_int (pa_cons pe_int (pa_cons pe_bl (pa_cons pe_non (pa_cons pe_str (pa_cons pe_int (pa_cons pe_int pa_nil)))))))) (pe_f F1 (hr.mono (by decide)) pass0 (pa_cons (pv 0) (pa_cons pe_int pa_nil))) (fun _ _ => rfl)))) (pss_one (ps_if (pt_cmpR op_lt (pv 7) pe_int (nomark _)) (pss_one (ps_asg (pe_f F2 (hr.mono (by decide)) pass0 (pa_cons (pv 0) (pa_cons (pe_ix ix_tup (pe_ix ix_tup (pv 1) pe_int (fun _ _ => rfl)) (pv 8) (fun _ _ => rfl)) (pa_cons (pe_callB call_len_seq (by rfl) B.len PySem.boot_len (pa_cons (pv 3) pa_nil)) pa_nil)))) (pg_sub (pv 3) (pv 8) set_list))) (pss_one (ps_if (pt_cmpR op_lt (pv 7) pe_int (nomark _)) (pss_one (ps_asg (pe_ix ix_list (pe_lst (pa_cons pe_int (pa_cons pe_int (pa_cons pe_non (pa_cons pe_str (pa_cons (pe_not (pe_ix ix_tup (pe_ix ix_tup (pv 1) pe_int (fun _ _ => rfl)) (pv 8) (fun _ _ => rfl))) pa_nil)))))) (pe_f F1 (hr.mono (by decide)) pass0 (pa_cons (pv 0) (pa_cons pe_int pa_nil))) (fun _ _ => rfl)) (pg_sub (pv 4) (pv 8) set_list))) (pss_one (ps_if (pt_cmpR op_eq (pv 7) pe_int (nomark _)) (pss_one (ps_set (i := 5) sc__law_spoilt.nd rfl (Or.inl rfl) (pe_ix ix_list (pe_lst (pa_cons pe_str (pa_cons pe_str (pa_cons pe_str (pa_cons pe_str (pa_cons pe_str pa_nil)))))) (pe_f F1 (hr.mono (by decide)) pass0 (pa_cons (pv 0) (pa_cons pe_int pa_nil))) (fun _ _ => rfl)))) (pss_one (ps_set (i := 5) sc__law_spoilt.nd rfl (Or.inl rfl) (pe_ix ix_list (pe_lst (pa_cons pe_str (pa_cons pe_str (pa_cons pe_str (pa_cons pe_str (pa_cons pe_str pa_nil)))))) (pe_f F1 (hr.mono (by decide)) pass0 (pa_cons (pv 0) (pa_cons pe_int pa_nil))) (fun _ _ => rfl)))))))))))))) (pss_cons (ps_par (i := 3) (j := 4) (by rfl) sc__law_spoilt.nd rfl rfl (by decide) rfl rfl (pa_cons (pe_callTy call_tuple_of (by rfl) B.tuple PyProof.Rows.boot_tuple (pa_cons (pv 3) pa_nil)) (pa_cons (pe_callTy call_tuple_of (by rfl) B.tuple PyProof.Rows.boot_tuple (pa_cons (pv 4) pa_nil)) pa_nil)) (by rfl)) (pss_cons (ps_if (pt_cmpR op_in_seq (pv 5) (pe_tup (pa_cons pe_str (pa_cons pe_str pa_nil))) (by rfl)) (pss_one (ps_set (i := 4) sc__law_spoilt.nd rfl (Or.inl rfl) (pe_ifExp (pt_cmpR op_eq (pv 5) pe_str (nomark _)) (pe_slice sl_tupA (pv 4) (po_some pe_int) po_none) (pe_op op_catA (pv 4) (pe_tup (pa_cons pe_bl pa_nil)))))) pss_nil) (pss_cons (ps_if (pt_cmpR op_in_seq (pv 5) (pe_tup (pa_cons pe_str (pa_cons pe_str pa_nil))) (by rfl)) (pss_one (ps_set (i := 3) sc__law_spoilt.nd rfl (Or.inl rfl) (pe_ifExp (pt_cmpR op_eq (pv 5) pe_str (nomark _)) (pe_callTy call_list_of (by rfl) B.list PyProof.Rows.boot_list (pa_cons (pv 3) pa_nil)) pe_non))) pss_nil) (pss_cons (ps_if (pt_cmpR op_eq (pv 5) pe_str (nomark _)) (pss_one (ps_set (i := 3) sc__law_spoilt.nd rfl (Or.inl rfl) (pe_tup pa_nil))) pss_nil) (pss_cons (ps_if (pt_cmpR op_eq (pv 5) pe_str (nomark _)) (pss_one (ps_par (i := 3) (j := 4) (by rfl) sc__law_spoilt.nd rfl rfl (by decide) rfl rfl (pa_cons (pe_op op_repT (pv 3) pe_int) (pa_cons (pe_op op_repT (pv 4) pe_int) pa_nil)) (by rfl))) pss_nil) (pss_cons (ps_set (i := 9) sc__law_spoilt.nd rfl (Or.inl rfl) (pe_tup (pa_cons (pv 2) (pa_cons (pv 3) (pa_cons (pv 4) pa_nil))))) (pss_cons (ps_if (pt_cmpR op_in_seq (pv 5) (pe_tup (pa_cons pe_str (pa_cons pe_str pa_nil))) (by rfl)) (pss_one (ps_ret (pe_ifExp (pt_cmpR op_eq (pv 5) pe_str (nomark _)) (pe_callTy call_list_of (by rfl) B.list PyProof.Rows.boot_list (pa_cons (pv 9) pa_nil)) (pe_slice sl_tupA (pv 9) po_none (po_some pe_int))))) pss_nil) (pss_cons (ps_if (pt_cmpR op_in_seq (pv 5) (pe_tup (pa_cons pe_str (pa_cons pe_str pa_nil))) (by rfl)) (pss_one (ps_ret (pe_ifExp (pt_cmpR op_eq (pv 5) pe_str (nomark _)) (pe_op op_catA (pv 9) (pe_tup (pa_cons pe_int pa_nil))) pe_non))) pss_nil) (pss_one (ps_ret (pv 9)))))))))))))), ?_⟩
    walk_at "nf"
    walk_at "sx"
    obtain ⟨pm, pb, pe, xs, rfl, mv⟩ := mach_v hm
    have o1 := O.many1
    have o2 := O.many2
    have o3 := O.one
    refine ⟨pm, rfl, _, mv.top, _, rfl, pm, rfl, _, mv.top, _, rfl, pb, rfl, xs, .inr mv.steps, fun p hp => ⟨pm, rfl, _, (Same.new hp).seqT mv.top, _, rfl, pe, rfl, _, .inr ((Same.new hp).seqT mv.ends), fun q hq => ?_⟩⟩
    obtain ⟨pa, pl, pc⟩ := hs.off hp
    have nqp : q ≠ p := fun z => by rw [z, upd_same] at hq; cases hq
    have hqH : H q = none := by rwa [upd_ne nqp] at hq
    obtain ⟨qa, ql, qc⟩ := hs.off hqH
    have eHs : Same H (upd (upd H p (HO.lst xs)) q (HO.lst (M.ends.map V.bl))) := (Same.new hp).then_new hq
    have sHs := hs.same eHs
    have hpS : upd (upd H p (HO.lst xs)) q (HO.lst (M.ends.map V.bl)) p = some (.lst xs) := by rw [upd_ne (Ne.symm nqp), upd_same]
    have hqS : upd (upd H p (HO.lst xs)) q (HO.lst (M.ends.map V.bl)) q = some (.lst (M.ends.map V.bl)) := upd_same
    generalize eHd : upd (upd H p (HO.lst xs)) q (HO.lst (M.ends.map V.bl)) = Hs at *
    have nHa : Hs a ≠ none := sHs.domA
    have nHl : Hs l ≠ none := sHs.domL
    have nHp : Hs p ≠ none := fun z => by rw [hpS] at z; cases z
    have nHq : Hs q ≠ none := fun z => by rw [hqS] at z; cases z
    have hxl := mv.rows.length
    rw [List.length_map] at hxl
    refine ⟨_, rfl, a, l, c, n, 3, rfl, sHs, by omega, by decide, by decide, fun H1 r e1 s1 r1 r2 => ⟨r, rfl, by omega, by omega, for_it walk_range (fun i σ H' => ∃ vm dm xs' ds ys es w v6 v7 v8, σ = [some (.ref a), some (.ref pm), some vm, some (.ref p), some (.ref q), some (.str w), v6, v7, v8, none] ∧ SpI K Hs H a l c n p q M i H' vm dm xs' ds ys es w)
      ⟨_, .int M.many, xs, M.steps.map rowD, M.ends.map V.bl, M.ends.map PyData.bool, _, _, _, _, rfl, ?_⟩ (fun _ _ _ _ _ => trivial) ?_ ?_⟩⟩
    · exact ⟨((Sbt.of eHs).trans e1), s1, fun _ => .int _, rfl, e1 _ _ hpS pa pl, (DpNs.flat (noList_rows M.steps) (mv.rows.to eHs)).step (.sbt e1 sHs nHa nHl), hxl, e1 _ _ hqS qa ql, (DpNs.flat (noListAll_of fun x hx => by obtain ⟨b, _, rfl⟩ := List.mem_map.mp hx; rfl) (dp_bools M.ends)).step (.sbt e1 sHs nHa nHl),
        by rw [List.length_map, O.ends], by decide, dom_sbt e1 s1⟩
    · rintro i x σ H2 H3 hi ⟨vm, dm, xs', ds, ys, es, w', v6, v7, v8, rfl, I⟩ ⟨rfl, rfl⟩
      have hm2 := keepT I.sb hs _ _ (noList_mach M) hm
      obtain ⟨pm', pb', pe', xs2, epm, mv2⟩ := mach_v hm2
      cases epm
      have hi3 : i < 3 := by omega
      refine ⟨_, rfl, a, l, c, n + 1 + i * 6, 8, rfl, I.st, by omega, by decide, by decide, fun H4 pk e4 s4 k1 k2 => ?_⟩
      have hp4 : H4 p = some (.lst xs') := e4 _ _ I.hp pa pl
      refine ⟨_, rfl, _, rfl, p, rfl, _, .inl (.of hp4), a, l, c, n + 1 + i * 6 + 1, xs'.length, rfl, s4, by omega, by rw [I.lx]; omega, by rw [I.lx]; omega, fun H5 sp e5 s5 k3 k4 => ⟨_, _, rfl, ?_⟩⟩
      rw [I.lx] at k4
      obtain ⟨sp, rfl⟩ : ∃ m : Nat, sp = (m : Int) := ⟨sp.toNat, by omega⟩
      have hsp : sp < M.steps.length := by omega
      have e45 := e4.trans e5
      have hp5 : H5 p = some (.lst xs') := e45 _ _ I.hp pa pl
      have hq5 : H5 q = some (.lst ys) := e45 _ _ I.hq qa ql
      have k45 : Kp Hs H3 H5 := (Kp.sbt e4 I.st nHa nHl).trans (Kp.sbt e5 s4 nHa nHl)
      have dx5 := I.dx.step k45
      have dy5 := I.dy.step k45
      have dom5 : Dom Hs H5 := I.dom.trans ((dom_sbt e4 s4).trans (dom_sbt e5 s5))
      have sb5 := I.sb.trans e45
      have hm5 := keepT e45 I.st _ _ (noList_mach M) hm2
      obtain ⟨pm', pb', pe', xs3, epm, mv5⟩ := mach_v hm5
      cases epm
      try walk_at "nf"
      try walk_at "sx"
      have mk : ∀ H6 k vm dm w, Sbt a l H5 H6 → Kp Hs H5 H6 → Dom H5 H6 → LSt H6 a l c k → k ≤ n + 1 + (i + 1) * 6 → (∀ H, Dp K H vm dm) → noList dm = true → w ∈ words → SpI K Hs H a l c n p q M (i + 1) H6 vm dm xs' ds ys es w := fun H6 k vm dm w f1 f2 f3 f4 f5 f6 f7 f8 =>
        ⟨sb5.trans f1, f4.mono f5, f6, f7, f1 _ _ hp5 pa pl, dx5.step f2, I.lx, f1 _ _ hq5 qa ql, dy5.step f2, I.ly, f8, dom5.trans f3⟩
      have drw : ∀ {H5' H6 : Hp} {m : Nat}, Same H5 H5' → Sbt a l H5' H6 → LSt H5' a l c m → LSt H6 a l c (m + 1) → Sbt a l H5 H6 ∧ Kp Hs H5 H6 ∧ Dom H5 H6 := fun {H5' H6 m} g1 g2 g3 g4 =>
        ⟨(Sbt.of g1).trans g2, (Kp.same g1).trans (Kp.sbt g2 g3 nHa nHl), (Dom.same g1).trans (dom_sbt g2 g4)⟩
      have hix : ∀ {zs : List V}, zs.length = M.steps.length → ixN zs.length (sp : Int) = some sp := fun {zs} hz => by
        unfold ixN
        rw [if_pos (by omega), hz, if_pos (by omega), Int.toNat_natCast]
      refine ⟨rfl, ?_⟩
      by_cases c0 : pk = 0
      · rw [decide_eq_true c0]
        refine iteT ⟨by decide, fun t ht => ⟨a, l, c, _, 7, rfl, s5.new ht, by omega, by decide, by decide, fun H6 r6 e6 s6 b1 b2 => ?_⟩⟩
        obtain ⟨x, dx, hx1, hx2, hx3⟩ := pick7 (K := K) b1 b2
        obtain ⟨f1, f2, f3⟩ := drw (Same.new ht) e6 (s5.new ht) s6
        obtain ⟨ta, tl, tc⟩ := s5.off ht
        exact ⟨_, r6, rfl, .of (e6 _ _ upd_same ta tl), x, hx1, dx, _, _, _, _, mk H6 _ x dx w' f1 f2 f3 s6 (by omega) hx2 hx3 I.hw⟩
      rw [decide_eq_false c0]
      refine iteF ?_
      by_cases c1 : pk < 4
      · rw [decide_eq_true c1]
        obtain ⟨rr, hr1, hr2⟩ := mv5.row sp hsp
        have hrl := O.row sp hsp
        have hw16 : (2 : Nat) ^ M.many ≤ 16 := Nat.pow_le_pow_right (by decide) o2
        have hw0 := Nat.two_pow_pos M.many
        refine iteT ⟨_, mv5.top, _, rfl, pb', rfl, xs3, mv5.steps, _, hr1, _, .inl (.of hp5), a, l, c, n + 1 + i * 6 + 1 + 1, xs'.length, .ref rr, M.steps.getD sp [], rfl, s5, by omega, Dp.tup_ints hr2, by omega, by omega, fun H6 v d e6 s6 hv => ?_⟩
        have f2 : Kp Hs H5 H6 := Kp.sbt e6 s5 nHa nHl
        have J := mk H6 _ vm dm w' e6 f2 (dom_sbt e6 s6) s6 (by omega) I.vm I.nm I.hw
        have kp : Kp Hs H6 (upd H6 p (HO.lst (xs'.set sp v))) := Kp.put J.hp nHp
        exact ⟨xs', J.hp, sp, hix I.lx, dm, xs'.set sp v, ds.set sp d, ys, es, ⟨J.sb.mut hp, J.st.put pa pl pc, J.vm, J.nm, upd_same, (J.dx.step kp).set ((hv.base dom5).step kp) sp, by rw [List.length_set]; exact I.lx, by rw [upd_ne nqp]; exact J.hq, J.dy.step kp, J.ly, J.hw, J.dom.trans Dom.put⟩⟩
      rw [decide_eq_false c1]
      refine iteF ?_
      by_cases c2 : pk < 6
      · rw [decide_eq_true c2]
        have h9 : sp < M.ends.length := by rw [O.ends]; exact hsp
        have hae : atI (M.ends.map V.bl) (sp : Int) = some (V.bl (M.ends.getD sp false)) := atI_nat (by simp [h9])
        refine iteT ⟨_, mv5.top, _, rfl, pe', rfl, _, mv5.ends, V.bl (M.ends.getD sp false), hae, _, rfl, by decide, fun t ht => ⟨a, l, c, _, 5, rfl, s5.new ht, by omega, by decide, by decide, fun H6 r6 e6 s6 b1 b2 => ?_⟩⟩
        obtain ⟨x, dx, hx1, hx2, hx3⟩ := pick5 (K := K) (b := !(M.ends.getD sp false)) b1 b2
        obtain ⟨f1, f2, f3⟩ := drw (Same.new ht) e6 (s5.new ht) s6
        obtain ⟨ta, tl, tc⟩ := s5.off ht
        have J := mk H6 _ vm dm w' f1 f2 f3 s6 (by omega) I.vm I.nm I.hw
        have kp : Kp Hs H6 (upd H6 q (HO.lst (ys.set sp x))) := Kp.put J.hq nHq
        exact ⟨_, r6, rfl, .of (e6 _ _ upd_same ta tl), x, hx1, ys, J.hq, sp, hix I.ly, dm, xs', ds, ys.set sp x, es.set sp dx, ⟨J.sb.mut hqH, J.st.put qa ql qc, J.vm, J.nm, by rw [upd_ne (Ne.symm nqp)]; exact J.hp, J.dx.step kp, J.lx, upd_same, (J.dy.step kp).set (DpN.flat _ _ hx3 (hx2 _)) sp, by rw [List.length_set]; exact I.ly, J.hw, J.dom.trans Dom.put⟩⟩
      rw [decide_eq_false c2]
      refine iteF ⟨rfl, ?_⟩
      by_cases c3 : pk = 6
      · rw [decide_eq_true c3]
        refine iteT ⟨by decide, fun t ht => ⟨a, l, c, _, 5, rfl, s5.new ht, by omega, by decide, by decide, fun H6 r6 e6 s6 b1 b2 => ?_⟩⟩
        obtain ⟨x, hx1, hx2⟩ := pickA b1 b2
        obtain ⟨f1, f2, f3⟩ := drw (Same.new ht) e6 (s5.new ht) s6
        obtain ⟨ta, tl, tc⟩ := s5.off ht
        exact ⟨_, r6, rfl, .of (e6 _ _ upd_same ta tl), .str x, hx1, dm, _, _, _, _, x, rfl, mk H6 _ vm dm x f1 f2 f3 s6 (by omega) I.vm I.nm hx2⟩
      · rw [decide_eq_false c3]
        refine iteF ⟨by decide, fun t ht => ⟨a, l, c, _, 5, rfl, s5.new ht, by omega, by decide, by decide, fun H6 r6 e6 s6 b1 b2 => ?_⟩⟩
        obtain ⟨x, hx1, hx2⟩ := pickB b1 b2
        obtain ⟨f1, f2, f3⟩ := drw (Same.new ht) e6 (s5.new ht) s6
        obtain ⟨ta, tl, tc⟩ := s5.off ht
        exact ⟨_, r6, rfl, .of (e6 _ _ upd_same ta tl), .str x, hx1, dm, _, _, _, _, x, rfl, mk H6 _ vm dm x f1 f2 f3 s6 (by omega) I.vm I.nm hx2⟩
    · rintro σ H2 ⟨vm, dm, xs', ds, ys, es, w', v6, v7, v8, rfl, I⟩
      show tSeq (tPar 3 4 (tCons (tCB (tT1 K) (tCons (tVar 3) tNil)) (tCons (tCB (tT1 K) (tCons (tVar 4) tNil)) tNil))) (R1 K) { nx := fun x H' => Q V.non H', rt := Q } [some (V.ref a), some (V.ref pm), some vm, some (V.ref p), some (V.ref q), some (V.str w'), v6, v7, v8, none] H2
      unfold tSeq tT1
      dsimp only [tPar, tCons, tNil, tCB, tVar]
      refine ⟨_, rfl, p, rfl, _, .inl ⟨.of I.hp, fun t1 h1 => ⟨_, rfl, q, rfl, _, .inl ⟨.of (by rw [upd_ne (ne_of_none I.hq h1)]; exact I.hq), fun t2 h2 => ⟨_, _, rfl, ?_⟩⟩⟩⟩⟩
      try walk_at "sx"
      have e : Same H2 (upd (upd H2 t1 (HO.tup xs')) t2 (HO.tup ys)) := (Same.new h1).then_new h2
      have n12 : t1 ≠ t2 := ne_of_none upd_same h2
      have lx := I.lx
      have ly := I.ly
      refine r1_ok (I.vm _) (.of (by rw [upd_ne n12, upd_same])) (.of upd_same) (I.dx.dp.to e) (I.dy.dp.to e) ?_ ?_ (by omega) (by omega) fun H' u d e' hd => k H' u d ((I.sb.same e).same e') (((I.st.same e).same e').mono (by omega)) hd
      · intro z
        rw [z] at lx
        simp at lx
        omega
      · intro z
        rw [z] at ly
        simp at ly
        omega
end
end Ws
/-! ## K14p -/
namespace Ws
open PySem PySem.Spec PyProof.Rows L2
local macro_rules | `(tactic| walk_at "nf") => `(tactic| dsimp only [tNext, tSeq, tDrop, tRet, tRetN, tIfS, tAsg, gName, gTup, gCons, gNil, tVar, tC, tOp, tUn, rI, rI0, rU, rEq, rNe, tTest, tChain, tAnd, tOr, tNot, tAndV, tOrV, tNotV, tIf, tCB, tCKw, tCons, tNil, tTup, tLst, tCa, tCallS, tB, rIxT, rIxL, rIxS, cxOf, Cx.nox, Cx.wish, Cx.blk, L2.start, tPar, tPar3, tNever, tYes, tBits, tRz, tBM, rAppend, tyV, tXf, suiteEnds, gSub, rSetL, tBreak, rMax, tDGet, sDPut, tSl, tNoPart, tPart, tDisp, tPairs])
local macro_rules | `(tactic| walk_at "sx") => `(tactic| simp only [wipe, List.cons.injEq, and_assoc, exists_and_left, and_true, List.map_cons, List.map_nil, List.length_cons, List.length_nil, List.cons_append, List.nil_append, List.append_nil, Nat.reduceAdd, Nat.reduceSub, List.replicate, List.getElem?_cons_zero, List.getElem?_cons_succ, List.set_cons_zero, List.set_cons_succ, Option.some.injEq, V.int.injEq, V.bl.injEq, V.ref.injEq, V.str.injEq, exists_eq_left', exists_eq_left, true_and, Bool.true_eq_false, Bool.false_eq_true, if_true, if_false])

/-! ### what is told is small -/
def FSm : Fl → Prop
  | .bad l => l.length ≤ 3 ∧ ∀ i ∈ l, i.natAbs < 1000
  | _ => True
theorem firstFl_mem : ∀ l : List Fl, firstFl l = .ok ∨ firstFl l ∈ l
  | [] => .inl rfl
  | x :: r => by
    cases x with
    | ok =>
      rcases firstFl_mem r with h | h
      · exact .inl h
      · exact .inr (List.mem_cons_of_mem _ h)
    | bad l => exact .inr (List.mem_cons_self ..)
    | great => exact .inr (List.mem_cons_self ..)
theorem FSm.over {n : Nat} {f : Nat → Fl} (h : ∀ i, i < n → FSm (f i)) : FSm (overFl n f) := by
  rcases firstFl_mem ((List.range n).map f) with e | e
  · show FSm (firstFl _)
    rw [e]
    trivial
  · obtain ⟨i, hi, e⟩ := List.mem_map.mp e
    show FSm (firstFl _)
    rw [← e]
    exact h i (List.mem_range.mp hi)
theorem FSm.then' {x y : Fl} (hx : FSm x) (hy : FSm y) : FSm (x.then y) := by
  cases x with
  | ok => exact hy
  | bad l => exact hx
  | great => exact hx
theorem FSm.col {n c : Nat} {row : PyData} {st : Nat} (h1 : st < 1000) (h2 : c < 1000) : FSm (colF n row st c) := by
  unfold colF
  split
  · trivial
  · exact ⟨by simp, fun i hi => by
      simp only [List.mem_cons, List.not_mem_nil, or_false] at hi
      rcases hi with rfl | rfl | rfl <;> omega⟩
theorem FSm.st' {many : Nat} {sd ed : List PyData} {st : Nat} (h1 : st < 1000) (h2 : 2 ^ many ≤ 16) : FSm (stF many sd ed st) := by
  unfold stF
  split
  · refine FSm.then' (FSm.over fun i hi => FSm.col h1 (by omega)) ?_
    split
    · trivial
    · exact ⟨by simp, fun i hi => by
        simp only [List.mem_cons, List.not_mem_nil, or_false] at hi
        rcases hi with rfl | rfl <;> omega⟩
  · exact ⟨by simp, fun i hi => by
      simp only [List.mem_cons, List.not_mem_nil, or_false] at hi
      rcases hi with rfl | rfl <;> omega⟩
theorem FSm.end' {sd ed : List PyData} {st : Nat} (h1 : st < 1000) : FSm (endF sd ed st) := by
  unfold endF
  split
  · trivial
  · exact ⟨by simp, fun i hi => by
      simp only [List.mem_cons, List.not_mem_nil, or_false] at hi
      rcases hi with rfl | rfl <;> omega⟩
theorem FSm.one {i : Int} (h : i.natAbs < 1000) : FSm (.bad [i]) := ⟨by simp, fun j hj => by
  obtain rfl : j = i := by simpa using hj
  exact h⟩
theorem FSm.mach (d : PyData) : FSm (machF d) := by
  unfold machF
  split
  · unfold machF3
    split
    · split
      · split
        · trivial
        · split
          · rename_i hb _ hz _
            have h2 : 2 ^ (iOf ((itm d).getD 0 .none)).toNat ≤ 16 := by
              generalize (itm d).getD 0 .none = a at hb ⊢
              cases a with
              | int i =>
                simp only [isBt, Bool.and_eq_true, decide_eq_true_eq] at hb
                exact Nat.pow_le_pow_right (by decide) (show i.toNat ≤ 4 by omega)
              | _ => cases hb
            exact FSm.then' (FSm.over fun i hi => FSm.st' (by omega) h2) (FSm.over fun i hi => FSm.end' (by omega))
          · exact FSm.one (by decide)
      · exact FSm.one (by decide)
    · exact FSm.one (by decide)
  · exact ⟨by decide, fun i hi => absurd hi (by simp)⟩
theorem Sm.str' {N D : Nat} {x : Str} (h1 : (x.cps.toList.all fun c => decide (c < 16 ^ 8)) = true) (h2 : x.cps.size ≤ N) : Sm N D (.str x) := ⟨rfl, h1, rfl, h2, Nat.zero_le _⟩
theorem Sm.tupI {l : List Int} (h1 : l.length ≤ 3) (h2 : ∀ i ∈ l, i.natAbs < 1000) : Sm 3 1 (.tuple (l.map PyData.int)) := by
  refine SmA.tup (SmA.mono (SmA.of_all (n := 0) fun x hx => ?_) (by rw [List.length_map]; omega))
  obtain ⟨i, hi, rfl⟩ := List.mem_map.mp hx
  exact Sm.int' (Nat.lt_of_lt_of_le (h2 i hi) (by decide))
theorem Sm.fault {d : PyData} : Sm 20 2 (faultD (machF d)) := by
  have h := FSm.mach d
  cases e : machF d with
  | ok => exact Sm.none'
  | bad l =>
    rw [e] at h
    exact SmA.tup (SmA.cons' (n := 3) (m := 4) (Sm.str' (by decide) (by decide)) (SmA.cons' (n := 3) (m := 0) (Sm.tupI h.1 h.2) SmA.nil' (by decide)) (by decide))
  | great => exact SmA.tup (SmA.cons' (n := 5) (m := 1) (Sm.str' (by decide) (by decide)) (SmA.cons' (n := 0) (m := 0) (Sm.int' (by decide)) SmA.nil' (by decide)) (by decide))
theorem Sm.ofOk {d : PyData} (h : machF d = .ok) : Sm 20000 3 d := by
  unfold machF at h
  by_cases c : isTn d 3 = true
  case neg => rw [if_neg c] at h; cases h
  rw [if_pos c] at h
  obtain ⟨ds, rfl, hl⟩ := isTn_tup c
  obtain ⟨d0, d1, d2, rfl⟩ : ∃ d0 d1 d2, ds = [d0, d1, d2] := by
    match ds, hl with
    | [a, b, c], _ => exact ⟨a, b, c, rfl⟩
    | [], h => cases h
    | [_], h => cases h
    | [_, _], h => cases h
    | _ :: _ :: _ :: _ :: _, h => simp only [List.length_cons] at h; omega
  replace h : machF3 d0 d1 d2 = .ok := h
  unfold machF3 at h
  by_cases c1 : isBt d0 1 4 = true
  case neg => rw [if_neg c1] at h; cases h
  rw [if_pos c1] at h
  by_cases c2 : isT d1 = true ∧ itm d1 ≠ []
  case neg => rw [if_neg c2] at h; cases h
  rw [if_pos c2] at h
  by_cases c3 : 600 < (itm d1).length
  case pos => rw [if_pos c3] at h; cases h
  rw [if_neg c3] at h
  by_cases c4 : isTn d2 ((itm d1).length : Nat) = true
  case neg => rw [if_neg c4] at h; cases h
  rw [if_pos c4] at h
  obtain ⟨sd, rfl⟩ : ∃ ds, d1 = .tuple ds := by
    cases d1 with
    | tuple ds => exact ⟨ds, rfl⟩
    | _ => cases c2.1
  obtain ⟨ed, rfl, hl2⟩ := isTn_tup c4
  obtain ⟨many, rfl, m1, m2⟩ : ∃ many : Nat, d0 = .int many ∧ 1 ≤ many ∧ many ≤ 4 := by
    cases d0 with
    | int i =>
      simp only [isBt, Bool.and_eq_true, decide_eq_true_eq] at c1
      exact ⟨i.toNat, by rw [Int.toNat_of_nonneg (by omega)], by omega, by omega⟩
    | _ => cases c1
  replace h : (overFl sd.length (stF many sd ed)).then (overFl sd.length (endF sd ed)) = .ok := h
  obtain ⟨h1, h2⟩ := Fl.then_ok h
  have c3' : sd.length ≤ 600 := by
    have : ¬ 600 < sd.length := c3
    omega
  have hl3 : ed.length = sd.length := by exact_mod_cast hl2
  have hw16 : (2 : Nat) ^ many ≤ 16 := Nat.pow_le_pow_right (by decide) m2
  have hs : Sm 10200 2 (.tuple sd) := by
    refine SmA.tup (SmA.mono (SmA.of_all (n := 16) fun x hx => ?_) (by omega))
    obtain ⟨i, hi, rfl⟩ := List.mem_iff_getElem.mp hx
    obtain ⟨rd, so⟩ := stF_ok' (overFl_inv h1 hi) (by omega)
    have er : sd[i] = .tuple rd := by have := so.row; simpa [hi] using this
    rw [er]
    refine SmA.tup (SmA.mono (SmA.of_all (n := 0) fun y hy => ?_) (by rw [so.len]; omega))
    obtain ⟨j, hj, rfl⟩ := List.mem_iff_getElem.mp hy
    obtain ⟨t, ht1, ht2⟩ := so.cell j (by rw [← so.len]; exact hj)
    have : rd[j] = .int t := by simpa [hj] using ht1
    rw [this]
    exact Sm.int' (Nat.lt_of_lt_of_le (by omega : (t : Int).natAbs < 1000) (by decide))
  have he : Sm 600 2 (.tuple ed) := by
    refine SmA.tup (SmA.mono (SmA.of_all (n := 0) fun x hx => ?_) (by omega))
    obtain ⟨i, hi, rfl⟩ := List.mem_iff_getElem.mp hx
    obtain ⟨rd, so⟩ := stF_ok' (overFl_inv h1 (by omega : i < sd.length)) (by omega)
    obtain ⟨b, hb⟩ := so.fin
    have : ed[i] = .bool b := by simpa [hi] using hb
    rw [this]
    exact Sm.bl'
  exact SmA.tup (SmA.cons' (n := 0) (m := 10802) (Sm.int' (Nat.lt_of_lt_of_le (by omega : (many : Int).natAbs < 1000) (by decide))) (SmA.cons' (n := 10200) (m := 601) hs (SmA.cons' (n := 600) (m := 0) he SmA.nil' (by decide)) (by decide)) (by decide))
def spValues (K : PySem.W.Frag) : Sp := fun vs H Q _ => ∃ (a l c : Addr) (n : Nat) (mv : V) (M : Mc), vs = [.ref a, mv] ∧ LSt H a l c n ∧ n ≤ 800000 ∧ Dp K H mv (machD M) ∧ McOk M ∧ M.steps.length ≤ 5 ∧
  ∀ H', Sbt a l H H' → LSt H' a l c (n + 40) → Q (.bl true) H'
def spLaw (K : PySem.W.Frag) : Sp := fun vs H Q _ => ∃ (p : Addr) (is : List Int), vs = [.ref p] ∧ SqL K H p (is.map V.int) ∧ is.length ≤ 1000 ∧ ∀ H', Q (.bl true) H'
abbrev s__law_values_right : Stmt := top 46
abbrev nm__law_values_right : List Str := ["state", "machine", "value", "due"]
abbrev pr__law_values_right : List Str := ["state", "machine"]
theorem sc__law_values_right : FnScope nm__law_values_right pr__law_values_right (defScope s__law_values_right) := ⟨rfl, rfl, rfl, by decide +kernel, rfl, by decide +kernel, by decide +kernel⟩
abbrev s_law : Stmt := top 48
abbrev nm_law : List Str := ["script", "state", "lap", "many_so", "machine", "turn", "row", "place"]
abbrev pr_law : List Str := ["script"]
theorem sc_law : FnScope nm_law pr_law (defScope s_law) := ⟨rfl, rfl, rfl, by decide +kernel, rfl, by decide +kernel, by decide +kernel⟩
section
variable {P : Program} {w : World} {K : PySem.W.Frag} {mg : Str → Option Value} {base : Heap}
theorem ok_values (B : Bl mg) (F1 : Df P w K mg base CX0 4 "_law_spoilt" pr__law_spoilt (spSpoilt K)) (F2 : Df P w K mg base CX0 2 "_law_fault" pr__law_fault (spFault K)) (F3 : Df P w K mg base CX0 5 "is_machine" pr_is_machine (spIsMachine K))
    (F4 : Df P w K mg base CX0 5 "_law_told" pr__law_told (spTold K)) (F5 : DfG P w K mg base CX0 1 "_law_like" pr__law_like (spLike K)) (D : Dt K mg "_law_values_right" s__law_values_right pr__law_values_right) :
    DfG P w K mg base CX0 6 "_law_values_right" pr__law_values_right (spValues K) := by
  refine D.okG sc__law_values_right (fun vs H Q E h => ?_) (fun f cdv A outer s H vs Q E hG hr h => ?_)
  · obtain ⟨a, l, c, n, mv, M, rfl, _⟩ := h
    rfl
  · obtain ⟨a, l, c, n, mv, M, rfl, hs, hn, hm, O, z1, k⟩ := h
    refine ⟨_, (pss_cons (ps_set (i := 2) sc__law_values_right.nd rfl (Or.inl rfl) (pe_f F1 (hr.mono (by decide)) pass0 (pa_cons (pv 0) (pa_cons (pv 1) pa_nil)))) (pss_cons (ps_set (i := 3) sc__law_values_right.nd rfl (Or.inl rfl) (pe_f F2 (hr.mono (by decide)) pass0 (pa_cons (pv 2) pa_nil))) (pss_cons (ps_if (pt_not (pt_val (pe_fG F5 hG (hr.mono (by decide)) pass0 (pa_cons (pe_f F3 (hr.mono (by decide)) pass0 (pa_cons (pv 2) pa_nil)) (pa_cons (pe_cmpR op_isN (pv 3) pe_non (nomark _)) pa_nil))))) (pss_one (ps_ret pe_bl)) pss_nil) (pss_one (ps_ret (pe_fG F5 hG (hr.mono (by decide)) pass0 (pa_cons (pe_f F4 (hr.mono (by decide)) pass0 (pa_cons (pv 2) pa_nil)) (pa_cons (pe_ifExp (pt_cmpR op_isN (pv 3) pe_non (nomark _)) (pe_tup (pa_cons pe_str (pa_cons (pv 2) pa_nil))) (pv 3)) pa_nil)))))))), ?_⟩
    walk_at "nf"
    walk_at "sx"
    refine ⟨a, l, c, n, mv, M, rfl, hs, hn, hm, O, z1, fun H1 u d e1 s1 hd => ⟨u, d, rfl, hd, fun H2 u2 e2 hu2 => ⟨u, d, rfl, hd.to e2, fun H3 e3 => ?_⟩⟩⟩
    have e23 := e2.trans e3
    have hF := Sm.fault (d := d)
    have hu3 := hu2.to e3
    have eb : decide (u2 = V.non) = isOkF (machF d) := by
      revert hu2
      cases machF d with
      | ok => intro hu2; cases hu2; rfl
      | bad l => intro hu2; obtain ⟨r, _, rfl, _⟩ := hu2.tup_inv; rfl
      | great => intro hu2; obtain ⟨r, _, rfl, _⟩ := hu2.tup_inv; rfl
    rw [eb]
    refine ⟨_, _, _, 0, 0, rfl, .bl _, .bl _, Sm.bl', by decide, by decide, _, rfl, iteF ⟨u, d, rfl, hd.to e23, fun H4 u4 e4 hu4 => ?_⟩⟩
    have fin : ∀ H', Same H4 H' → Q (.bl true) H' := fun H' e => k H' (((e1.same e23).same e4).same e) (((s1.same e23).same e4).same e)
    cases cF : machF d with
    | ok =>
      rw [cF] at hu4
      refine iteT ⟨by decide, fun p hp => ⟨u4, .ref p, _, 30000, 4, rfl, hu4.to (Same.new hp), .tup (.of upd_same) (.cons (.str _) (.cons (((hd.to e23).to e4).to (Same.new hp)) .nil)), ?_, by decide, by decide, fin _ (Same.new hp)⟩⟩
      exact SmA.tup (SmA.cons' (n := 2) (m := 20001) (Sm.str' (by decide) (by decide)) (SmA.cons' (n := 20000) (m := 0) (Sm.ofOk cF) SmA.nil' (by decide)) (by decide))
    | bad l =>
      rw [cF] at hu4 hF hu3
      exact iteF ⟨u4, u2, _, 20, 2, rfl, hu4, hu3.to e4, hF, by decide, by decide, fin _ (Same.refl _)⟩
    | great =>
      rw [cF] at hu4 hF hu3
      exact iteF ⟨u4, u2, _, 20, 2, rfl, hu4, hu3.to e4, hF, by decide, by decide, fin _ (Same.refl _)⟩
theorem fun_okG {x : Str} {st : Stmt} {f : Addr} {fd : FuncData} {N ps : List Str} {k : Nat} {sp : Sp} (F : Fun K x x st f fd) (S : FnScope N ps (defScope st)) (len : ∀ vs H Q E, sp vs H Q E → vs.length = ps.length)
    (hbody : ∀ (cdv : Value) (A : Around) (outer : List Env) (s : Shared) (H : Hp) (vs : List V) (Q : VK) (E : XK), A.guards = some [] → Room k (A.deeper (envOfC x (defScope st) s.heap.objs.size f cdv)) → sp vs H Q E →
      ∃ t, PSs (cxOf CX0 P w K mg base N x (defScope st) f cdv A outer s H E).nox (defBody st) t ∧ t { nx := fun _ H' => Q .non H', rt := Q } (start N vs) H) : FnOkG P w K mg base CX0 (k + 1) f fd ps sp := by
  obtain ⟨oc, od, kV, doc, pm, an, cdv, ct, osl, rfl, lk, hcd⟩ := F.ex
  exact fn_ofG lk hcd S len fun A outer s H vs Q E hg hr hsp => let ⟨t, h, q⟩ := hbody cdv A outer s H vs Q E hg hr hsp; ⟨t, h.nox, q⟩
theorem ok_law (B : Bl mg) (F1 : Df P w K mg base CX0 1 "_law_begin" pr__law_begin (spBegin K)) (F2 : Df P w K mg base CX0 2 "_law_draw" pr__law_draw spDraw) (F3 : Df P w K mg base CX0 3 "_law_machine" pr__law_machine (spMachine K))
    (F4 : Df P w K mg base CX0 3 "_law_great" pr__law_great spGreat) (F5 : DfG P w K mg base CX0 6 "_law_values_right" pr__law_values_right (spValues K)) (F6 : DfG P w K mg base CX0 7 "_law_runs_right" pr__law_runs_right (spRunsRight K)) {f : Addr} {fd : FuncData} (D : Fun K "law" "law" s_law f fd) :
    FnOkG P w K mg base CX0 8 f fd pr_law (spLaw K) := by
  refine fun_okG D sc_law (fun vs H Q E h => ?_) (fun cdv A outer s H vs Q E hG hr h => ?_)
  · obtain ⟨p, is, rfl, _⟩ := h
    rfl
  · obtain ⟨p, is, rfl, hs, hl, k⟩ := h
    refine ⟨_, (pss_cons (ps_set (i := 1) sc_law.nd rfl (Or.inr rfl) (pe_f F1 (hr.mono (by decide)) pass0 (pa_cons (pv 0) pa_nil))) (pss_cons (ps_for PassesOwn.never rfl (pi_range1 (by rfl) B.range (pa_cons pe_int pa_nil)) (pg_name (i := 2) sc_law.nd rfl (Or.inl rfl)) (pss_cons (ps_set (i := 3) sc_law.nd rfl (Or.inl rfl) (pe_op op_add pe_int (pe_f F2 (hr.mono (by decide)) pass0 (pa_cons (pv 1) (pa_cons pe_int pa_nil))))) (pss_cons (ps_set (i := 4) sc_law.nd rfl (Or.inl rfl) (pe_f F3 (hr.mono (by decide)) pass0 (pa_cons (pv 1) (pa_cons (pv 3) (pa_cons (pe_op op_add pe_int (pe_f F2 (hr.mono (by decide)) pass0 (pa_cons (pv 1) (pa_cons pe_int pa_nil)))) pa_nil))))) (pss_cons (ps_for PassesOwn.never rfl (pi_range1 (by rfl) B.range (pa_cons pe_int pa_nil)) (pg_name (i := 5) sc_law.nd rfl (Or.inl rfl)) (pss_one (ps_if (pt_not (pt_val (pe_fG F5 hG (hr.mono (by decide)) pass0 (pa_cons (pv 1) (pa_cons (pv 4) pa_nil))))) (pss_one (ps_ret pe_bl)) pss_nil))) (pss_one (ps_for PassesOwn.never rfl (pi_range1 (by rfl) B.range (pa_cons pe_int pa_nil)) (pg_name (i := 5) sc_law.nd rfl (Or.inl rfl)) (pss_cons (ps_set (i := 6) sc_law.nd rfl (Or.inl rfl) (pe_callTy call_tuple_of (by rfl) B.tuple PyProof.Rows.boot_tuple (pa_cons (pe_lc (own := [("place", 7)]) (g := gName 7) (tt := tYes) (by rfl) sc_law.nd (pi_range1 (by rfl) B.range (pa_cons (pv 3) pa_nil)) (blkOk_by (own := [("place", 7)]) (N := nm_law) (sc := defScope s_law) (by decide +kernel)) (fun _ _ _ _ _ => pg_name (i := 7) sc_law.nd rfl (Or.inl rfl)) (fun _ _ _ _ _ => pts_nil) (fun _ _ _ _ _ => (pe_f F4 (hr.mono (by decide)) pass0 (pa_cons (pv 1) pa_nil)))) pa_nil))) (pss_cons (ps_if (pt_cmpR op_eq (pv 5) pe_int (nomark _)) (pss_one (ps_set (i := 6) sc_law.nd rfl (Or.inl rfl) (pe_callTy call_tuple_of (by rfl) B.tuple PyProof.Rows.boot_tuple (pa_cons (pe_lc (own := [("place", 7)]) (g := gName 7) (tt := tYes) (by rfl) sc_law.nd (pi_range1 (by rfl) B.range (pa_cons (pv 3) pa_nil)) (blkOk_by (own := [("place", 7)]) (N := nm_law) (sc := defScope s_law) (by decide +kernel)) (fun _ _ _ _ _ => pg_name (i := 7) sc_law.nd rfl (Or.inl rfl)) (fun _ _ _ _ _ => pts_nil) (fun _ _ _ _ _ => (pe_f F2 (hr.mono (by decide)) pass0 (pa_cons (pv 1) (pa_cons pe_int pa_nil))))) pa_nil)))) pss_nil) (pss_one (ps_if (pt_not (pt_val (pe_fG F6 hG (hr.mono (by decide)) pass0 (pa_cons (pv 4) (pa_cons (pv 6) pa_nil))))) (pss_one (ps_ret pe_bl)) pss_nil)))))))))) (pss_one (ps_ret pe_bl)))), ?_⟩
    walk_at "nf"
    walk_at "sx"
    refine ⟨p, is, rfl, hs, hl, fun H1 a l c e1 s1 => ?_⟩
    refine ⟨_, rfl, by omega, by omega, for_it walk_range (fun i σ H' => ∃ v2 v3 v4 v5 v6, σ = [some (.ref p), some (.ref a), v2, v3, v4, v5, v6, none] ∧ LSt H' a l c (i * 400))
      ⟨_, _, _, _, _, rfl, by rw [Nat.zero_mul]; exact s1⟩ (fun _ _ _ _ _ => trivial) ?_ ?_⟩
    · rintro i x σ H2 H3 hi ⟨v2, v3, v4, v5, v6, rfl, s3⟩ ⟨rfl, rfl⟩
      have hi3 : i < 3 := by simpa using hi
      try walk_at "nf"
      try walk_at "sx"
      refine ⟨a, l, c, i * 400, 3, rfl, s3, by omega, by decide, by decide, fun H4 r4 e4 s4 a4 b4 => ⟨r4, rfl, a, l, c, i * 400 + 1, 5, rfl, s4, by omega, by decide, by decide, fun H5 r5 e5 s5 a5 b5 => ⟨r5, rfl, ?_⟩⟩⟩
      obtain ⟨m4, rfl⟩ : ∃ m : Nat, r4 = (m : Int) := ⟨r4.toNat, by omega⟩
      obtain ⟨m5, rfl⟩ : ∃ m : Nat, r5 = (m : Int) := ⟨r5.toNat, by omega⟩
      refine ⟨a, l, c, i * 400 + 2, 1 + m4, 1 + m5, by push_cast; rfl, s5, by omega, by omega, by omega, by omega, by omega, fun H6 mv M e6 s6 hm O hM hS => ?_⟩
      try walk_at "nf"
      try walk_at "sx"
      refine ⟨_, rfl, by omega, by omega, for_it walk_range (fun j σ H' => ∃ v5, σ = [some (.ref p), some (.ref a), some (.int (0 + i)), some (.int (1 + m4)), some mv, v5, v6, none] ∧ LSt H' a l c (i * 400 + 62 + j * 40) ∧ Dp K H' mv (machD M))
        ⟨_, rfl, s6.mono (by omega), hm⟩ (fun _ _ _ _ _ => trivial) ?_ ?_⟩
      · rintro j x σ H7 H8 hj ⟨v5, rfl, s7, hm7⟩ ⟨rfl, rfl⟩
        have hj3 : j < 3 := by simpa using hj
        try walk_at "nf"
        try walk_at "sx"
        exact ⟨a, l, c, i * 400 + 62 + j * 40, mv, M, rfl, s7, by omega, hm7, O, by omega, fun H9 e9 s9 => ⟨_, rfl, iteF ⟨s9.mono (by omega), keepT e9 s7 _ _ (noList_mach M) hm7⟩⟩⟩
      · rintro σ H7 ⟨v5, rfl, s7, hm7⟩
        try walk_at "nf"
        try walk_at "sx"
        refine ⟨_, rfl, by omega, by omega, for_it walk_range (fun j σ H' => ∃ v5 v6, σ = [some (.ref p), some (.ref a), some (.int (0 + i)), some (.int (1 + m4)), some mv, v5, v6, none] ∧ LSt H' a l c (i * 400 + 182 + j * 20) ∧ Dp K H' mv (machD M))
          ⟨_, _, rfl, s7.mono (by omega), hm7⟩ (fun _ _ _ _ _ => trivial) ?_ ?_⟩
        · rintro j x σ H8 H9 hj ⟨v5, v6, rfl, s9, hm9⟩ ⟨rfl, rfl⟩
          have hj3 : j < 3 := by simpa using hj
          have fin : ∀ (G : Hp) (rv : V) (ns : List Nat), LSt G a l c (i * 400 + 182 + (j + 1) * 20) → Dp K G mv (machD M) → Dp K G rv (rowD ns) → ns.length = M.many → (∀ n ∈ ns, n < 10 ^ 60) →
              spRunsRight K [mv, rv] G (fun x H1 => ∃ c_1, x = V.bl c_1 ∧ if (!c_1) = true then Q (V.bl false) H1 else LSt H1 a l c (i * 400 + 182 + (j + 1) * 20) ∧ Dp K H1 mv (machD M)) E0 :=
            fun G rv ns g1 g2 g3 g4 g5 => ⟨mv, rv, M, ns, rfl, g2, O, g3, g4, g5, fun H' e => ⟨_, rfl, iteF ⟨g1.same e, g2.to e⟩⟩⟩
          try walk_at "nf"
          try walk_at "sx"
          have hn3 : ((1 + (m4 : Int)) - 0).toNat = M.many := by rw [hM]; omega
          refine ⟨_, rfl, _, rfl, by omega, by omega, fun D hD => lcD walk_range 4 hD (slt (by omega)) (fun _ y => ∃ r : Nat, y = V.int r ∧ r < 10 ^ 45) s9 (fun _ => trivial) (fun q x H10 H11 Q1 hq e10 s10 y qq => ?_) (fun H10 ys e10 s10 hD10 hn10 hR10 => ?_)⟩
          · obtain ⟨rfl, rfl⟩ := y
            try walk_at "nf"
            try walk_at "sx"
            exact ⟨a, l, c, _, rfl, s10, by omega, fun H12 r12 e12 s12 b12 => qq _ _ ⟨r12, rfl, b12⟩ e12 (s12.mono (by omega))⟩
          · obtain ⟨ns, rfl, hnl, hnb⟩ := ints_of (b := 10 ^ 45) hR10
            have hnm : ns.length = M.many := by rw [hnl, hn10]; omega
            try walk_at "nf"
            try walk_at "sx"
            refine ⟨_, .inl ⟨.of hD10, fun t ht => ⟨rfl, ?_⟩⟩⟩
            have hm10 := (keepT e10 s9 _ _ (noList_mach M) hm9)
            have ht10 := hm10.to (Same.new (o := HO.tup ((nI ns).map V.int)) ht)
            have s11 := s10.new (o := HO.tup ((nI ns).map V.int)) ht
            have hr11 : Dp K (upd H10 t (HO.tup ((nI ns).map V.int))) (.ref t) (rowD ns) := Dp.tup_ints (.of upd_same)
            have hnb2 : ∀ n ∈ ns, n < 10 ^ 60 := fun n hn => Nat.lt_trans (hnb n hn) (by decide)
            by_cases c0 : j = 0
            · rw [decide_eq_true (by omega)]
              refine iteT ⟨_, rfl, _, rfl, by omega, by omega, fun D2 hD2 => lcD walk_range 1 hD2 (slt (by omega)) (fun _ y => ∃ r : Nat, y = V.int r ∧ r < 9) s11 (fun _ => trivial) (fun q x H12 H13 Q1 hq e12 s12 y qq => ?_) (fun H12 ys e12 s12 hD12 hn12 hR12 => ?_)⟩
              · obtain ⟨rfl, rfl⟩ := y
                try walk_at "nf"
                try walk_at "sx"
                refine ⟨a, l, c, _, 9, rfl, s12, by omega, by decide, by decide, fun H14 r14 e14 s14 a14 b14 => ?_⟩
                exact qq _ _ ⟨r14.toNat, by rw [Int.toNat_of_nonneg a14], by omega⟩ e14 (s14.mono (by omega))
              · obtain ⟨ms, rfl, hml, hmb⟩ := ints_of (b := 9) hR12
                have hmm : ms.length = M.many := by rw [hml, hn12]; omega
                refine ⟨D2, rfl, _, .inl ⟨.of hD12, fun t2 ht2 => ?_⟩⟩
                exact fin _ (.ref t2) ms ((s12.new ht2).mono (by omega)) ((keepT e12 s11 _ _ (noList_mach M) ht10).to (Same.new ht2)) (Dp.tup_ints (.of upd_same)) hmm (fun n hn => Nat.lt_trans (hmb n hn) (by decide))
            · rw [decide_eq_false (by omega)]
              refine iteF ?_
              exact fin _ (.ref t) ns (s11.mono (by omega)) ht10 hr11 hnm hnb2
        · rintro σ H8 ⟨v5, v6, rfl, s9, hm9⟩
          exact ⟨_, _, _, _, _, rfl, s9.mono (by simp; omega)⟩
    · rintro σ H2 ⟨v2, v3, v4, v5, v6, rfl, s3⟩
      try walk_at "nf"
      try walk_at "sx"
      exact k H2
end
end Ws
/-! ## K14q -/
namespace Ws
open PySem PySem.Spec PyProof.Rows L2
theorem hb_columns_in (kV doc pm : Value) (an : Option Addr) (cdv ct : Value) (us : List Value) (hl : us.length = pr_columns_in.length) : bindArgs (PySem.W.fnOf "columns_in" "columns_in" (defArgs s_columns_in) (defBody s_columns_in) (defScope s_columns_in) .none kV doc pm an cdv ct) ⟨us, []⟩ = pure (pr_columns_in.zip us) :=
  match us, hl with
  | [_], _ => rfl
theorem hb_column_at (kV doc pm : Value) (an : Option Addr) (cdv ct : Value) (us : List Value) (hl : us.length = pr_column_at.length) : bindArgs (PySem.W.fnOf "column_at" "column_at" (defArgs s_column_at) (defBody s_column_at) (defScope s_column_at) .none kV doc pm an cdv ct) ⟨us, []⟩ = pure (pr_column_at.zip us) :=
  match us, hl with
  | [_, _], _ => rfl
theorem hb_is_integer (kV doc pm : Value) (an : Option Addr) (cdv ct : Value) (us : List Value) (hl : us.length = pr_is_integer.length) : bindArgs (PySem.W.fnOf "is_integer" "is_integer" (defArgs s_is_integer) (defBody s_is_integer) (defScope s_is_integer) .none kV doc pm an cdv ct) ⟨us, []⟩ = pure (pr_is_integer.zip us) :=
  match us, hl with
  | [_], _ => rfl
theorem hb_is_between (kV doc pm : Value) (an : Option Addr) (cdv ct : Value) (us : List Value) (hl : us.length = pr_is_between.length) : bindArgs (PySem.W.fnOf "is_between" "is_between" (defArgs s_is_between) (defBody s_is_between) (defScope s_is_between) .none kV doc pm an cdv ct) ⟨us, []⟩ = pure (pr_is_between.zip us) :=
  match us, hl with
  | [_, _, _], _ => rfl
theorem hb_is_tuple_of (kV doc pm : Value) (an : Option Addr) (cdv ct : Value) (us : List Value) (hl : us.length = pr_is_tuple_of.length) : bindArgs (PySem.W.fnOf "is_tuple_of" "is_tuple_of" (defArgs s_is_tuple_of) (defBody s_is_tuple_of) (defScope s_is_tuple_of) .none kV doc pm an cdv ct) ⟨us, []⟩ = pure (pr_is_tuple_of.zip us) :=
  match us, hl with
  | [_, _], _ => rfl
theorem hb_are_between (kV doc pm : Value) (an : Option Addr) (cdv ct : Value) (us : List Value) (hl : us.length = pr_are_between.length) : bindArgs (PySem.W.fnOf "are_between" "are_between" (defArgs s_are_between) (defBody s_are_between) (defScope s_are_between) .none kV doc pm an cdv ct) ⟨us, []⟩ = pure (pr_are_between.zip us) :=
  match us, hl with
  | [_, _, _], _ => rfl
theorem hb_is_row (kV doc pm : Value) (an : Option Addr) (cdv ct : Value) (us : List Value) (hl : us.length = pr_is_row.length) : bindArgs (PySem.W.fnOf "is_row" "is_row" (defArgs s_is_row) (defBody s_is_row) (defScope s_is_row) .none kV doc pm an cdv ct) ⟨us, []⟩ = pure (pr_is_row.zip us) :=
  match us, hl with
  | [_, _], _ => rfl
theorem hb_need_many (kV doc pm : Value) (an : Option Addr) (cdv ct : Value) (us : List Value) (hl : us.length = pr_need_many.length) : bindArgs (PySem.W.fnOf "need_many" "need_many" (defArgs s_need_many) (defBody s_need_many) (defScope s_need_many) .none kV doc pm an cdv ct) ⟨us, []⟩ = pure (pr_need_many.zip us) :=
  match us, hl with
  | [_], _ => rfl
theorem hb_need_row (kV doc pm : Value) (an : Option Addr) (cdv ct : Value) (us : List Value) (hl : us.length = pr_need_row.length) : bindArgs (PySem.W.fnOf "need_row" "need_row" (defArgs s_need_row) (defBody s_need_row) (defScope s_need_row) .none kV doc pm an cdv ct) ⟨us, []⟩ = pure (pr_need_row.zip us) :=
  match us, hl with
  | [_, _], _ => rfl
theorem hb_need_machine (kV doc pm : Value) (an : Option Addr) (cdv ct : Value) (us : List Value) (hl : us.length = pr_need_machine.length) : bindArgs (PySem.W.fnOf "need_machine" "need_machine" (defArgs s_need_machine) (defBody s_need_machine) (defScope s_need_machine) .none kV doc pm an cdv ct) ⟨us, []⟩ = pure (pr_need_machine.zip us) :=
  match us, hl with
  | [_], _ => rfl
theorem hb_need_state (kV doc pm : Value) (an : Option Addr) (cdv ct : Value) (us : List Value) (hl : us.length = pr_need_state.length) : bindArgs (PySem.W.fnOf "need_state" "need_state" (defArgs s_need_state) (defBody s_need_state) (defScope s_need_state) .none kV doc pm an cdv ct) ⟨us, []⟩ = pure (pr_need_state.zip us) :=
  match us, hl with
  | [_, _, _, _], _ => rfl
theorem hb_is_machine (kV doc pm : Value) (an : Option Addr) (cdv ct : Value) (us : List Value) (hl : us.length = pr_is_machine.length) : bindArgs (PySem.W.fnOf "is_machine" "is_machine" (defArgs s_is_machine) (defBody s_is_machine) (defScope s_is_machine) .none kV doc pm an cdv ct) ⟨us, []⟩ = pure (pr_is_machine.zip us) :=
  match us, hl with
  | [_], _ => rfl
theorem hb_columns_of (kV doc pm : Value) (an : Option Addr) (cdv ct : Value) (us : List Value) (hl : us.length = pr_columns_of.length) : bindArgs (PySem.W.fnOf "columns_of" "columns_of" (defArgs s_columns_of) (defBody s_columns_of) (defScope s_columns_of) .none kV doc pm an cdv ct) ⟨us, []⟩ = pure (pr_columns_of.zip us) :=
  match us, hl with
  | [_, _], _ => rfl
theorem hb_row_of (kV doc pm : Value) (an : Option Addr) (cdv ct : Value) (us : List Value) (hl : us.length = pr_row_of.length) : bindArgs (PySem.W.fnOf "row_of" "row_of" (defArgs s_row_of) (defBody s_row_of) (defScope s_row_of) .none kV doc pm an cdv ct) ⟨us, []⟩ = pure (pr_row_of.zip us) :=
  match us, hl with
  | [_, _], _ => rfl
theorem hb_number_of (kV doc pm : Value) (an : Option Addr) (cdv ct : Value) (us : List Value) (hl : us.length = pr_number_of.length) : bindArgs (PySem.W.fnOf "number_of" "number_of" (defArgs s_number_of) (defBody s_number_of) (defScope s_number_of) .none kV doc pm an cdv ct) ⟨us, []⟩ = pure (pr_number_of.zip us) :=
  match us, hl with
  | [_, _], _ => rfl
theorem hb_run_of (kV doc pm : Value) (an : Option Addr) (cdv ct : Value) (us : List Value) (hl : us.length = pr_run_of.length) : bindArgs (PySem.W.fnOf "run_of" "run_of" (defArgs s_run_of) (defBody s_run_of) (defScope s_run_of) .none kV doc pm an cdv ct) ⟨us, []⟩ = pure (pr_run_of.zip us) :=
  match us, hl with
  | [_, _], _ => rfl
theorem hb_takes (kV doc pm : Value) (an : Option Addr) (cdv ct : Value) (us : List Value) (hl : us.length = pr_takes.length) : bindArgs (PySem.W.fnOf "takes" "takes" (defArgs s_takes) (defBody s_takes) (defScope s_takes) .none kV doc pm an cdv ct) ⟨us, []⟩ = pure (pr_takes.zip us) :=
  match us, hl with
  | [_, _], _ => rfl
theorem hb__law_mixed (kV doc pm : Value) (an : Option Addr) (cdv ct : Value) (us : List Value) (hl : us.length = pr__law_mixed.length) : bindArgs (PySem.W.fnOf "_law_mixed" "_law_mixed" (defArgs s__law_mixed) (defBody s__law_mixed) (defScope s__law_mixed) .none kV doc pm an cdv ct) ⟨us, []⟩ = pure (pr__law_mixed.zip us) :=
  match us, hl with
  | [_, _], _ => rfl
theorem hb__law_begin (kV doc pm : Value) (an : Option Addr) (cdv ct : Value) (us : List Value) (hl : us.length = pr__law_begin.length) : bindArgs (PySem.W.fnOf "_law_begin" "_law_begin" (defArgs s__law_begin) (defBody s__law_begin) (defScope s__law_begin) .none kV doc pm an cdv ct) ⟨us, []⟩ = pure (pr__law_begin.zip us) :=
  match us, hl with
  | [_], _ => rfl
theorem hb__law_draw (kV doc pm : Value) (an : Option Addr) (cdv ct : Value) (us : List Value) (hl : us.length = pr__law_draw.length) : bindArgs (PySem.W.fnOf "_law_draw" "_law_draw" (defArgs s__law_draw) (defBody s__law_draw) (defScope s__law_draw) .none kV doc pm an cdv ct) ⟨us, []⟩ = pure (pr__law_draw.zip us) :=
  match us, hl with
  | [_, _], _ => rfl
theorem hb__law_width (kV doc pm : Value) (an : Option Addr) (cdv ct : Value) (us : List Value) (hl : us.length = pr__law_width.length) : bindArgs (PySem.W.fnOf "_law_width" "_law_width" (defArgs s__law_width) (defBody s__law_width) (defScope s__law_width) .none kV doc pm an cdv ct) ⟨us, []⟩ = pure (pr__law_width.zip us) :=
  match us, hl with
  | [_], _ => rfl
theorem hb__law_great (kV doc pm : Value) (an : Option Addr) (cdv ct : Value) (us : List Value) (hl : us.length = pr__law_great.length) : bindArgs (PySem.W.fnOf "_law_great" "_law_great" (defArgs s__law_great) (defBody s__law_great) (defScope s__law_great) .none kV doc pm an cdv ct) ⟨us, []⟩ = pure (pr__law_great.zip us) :=
  match us, hl with
  | [_], _ => rfl
theorem hb__law_machine (kV doc pm : Value) (an : Option Addr) (cdv ct : Value) (us : List Value) (hl : us.length = pr__law_machine.length) : bindArgs (PySem.W.fnOf "_law_machine" "_law_machine" (defArgs s__law_machine) (defBody s__law_machine) (defScope s__law_machine) .none kV doc pm an cdv ct) ⟨us, []⟩ = pure (pr__law_machine.zip us) :=
  match us, hl with
  | [_, _, _], _ => rfl
theorem hb__law_columns (kV doc pm : Value) (an : Option Addr) (cdv ct : Value) (us : List Value) (hl : us.length = pr__law_columns.length) : bindArgs (PySem.W.fnOf "_law_columns" "_law_columns" (defArgs s__law_columns) (defBody s__law_columns) (defScope s__law_columns) .none kV doc pm an cdv ct) ⟨us, []⟩ = pure (pr__law_columns.zip us) :=
  match us, hl with
  | [_], _ => rfl
theorem hb__law_led (kV doc pm : Value) (an : Option Addr) (cdv ct : Value) (us : List Value) (hl : us.length = pr__law_led.length) : bindArgs (PySem.W.fnOf "_law_led" "_law_led" (defArgs s__law_led) (defBody s__law_led) (defScope s__law_led) .none kV doc pm an cdv ct) ⟨us, []⟩ = pure (pr__law_led.zip us) :=
  match us, hl with
  | [_, _], _ => rfl
theorem hb__law_like (kV doc pm : Value) (an : Option Addr) (cdv ct : Value) (us : List Value) (hl : us.length = pr__law_like.length) : bindArgs (PySem.W.fnOf "_law_like" "_law_like" (defArgs s__law_like) (defBody s__law_like) (defScope s__law_like) .none kV doc pm an cdv ct) ⟨us, []⟩ = pure (pr__law_like.zip us) :=
  match us, hl with
  | [_, _], _ => rfl
theorem hb__law_int (kV doc pm : Value) (an : Option Addr) (cdv ct : Value) (us : List Value) (hl : us.length = pr__law_int.length) : bindArgs (PySem.W.fnOf "_law_int" "_law_int" (defArgs s__law_int) (defBody s__law_int) (defScope s__law_int) .none kV doc pm an cdv ct) ⟨us, []⟩ = pure (pr__law_int.zip us) :=
  match us, hl with
  | [_, _, _], _ => rfl
theorem hb__law_fault (kV doc pm : Value) (an : Option Addr) (cdv ct : Value) (us : List Value) (hl : us.length = pr__law_fault.length) : bindArgs (PySem.W.fnOf "_law_fault" "_law_fault" (defArgs s__law_fault) (defBody s__law_fault) (defScope s__law_fault) .none kV doc pm an cdv ct) ⟨us, []⟩ = pure (pr__law_fault.zip us) :=
  match us, hl with
  | [_], _ => rfl
theorem hb__law_odd_row (kV doc pm : Value) (an : Option Addr) (cdv ct : Value) (us : List Value) (hl : us.length = pr__law_odd_row.length) : bindArgs (PySem.W.fnOf "_law_odd_row" "_law_odd_row" (defArgs s__law_odd_row) (defBody s__law_odd_row) (defScope s__law_odd_row) .none kV doc pm an cdv ct) ⟨us, []⟩ = pure (pr__law_odd_row.zip us) :=
  match us, hl with
  | [_, _, _], _ => rfl
theorem hb__law_spoilt (kV doc pm : Value) (an : Option Addr) (cdv ct : Value) (us : List Value) (hl : us.length = pr__law_spoilt.length) : bindArgs (PySem.W.fnOf "_law_spoilt" "_law_spoilt" (defArgs s__law_spoilt) (defBody s__law_spoilt) (defScope s__law_spoilt) .none kV doc pm an cdv ct) ⟨us, []⟩ = pure (pr__law_spoilt.zip us) :=
  match us, hl with
  | [_, _], _ => rfl
theorem hb__law_told (kV doc pm : Value) (an : Option Addr) (cdv ct : Value) (us : List Value) (hl : us.length = pr__law_told.length) : bindArgs (PySem.W.fnOf "_law_told" "_law_told" (defArgs s__law_told) (defBody s__law_told) (defScope s__law_told) .none kV doc pm an cdv ct) ⟨us, []⟩ = pure (pr__law_told.zip us) :=
  match us, hl with
  | [_], _ => rfl
theorem hb__law_values_right (kV doc pm : Value) (an : Option Addr) (cdv ct : Value) (us : List Value) (hl : us.length = pr__law_values_right.length) : bindArgs (PySem.W.fnOf "_law_values_right" "_law_values_right" (defArgs s__law_values_right) (defBody s__law_values_right) (defScope s__law_values_right) .none kV doc pm an cdv ct) ⟨us, []⟩ = pure (pr__law_values_right.zip us) :=
  match us, hl with
  | [_, _], _ => rfl
theorem hb__law_runs_right (kV doc pm : Value) (an : Option Addr) (cdv ct : Value) (us : List Value) (hl : us.length = pr__law_runs_right.length) : bindArgs (PySem.W.fnOf "_law_runs_right" "_law_runs_right" (defArgs s__law_runs_right) (defBody s__law_runs_right) (defScope s__law_runs_right) .none kV doc pm an cdv ct) ⟨us, []⟩ = pure (pr__law_runs_right.zip us) :=
  match us, hl with
  | [_, _], _ => rfl
theorem hb_law (kV doc pm : Value) (an : Option Addr) (cdv ct : Value) (us : List Value) (hl : us.length = pr_law.length) : bindArgs (PySem.W.fnOf "law" "law" (defArgs s_law) (defBody s_law) (defScope s_law) .none kV doc pm an cdv ct) ⟨us, []⟩ = pure (pr_law.zip us) :=
  match us, hl with
  | [_], _ => rfl
section
variable {P : Program} {w : World} {K : PySem.W.Frag} {mg : Str → Option Value} {base : Heap}
structure DAll (K : PySem.W.Frag) (mg : Str → Option Value) : Prop where
  columns_in : Dt K mg "columns_in" s_columns_in pr_columns_in
  column_at : Dt K mg "column_at" s_column_at pr_column_at
  is_integer : Dt K mg "is_integer" s_is_integer pr_is_integer
  is_between : Dt K mg "is_between" s_is_between pr_is_between
  is_tuple_of : Dt K mg "is_tuple_of" s_is_tuple_of pr_is_tuple_of
  are_between : Dt K mg "are_between" s_are_between pr_are_between
  is_row : Dt K mg "is_row" s_is_row pr_is_row
  need_many : Dt K mg "need_many" s_need_many pr_need_many
  need_row : Dt K mg "need_row" s_need_row pr_need_row
  need_machine : Dt K mg "need_machine" s_need_machine pr_need_machine
  need_state : Dt K mg "need_state" s_need_state pr_need_state
  is_machine : Dt K mg "is_machine" s_is_machine pr_is_machine
  columns_of : Dt K mg "columns_of" s_columns_of pr_columns_of
  row_of : Dt K mg "row_of" s_row_of pr_row_of
  number_of : Dt K mg "number_of" s_number_of pr_number_of
  run_of : Dt K mg "run_of" s_run_of pr_run_of
  takes : Dt K mg "takes" s_takes pr_takes
  _law_mixed : Dt K mg "_law_mixed" s__law_mixed pr__law_mixed
  _law_begin : Dt K mg "_law_begin" s__law_begin pr__law_begin
  _law_draw : Dt K mg "_law_draw" s__law_draw pr__law_draw
  _law_width : Dt K mg "_law_width" s__law_width pr__law_width
  _law_great : Dt K mg "_law_great" s__law_great pr__law_great
  _law_machine : Dt K mg "_law_machine" s__law_machine pr__law_machine
  _law_columns : Dt K mg "_law_columns" s__law_columns pr__law_columns
  _law_led : Dt K mg "_law_led" s__law_led pr__law_led
  _law_like : Dt K mg "_law_like" s__law_like pr__law_like
  _law_int : Dt K mg "_law_int" s__law_int pr__law_int
  _law_fault : Dt K mg "_law_fault" s__law_fault pr__law_fault
  _law_odd_row : Dt K mg "_law_odd_row" s__law_odd_row pr__law_odd_row
  _law_spoilt : Dt K mg "_law_spoilt" s__law_spoilt pr__law_spoilt
  _law_told : Dt K mg "_law_told" s__law_told pr__law_told
  _law_values_right : Dt K mg "_law_values_right" s__law_values_right pr__law_values_right
  _law_runs_right : Dt K mg "_law_runs_right" s__law_runs_right pr__law_runs_right
structure EAll (K : PySem.W.Frag) (mg : Str → Option Value) : Prop where
  ex : ∃ SA BM TG fB fT, ∃ (fdB fdT : FuncData), ErT K mg "BadMachine" "place" "BadMachine.__init__" s_BM BM fB fdB ∧ ErT K mg "TooGreat" "most" "TooGreat.__init__" s_TG TG fT fdT ∧ ExS K mg SA BM TG
theorem all_ok (B : Bl mg) (C : Cs mg) (Er : EAll K mg) (D : DAll K mg) {f : Addr} {fd : FuncData} (F : Fun K "law" "law" s_law f fd) : FnOkG P w K mg base CX0 8 f fd pr_law (spLaw K) := by
  obtain ⟨SA, BM, TG, fB, fT, fdB, fdT, e1, e2, X⟩ := Er.ex
  have T : ErS P w K mg base BM TG := ⟨ok_BM e1, ok_TG e2⟩
  have is_integer : Df P w K mg base CX0 1 "is_integer" pr_is_integer (spIsInteger K) := ok_is_integer B D.is_integer
  have is_between : Df P w K mg base CX0 2 "is_between" pr_is_between (spIsBetween K) := ok_is_between B is_integer D.is_between
  have is_tuple_of : Df P w K mg base CX0 1 "is_tuple_of" pr_is_tuple_of (spIsTupleOf K) := ok_is_tuple_of B D.is_tuple_of
  have are_between : Df P w K mg base CX0 3 "are_between" pr_are_between (spAreBetween K) := ok_are_between B is_between D.are_between
  have is_row : Df P w K mg base CX0 4 "is_row" pr_is_row (spIsRow K) := ok_is_row C is_tuple_of are_between D.is_row
  have need_many : Df P w K mg base CX0 3 "need_many" pr_need_many spNeedMany := ok_need_many is_between D.need_many
  have need_row : Df P w K mg base CX0 5 "need_row" pr_need_row (spNeedRow K) := ok_need_row need_many is_row D.need_row
  have column_at : Df P w K mg base CX0 1 "column_at" pr_column_at (spColumnAt K) := ok_column_at B D.column_at
  have columns_in : Df P w K mg base CX0 2 "columns_in" pr_columns_in (spColumnsIn K) := ok_columns_in B column_at D.columns_in
  have columns_of : Df P w K mg base CX0 6 "columns_of" pr_columns_of (spColumnsOf K) := ok_columns_of B need_row columns_in D.columns_of
  have number_of : Df P w K mg base CX0 1 "number_of" pr_number_of (spNumberOf K) := ok_number_of B D.number_of
  have row_of : Df P w K mg base CX0 4 "row_of" pr_row_of (spRowOf K) := ok_row_of B C need_many is_between number_of D.row_of
  have need_state : Df P w K mg base (L2.CX P w) 3 "need_state" pr_need_state (spNeedState K BM TG) := ok_need_state B T is_tuple_of is_between D.need_state
  have need_machine : Df P w K mg base (L2.CX P w) 4 "need_machine" pr_need_machine (spNeedMachine K BM TG) := ok_need_machine B C T is_tuple_of is_between need_state D.need_machine
  have is_machine : Df P w K mg base CX0 5 "is_machine" pr_is_machine (spIsMachine K) := ok_is_machine X need_machine D.is_machine
  have run_of : Df P w K mg base CX0 5 "run_of" pr_run_of (spRunOf K) := ok_run_of B need_machine is_row columns_in D.run_of
  have takes : Df P w K mg base CX0 6 "takes" pr_takes (spTakes K) := ok_takes run_of D.takes
  have told : Df P w K mg base CX0 5 "_law_told" pr__law_told (spTold K) := ok_told X T need_machine D._law_told
  have lint : Df P w K mg base CX0 1 "_law_int" pr__law_int (spIsBetween K) := ok_law_int B D._law_int
  have width : Df P w K mg base CX0 1 "_law_width" pr__law_width spWidth := ok_width D._law_width
  have fault : Df P w K mg base CX0 2 "_law_fault" pr__law_fault (spFault K) := ok_fault B lint width D._law_fault
  have lcols : Df P w K mg base CX0 1 "_law_columns" pr__law_columns (spLawColumns K) := ok_law_columns B D._law_columns
  have led : Df P w K mg base CX0 2 "_law_led" pr__law_led (spLed K) := ok_led lcols B D._law_led
  have like : DfG P w K mg base CX0 1 "_law_like" pr__law_like (spLike K) := ok_like B D._law_like
  have runs : DfG P w K mg base CX0 7 "_law_runs_right" pr__law_runs_right (spRunsRight K) := ok_runs_right B lcols columns_of row_of led run_of takes like D._law_runs_right
  have mixed : Df P w K mg base CX0 1 "_law_mixed" pr__law_mixed spMixed := ok_mixed B D._law_mixed
  have draw : Df P w K mg base CX0 2 "_law_draw" pr__law_draw spDraw := ok_draw B mixed D._law_draw
  have great : Df P w K mg base CX0 3 "_law_great" pr__law_great spGreat := ok_great B draw D._law_great
  have machine : Df P w K mg base CX0 3 "_law_machine" pr__law_machine (spMachine K) := ok_machine B draw width D._law_machine
  have begin' : Df P w K mg base CX0 1 "_law_begin" pr__law_begin (spBegin K) := ok_begin B D._law_begin
  have odd : Df P w K mg base CX0 3 "_law_odd_row" pr__law_odd_row (spOddRow K) := ok_odd_row B draw D._law_odd_row
  have spoilt : Df P w K mg base CX0 4 "_law_spoilt" pr__law_spoilt (spSpoilt K) := ok_spoilt B draw odd D._law_spoilt
  have values : DfG P w K mg base CX0 6 "_law_values_right" pr__law_values_right (spValues K) := ok_values B spoilt fault is_machine told like D._law_values_right
  exact ok_law B begin' draw machine great values runs F
end
/-! ### the end -/
theorem lawCallG {P : Program} {w : World} {K : PySem.W.Frag} {mg mb : Str → Option Value} {k : Nat} {fa a : Addr} {fd : FuncData} {x : Str} {sp : Sp} {s₁ : Shared} {vs : List Value} {ns : List Int}
    (KX : K.In s₁.heap) (hns : s₁.heap.Ns mainGlobals mg) (hb : s₁.heap.Ns builtinsNs mb) (hbb : ∀ y : Str, y ≠ "__name__" → mb y = bootBuiltins y) (hlim : s₁.heap.NoLimit) (hg : s₁.gens = #[])
    (ha : s₁.heap.get? a = some { cls := .type "list", data := .seq vs.toArray }) (hi : IntsAre vs ns) (hl : ns.length ≤ sizeLine) (hr : Room k callerA)
    (F : ∀ base : Heap, K.In base → base.Ns mainGlobals mg → FnOkG P w K mg base CX0 k fa fd [x] sp) (hbind : ∀ (s : Shared) (u : Value), BindsTo s fd ⟨[u], []⟩ [(x, u)])
    (hsp : ∀ H : Hp, Only H → SqL K H a (ns.map V.int) → sp [.ref a] H (fun v _ => v = .bl true) fun _ _ _ => False) :
    codeAny (model P w) callerA (.call (.ref fa) ⟨[.ref a], []⟩) (fun r s' => r = .ok (.ret (.bool true)) ∧ PySem.OldK s₁.heap s'.heap ∧ s'.os = s₁.os ∧ AllBare s'.gens) s₁ := by
  have rv := vals_ints hi
  have lv := hi.length
  have main : ∀ T : Hp, Only T → SqL K T a (ns.map V.int) → HOk P w T s₁.heap → (∀ b, T b ≠ none → b = a) → (T a ≠ none → K.lookup a = none) →
      codeAny (model P w) callerA (.call (.ref fa) ⟨[.ref a], []⟩) (fun r s' => r = .ok (.ret (.bool true)) ∧ PySem.OldK s₁.heap s'.heap ∧ s'.os = s₁.os ∧ AllBare s'.gens) s₁ := fun T tO tS tk tA tK => by
    have at_a : ∀ {b : Addr} {u : HO}, T b = some u → b = a := fun {b u} z => tA b (by rw [z]; exact fun y => nomatch y)
    have dict0 : ∀ {b : Addr} {o : Obj} {es : Array DictEntry} {ep : Nat}, s₁.heap.get? b = some o → o.data = .dict es ep → T b = none := fun {b o es ep} z d => by
      cases t : T b with
      | none => rfl
      | some u =>
        obtain rfl := at_a t
        have z2 := ha.symm.trans z
        cases z2
        exact nomatch d
    have dicts : ∀ {b : Addr} {m : Str → Option Value}, s₁.heap.Ns b m → (hidT s₁.heap T).Ns b m := fun {b m} z =>
      let ⟨o, es, ep, g1, g2, g3⟩ := z
      ⟨o, es, ep, hidT_get g1 (dict0 g1 g2), g2, g3⟩
    have kin : K.In (hidT s₁.heap T) := fun b o z => hidT_get (KX b o z) (by
      cases t : T b with
      | none => rfl
      | some u =>
        obtain rfl := at_a t
        have no := tK (fun y => by rw [t] at y; exact nomatch y)
        rw [no] at z
        exact nomatch z)
    obtain ⟨mc, lim1, lim2⟩ := hlim
    have mods : Mod K mg (hidT s₁.heap T) := ⟨kin, dicts hns, ⟨mb, dicts hb, hbb⟩, ⟨mc, dicts lim1, lim2⟩⟩
    have nil : ∀ {b : Addr}, b ∈ frs ([] : List Env) → False := fun {b} z => by cases z
    have env : Env0 P w K mg (hidT s₁.heap T) callerA [] s₁ T := ⟨rfl, mods, fun b o z => of_hidT z, Nat.le_of_eq (hidT_size ..), trivial, fun b z => (nil z).elim, tk, .of_eq hg⟩
    refine codeAny_mono ((F _ kin (dicts hns)).run _ [] s₁ T ⟨[.ref a], []⟩ [.ref a] [.ref a] _ _ rfl hr env (hbind _ _) (.cons rfl .nil) (hsp T tO tS)) fun r s' z => ?_
    cases r with
    | error e => exact False.elim z
    | ok fl =>
      cases fl with
      | ret u =>
        obtain ⟨v, H2, z1, z2, un, z4, z5, z6⟩ := z
        obtain rfl : v = .bl true := z6
        refine ⟨by rw [show u = Value.bool true from z5], PySem.OldK.of_keep fun b o g => ?_, z1, z2⟩
        rcases tO b with t | ⟨ob, xs, t⟩
        · exact un.keep b o g t (fun y => nil y) (fun y => nomatch y)
        · have g1 := (tk b _ t).1
          have g2 := (z4 b _ (un.frzs b ob _ t)).1
          rw [g1] at g
          cases g
          exact g2
      | next => exact False.elim z
      | brk => exact False.elim z
      | cont => exact False.elim z
  cases own : K.lookup a with
  | some o =>
    obtain rfl : o = { cls := .type "list", data := .seq vs.toArray } := Option.some.inj ((KX a o own).symm.trans ha)
    exact main (fun _ => none) (fun _ => .inl rfl) (.inr ⟨_, _, _, own, rfl, rfl, rfl, by simp only [List.size_toArray]; omega, by simpa using rv⟩) (fun b u z => nomatch z) (fun b z => (z rfl).elim) fun z => (z rfl).elim
  | none =>
    have hit : ∀ {b : Addr} {u : HO}, (if b = a then some (HO.frz { cls := .type "list", data := .seq vs.toArray } (.lst (ns.map V.int))) else none) = some u → b = a ∧ u = .frz { cls := .type "list", data := .seq vs.toArray } (.lst (ns.map V.int)) := fun {b u} z => by
      by_cases c : b = a
      · rw [if_pos c] at z
        exact ⟨c, (Option.some.inj z).symm⟩
      · rw [if_neg c] at z
        exact nomatch z
    refine main (fun b => if b = a then some (.frz { cls := .type "list", data := .seq vs.toArray } (.lst (ns.map V.int))) else none) (fun b => ?_) (.inl (.inr ⟨_, if_pos rfl⟩)) (fun b u z => ?_) (fun b z => ?_) fun _ => own
    · by_cases c : b = a
      · exact .inr ⟨_, _, if_pos c⟩
      · exact .inl (if_neg c)
    · obtain ⟨rfl, rfl⟩ := hit z
      exact ⟨ha, by simpa using hl, vs, _, rv, ha⟩
    · by_cases c : b = a
      · exact c
      · exact (z (if_neg c)).elim
/-- the goal that the head leaves, from the promise of the law's def; the loose values are told by XP -/
theorem walkG {l : PySem.W.OpenLaw} {n k : Nat} {q : Program} {loose : List Str} {XP : (Str → Option Value) → Heap → Prop} {YP : World → Heap → Prop} {d : DefRec} {K : Params → PySem.W.Frag} {sp : PySem.W.Frag → Sp} {x : Str}
    (hn : l.most = some n) (hn2 : n ≤ sizeLine) (hdf : d.params.defaults = []) (hr : Room k callerA) (hY : ∀ (w : World) (h : Heap), YP w h → (K w.params).In h)
    (F : ∀ (w : World) (mg : Str → Option Value) (fa : Addr) (h : Heap), (K w.params).In h → h.Ns mainGlobals mg → XP mg h → mg d.name = some (.ref fa) →
      ∃ fd : FuncData, (∀ (s : Shared) (u : Value), BindsTo s fd ⟨[u], []⟩ [(x, u)]) ∧ ∀ base : Heap, FnOkG l.prog w (K w.params) mg base CX0 k fa fd [x] (sp (K w.params)))
    (hsp : ∀ (K : PySem.W.Frag) (H : Hp) (a : Addr) (ns : List Int), ns.length ≤ n → Only H → SqL K H a (ns.map V.int) → sp K [.ref a] H (fun v _ => v = .bl true) fun _ _ _ => False) :
    PySem.W.WalkO q loose XP YP l.row.toRowW d [] (fun f vs => PySem.call f vs) := by
  refine Att.attach_call hn hdf fun w s₀ s₁ mg mb fa o pm cd doc a vs ns G Y ho hd hcd hmg hobj hints hlen hg => ?_
  have KX := hY w _ Y
  obtain ⟨fd, hb, hF⟩ := F w mg fa _ KX G.T.g G.X hmg
  exact lawCallG KX G.T.g G.T.b G.T.builtins G.T.nolimit hg hobj hints (Nat.le_trans hlen hn2) hr (fun base _ _ => hF base) hb fun H hO hS => hsp _ H a ns hlen hO hS
/-! ### what the top has written -/
theorem ExS.mk' {K : PySem.W.Frag} {mg : Str → Option Value} {h : Heap} {SA BM TG : Addr} (X : K.In h) (G : h.Ns mainGlobals mg) (m1 : mg "BadMachine" = some (.ref BM)) (m2 : mg "TooGreat" = some (.ref TG))
    (s1 : PySem.W.nsIn K mainGlobals "SayError" = some (some (.ref SA))) (s2 : PySem.W.subIn K (.ref SA) (.type "BaseException") = some true) (s3 : PySem.W.isClsIn K SA = true) (s4 : PySem.W.typeIn K (.ref SA) = some (.type "type"))
    (s5 : PySem.W.subIn K (.ref BM) (.ref SA) = some true) (s6 : PySem.W.subIn K (.ref TG) (.ref SA) = some true)
    (b1 : PySem.W.subIn K (.ref BM) (.type "BaseException") = some true) (b2 : PySem.W.isClsIn K BM = true) (b3 : PySem.W.typeIn K (.ref BM) = some (.type "type")) (b4 : PySem.W.subIn K (.ref BM) (.ref BM) = some true) (b5 : PySem.W.subIn K (.ref TG) (.ref BM) = some false)
    (t1 : PySem.W.subIn K (.ref TG) (.type "BaseException") = some true) (t2 : PySem.W.isClsIn K TG = true) (t3 : PySem.W.typeIn K (.ref TG) = some (.type "type")) (t4 : PySem.W.subIn K (.ref TG) (.ref TG) = some true) : ExS K mg SA BM TG :=
  ⟨PySem.W.mg_of X G s1, exm_of s2 s3 s4 s5, exm_of s2 s3 s4 s6, exm_of b1 b2 b3 b4, exm_of b1 b2 b3 b5, exm_of t1 t2 t3 t4⟩
theorem Bl.mk' {K : PySem.W.Frag} {mg : Str → Option Value} {h : Heap} (X : K.In h) (G : h.Ns mainGlobals mg) (z1 : PySem.W.nsIn K mainGlobals "isinstance" = some none) (z2 : PySem.W.nsIn K mainGlobals "int" = some none) (z3 : PySem.W.nsIn K mainGlobals "bool" = some none) (z4 : PySem.W.nsIn K mainGlobals "tuple" = some none)
    (z5 : PySem.W.nsIn K mainGlobals "list" = some none) (z6 : PySem.W.nsIn K mainGlobals "len" = some none) (z7 : PySem.W.nsIn K mainGlobals "all" = some none) (z8 : PySem.W.nsIn K mainGlobals "sum" = some none) (z9 : PySem.W.nsIn K mainGlobals "max" = some none) (z10 : PySem.W.nsIn K mainGlobals "min" = some none)
    (z11 : PySem.W.nsIn K mainGlobals "range" = some none) (z12 : PySem.W.nsIn K mainGlobals "enumerate" = some none) (z13 : PySem.W.nsIn K mainGlobals "repr" = some none) : Bl mg :=
  have m := fun {x : Str} (z : PySem.W.nsIn K mainGlobals x = some none) => PySem.W.mg_none_of X G z
  ⟨m z1, m z2, m z3, m z4, m z5, m z6, m z7, m z8, m z9, m z10, m z11, m z12, m z13⟩
theorem Cs.mk' {K : PySem.W.Frag} {mg : Str → Option Value} {h : Heap} {t2 t3 : Tok} (X : K.In h) (G : h.Ns mainGlobals mg) (y1 : ∃ v, mg "MOST_NUMBER" = some v ∧ PySem.W.ReadsLit h v (.int (10 ^ 60)) [])
    (y2 : PySem.W.nsIn K mainGlobals "MOST_COLUMNS" = some (some (.int 1000 t2))) (y3 : PySem.W.nsIn K mainGlobals "MOST_STATES" = some (some (.int 600 t3))) : Cs mg := by
  obtain ⟨v, e, r⟩ := y1
  refine ⟨?_, ⟨_, PySem.W.mg_of X G y2⟩, ⟨_, PySem.W.mg_of X G y3⟩⟩
  cases r
  exact ⟨_, e⟩
theorem fin {l : PySem.W.OpenLaw} {w : World} {K : PySem.W.Frag} {mg : Str → Option Value} {h : Heap} {f fa : Addr} {oc : Value} {od an : Option Addr} {osl : Array (Option Value)} {kV doc pm cdv ct : Value} (X : K.In h) (G : h.Ns mainGlobals mg) (hmg : mg "law" = some (.ref fa))
    (a : PySem.W.nsIn K mainGlobals "law" = some (some (.ref f))) (lk : K.lookup f = some ⟨oc, od, .func (PySem.W.fnOf "law" "law" (defArgs s_law) (defBody s_law) (defScope s_law) .none kV doc pm an cdv ct), osl⟩) (c : PySem.W.codeIn K cdv "law" = true) (kp : PySem.W.keepIn K (.ref f) = true)
    (B : Bl mg) (C : Cs mg) (Er : EAll K mg) (D : DAll K mg) :
    ∃ fd : FuncData, (∀ (s : Shared) (u : Value), BindsTo s fd ⟨[u], []⟩ [("script", u)]) ∧ ∀ base : Heap, FnOkG l.prog w K mg base CX0 8 fa fd ["script"] (spLaw K) := by
  cases hmg.symm.trans (PySem.W.mg_of X G a)
  exact ⟨_, fun s u => .of_eq (hb_law kV doc pm an cdv ct [u] rfl), fun base => all_ok B C Er D (fun_mk lk c kp)⟩
end Ws
open PySem PySem.W PyProof.Rows
set_option maxRecDepth 100000 in
set_option maxHeartbeats 0 in
theorem PySem.Challenge.cw_wholesay_k14_machines_and_their_runs_holds : PySem.Challenge.rw_wholesay_k14_machines_and_their_runs.Holds := by
  w_on; o_law; k_head; (case hw => w_witness2)
  k_fill
  refine Ws.walkG (l := PySem.Challenge.rw_wholesay_k14_machines_and_their_runs) (n := 63) (k := 8) (x := "script") (sp := Ws.spLaw) rfl (by decide) rfl ⟨rfl, by decide, by decide⟩ (fun w h Y => PySem.W.kIn_of Y) ?F ?S
  case S => exact fun K H a ns hl _ hS => ⟨a, ns, rfl, hS, by omega, fun _ => rfl⟩
  case F =>
    intro w mg fa h KX G hX hmg
    refine' (fun D_columns_in => ?rD0) (Ws.Dt.mk' (x := "columns_in") (st := Ws.s_columns_in) (ps := Ws.pr_columns_in) KX G ?a0 ?l0 ?c0 ?k0 Ws.hb_columns_in)
    case' a0 => k_is
    case' l0 => k_is
    case' c0 => k_is
    case' k0 => k_is
    refine' (fun D_column_at => ?rD1) (Ws.Dt.mk' (x := "column_at") (st := Ws.s_column_at) (ps := Ws.pr_column_at) KX G ?a1 ?l1 ?c1 ?k1 Ws.hb_column_at)
    case' a1 => k_is
    case' l1 => k_is
    case' c1 => k_is
    case' k1 => k_is
    refine' (fun D_is_integer => ?rD2) (Ws.Dt.mk' (x := "is_integer") (st := Ws.s_is_integer) (ps := Ws.pr_is_integer) KX G ?a2 ?l2 ?c2 ?k2 Ws.hb_is_integer)
    case' a2 => k_is
    case' l2 => k_is
    case' c2 => k_is
    case' k2 => k_is
    refine' (fun D_is_between => ?rD3) (Ws.Dt.mk' (x := "is_between") (st := Ws.s_is_between) (ps := Ws.pr_is_between) KX G ?a3 ?l3 ?c3 ?k3 Ws.hb_is_between)
    case' a3 => k_is
    case' l3 => k_is
    case' c3 => k_is
    case' k3 => k_is
    refine' (fun D_is_tuple_of => ?rD4) (Ws.Dt.mk' (x := "is_tuple_of") (st := Ws.s_is_tuple_of) (ps := Ws.pr_is_tuple_of) KX G ?a4 ?l4 ?c4 ?k4 Ws.hb_is_tuple_of)
    case' a4 => k_is
    case' l4 => k_is
    case' c4 => k_is
    case' k4 => k_is
    refine' (fun D_are_between => ?rD5) (Ws.Dt.mk' (x := "are_between") (st := Ws.s_are_between) (ps := Ws.pr_are_between) KX G ?a5 ?l5 ?c5 ?k5 Ws.hb_are_between)
    case' a5 => k_is
    case' l5 => k_is
    case' c5 => k_is
    case' k5 => k_is
    refine' (fun D_is_row => ?rD6) (Ws.Dt.mk' (x := "is_row") (st := Ws.s_is_row) (ps := Ws.pr_is_row) KX G ?a6 ?l6 ?c6 ?k6 Ws.hb_is_row)
    case' a6 => k_is
    case' l6 => k_is
    case' c6 => k_is
    case' k6 => k_is
    refine' (fun D_need_many => ?rD7) (Ws.Dt.mk' (x := "need_many") (st := Ws.s_need_many) (ps := Ws.pr_need_many) KX G ?a7 ?l7 ?c7 ?k7 Ws.hb_need_many)
    case' a7 => k_is
    case' l7 => k_is
    case' c7 => k_is
    case' k7 => k_is
    refine' (fun D_need_row => ?rD8) (Ws.Dt.mk' (x := "need_row") (st := Ws.s_need_row) (ps := Ws.pr_need_row) KX G ?a8 ?l8 ?c8 ?k8 Ws.hb_need_row)
    case' a8 => k_is
    case' l8 => k_is
    case' c8 => k_is
    case' k8 => k_is
    refine' (fun D_need_machine => ?rD9) (Ws.Dt.mk' (x := "need_machine") (st := Ws.s_need_machine) (ps := Ws.pr_need_machine) KX G ?a9 ?l9 ?c9 ?k9 Ws.hb_need_machine)
    case' a9 => k_is
    case' l9 => k_is
    case' c9 => k_is
    case' k9 => k_is
    refine' (fun D_need_state => ?rD10) (Ws.Dt.mk' (x := "need_state") (st := Ws.s_need_state) (ps := Ws.pr_need_state) KX G ?a10 ?l10 ?c10 ?k10 Ws.hb_need_state)
    case' a10 => k_is
    case' l10 => k_is
    case' c10 => k_is
    case' k10 => k_is
    refine' (fun D_is_machine => ?rD11) (Ws.Dt.mk' (x := "is_machine") (st := Ws.s_is_machine) (ps := Ws.pr_is_machine) KX G ?a11 ?l11 ?c11 ?k11 Ws.hb_is_machine)
    case' a11 => k_is
    case' l11 => k_is
    case' c11 => k_is
    case' k11 => k_is
    refine' (fun D_columns_of => ?rD12) (Ws.Dt.mk' (x := "columns_of") (st := Ws.s_columns_of) (ps := Ws.pr_columns_of) KX G ?a12 ?l12 ?c12 ?k12 Ws.hb_columns_of)
    case' a12 => k_is
    case' l12 => k_is
    case' c12 => k_is
    case' k12 => k_is
    refine' (fun D_row_of => ?rD13) (Ws.Dt.mk' (x := "row_of") (st := Ws.s_row_of) (ps := Ws.pr_row_of) KX G ?a13 ?l13 ?c13 ?k13 Ws.hb_row_of)
    case' a13 => k_is
    case' l13 => k_is
    case' c13 => k_is
    case' k13 => k_is
    refine' (fun D_number_of => ?rD14) (Ws.Dt.mk' (x := "number_of") (st := Ws.s_number_of) (ps := Ws.pr_number_of) KX G ?a14 ?l14 ?c14 ?k14 Ws.hb_number_of)
    case' a14 => k_is
    case' l14 => k_is
    case' c14 => k_is
    case' k14 => k_is
    refine' (fun D_run_of => ?rD15) (Ws.Dt.mk' (x := "run_of") (st := Ws.s_run_of) (ps := Ws.pr_run_of) KX G ?a15 ?l15 ?c15 ?k15 Ws.hb_run_of)
    case' a15 => k_is
    case' l15 => k_is
    case' c15 => k_is
    case' k15 => k_is
    refine' (fun D_takes => ?rD16) (Ws.Dt.mk' (x := "takes") (st := Ws.s_takes) (ps := Ws.pr_takes) KX G ?a16 ?l16 ?c16 ?k16 Ws.hb_takes)
    case' a16 => k_is
    case' l16 => k_is
    case' c16 => k_is
    case' k16 => k_is
    refine' (fun D__law_mixed => ?rD17) (Ws.Dt.mk' (x := "_law_mixed") (st := Ws.s__law_mixed) (ps := Ws.pr__law_mixed) KX G ?a17 ?l17 ?c17 ?k17 Ws.hb__law_mixed)
    case' a17 => k_is
    case' l17 => k_is
    case' c17 => k_is
    case' k17 => k_is
    refine' (fun D__law_begin => ?rD18) (Ws.Dt.mk' (x := "_law_begin") (st := Ws.s__law_begin) (ps := Ws.pr__law_begin) KX G ?a18 ?l18 ?c18 ?k18 Ws.hb__law_begin)
    case' a18 => k_is
    case' l18 => k_is
    case' c18 => k_is
    case' k18 => k_is
    refine' (fun D__law_draw => ?rD19) (Ws.Dt.mk' (x := "_law_draw") (st := Ws.s__law_draw) (ps := Ws.pr__law_draw) KX G ?a19 ?l19 ?c19 ?k19 Ws.hb__law_draw)
    case' a19 => k_is
    case' l19 => k_is
    case' c19 => k_is
    case' k19 => k_is
    refine' (fun D__law_width => ?rD20) (Ws.Dt.mk' (x := "_law_width") (st := Ws.s__law_width) (ps := Ws.pr__law_width) KX G ?a20 ?l20 ?c20 ?k20 Ws.hb__law_width)
    case' a20 => k_is
    case' l20 => k_is
    case' c20 => k_is
    case' k20 => k_is
    refine' (fun D__law_great => ?rD21) (Ws.Dt.mk' (x := "_law_great") (st := Ws.s__law_great) (ps := Ws.pr__law_great) KX G ?a21 ?l21 ?c21 ?k21 Ws.hb__law_great)
    case' a21 => k_is
    case' l21 => k_is
    case' c21 => k_is
    case' k21 => k_is
    refine' (fun D__law_machine => ?rD22) (Ws.Dt.mk' (x := "_law_machine") (st := Ws.s__law_machine) (ps := Ws.pr__law_machine) KX G ?a22 ?l22 ?c22 ?k22 Ws.hb__law_machine)
    case' a22 => k_is
    case' l22 => k_is
    case' c22 => k_is
    case' k22 => k_is
    refine' (fun D__law_columns => ?rD23) (Ws.Dt.mk' (x := "_law_columns") (st := Ws.s__law_columns) (ps := Ws.pr__law_columns) KX G ?a23 ?l23 ?c23 ?k23 Ws.hb__law_columns)
    case' a23 => k_is
    case' l23 => k_is
    case' c23 => k_is
    case' k23 => k_is
    refine' (fun D__law_led => ?rD24) (Ws.Dt.mk' (x := "_law_led") (st := Ws.s__law_led) (ps := Ws.pr__law_led) KX G ?a24 ?l24 ?c24 ?k24 Ws.hb__law_led)
    case' a24 => k_is
    case' l24 => k_is
    case' c24 => k_is
    case' k24 => k_is
    refine' (fun D__law_like => ?rD25) (Ws.Dt.mk' (x := "_law_like") (st := Ws.s__law_like) (ps := Ws.pr__law_like) KX G ?a25 ?l25 ?c25 ?k25 Ws.hb__law_like)
    case' a25 => k_is
    case' l25 => k_is
    case' c25 => k_is
    case' k25 => k_is
    refine' (fun D__law_int => ?rD26) (Ws.Dt.mk' (x := "_law_int") (st := Ws.s__law_int) (ps := Ws.pr__law_int) KX G ?a26 ?l26 ?c26 ?k26 Ws.hb__law_int)
    case' a26 => k_is
    case' l26 => k_is
    case' c26 => k_is
    case' k26 => k_is
    refine' (fun D__law_fault => ?rD27) (Ws.Dt.mk' (x := "_law_fault") (st := Ws.s__law_fault) (ps := Ws.pr__law_fault) KX G ?a27 ?l27 ?c27 ?k27 Ws.hb__law_fault)
    case' a27 => k_is
    case' l27 => k_is
    case' c27 => k_is
    case' k27 => k_is
    refine' (fun D__law_odd_row => ?rD28) (Ws.Dt.mk' (x := "_law_odd_row") (st := Ws.s__law_odd_row) (ps := Ws.pr__law_odd_row) KX G ?a28 ?l28 ?c28 ?k28 Ws.hb__law_odd_row)
    case' a28 => k_is
    case' l28 => k_is
    case' c28 => k_is
    case' k28 => k_is
    refine' (fun D__law_spoilt => ?rD29) (Ws.Dt.mk' (x := "_law_spoilt") (st := Ws.s__law_spoilt) (ps := Ws.pr__law_spoilt) KX G ?a29 ?l29 ?c29 ?k29 Ws.hb__law_spoilt)
    case' a29 => k_is
    case' l29 => k_is
    case' c29 => k_is
    case' k29 => k_is
    refine' (fun D__law_told => ?rD30) (Ws.Dt.mk' (x := "_law_told") (st := Ws.s__law_told) (ps := Ws.pr__law_told) KX G ?a30 ?l30 ?c30 ?k30 Ws.hb__law_told)
    case' a30 => k_is
    case' l30 => k_is
    case' c30 => k_is
    case' k30 => k_is
    refine' (fun D__law_values_right => ?rD31) (Ws.Dt.mk' (x := "_law_values_right") (st := Ws.s__law_values_right) (ps := Ws.pr__law_values_right) KX G ?a31 ?l31 ?c31 ?k31 Ws.hb__law_values_right)
    case' a31 => k_is
    case' l31 => k_is
    case' c31 => k_is
    case' k31 => k_is
    refine' (fun D__law_runs_right => ?rD32) (Ws.Dt.mk' (x := "_law_runs_right") (st := Ws.s__law_runs_right) (ps := Ws.pr__law_runs_right) KX G ?a32 ?l32 ?c32 ?k32 Ws.hb__law_runs_right)
    case' a32 => k_is
    case' l32 => k_is
    case' c32 => k_is
    case' k32 => k_is
    refine' (fun E_BM => ?rEBM) (Ws.ErT.mk' (x := "BadMachine") (f := "place") (q := "BadMachine.__init__") (st := Ws.s_BM) KX G ?eaCBM ?exLBM ?ervBM ?esaBM ?egaBM ?eggBM ?enbBM ?ea1BM ?et1BM ?el1BM ?ec1BM ?ek1BM ?ekCBM ?eeCBM ?etCBM ?ehCBM Ws.hb_BM)
    case' eaCBM => k_is
    case' exLBM => k_is
    case' ervBM => decide +kernel
    case' esaBM => k_is
    case' egaBM => k_is
    case' eggBM => k_is
    case' enbBM => k_is
    case' ea1BM => k_is
    case' et1BM => k_is
    case' el1BM => k_is
    case' ec1BM => k_is
    case' ek1BM => k_is
    case' ekCBM => k_is
    case' eeCBM => k_is
    case' etCBM => k_is
    case' ehCBM => k_is
    refine' (fun E_TG => ?rETG) (Ws.ErT.mk' (x := "TooGreat") (f := "most") (q := "TooGreat.__init__") (st := Ws.s_TG) KX G ?eaCTG ?exLTG ?ervTG ?esaTG ?egaTG ?eggTG ?enbTG ?ea1TG ?et1TG ?el1TG ?ec1TG ?ek1TG ?ekCTG ?eeCTG ?etCTG ?ehCTG Ws.hb_TG)
    case' eaCTG => k_is
    case' exLTG => k_is
    case' ervTG => decide +kernel
    case' esaTG => k_is
    case' egaTG => k_is
    case' eggTG => k_is
    case' enbTG => k_is
    case' ea1TG => k_is
    case' et1TG => k_is
    case' el1TG => k_is
    case' ec1TG => k_is
    case' ek1TG => k_is
    case' ekCTG => k_is
    case' eeCTG => k_is
    case' etCTG => k_is
    case' ehCTG => k_is
    refine' (fun X_ => ?rX) (Ws.ExS.mk' KX G E_BM.mgC E_TG.mgC ?xs1 ?xs2 ?xs3 ?xs4 ?xs5 ?xs6 ?xb1 ?xb2 ?xb3 ?xb4 ?xb5 ?xt1 ?xt2 ?xt3 ?xt4)
    case' xs1 => k_is
    case' xs2 => k_is
    case' xs3 => k_is
    case' xs4 => k_is
    case' xs5 => k_is
    case' xs6 => k_is
    case' xb1 => k_is
    case' xb2 => k_is
    case' xb3 => k_is
    case' xb4 => k_is
    case' xb5 => k_is
    case' xt1 => k_is
    case' xt2 => k_is
    case' xt3 => k_is
    case' xt4 => k_is
    refine' (fun B_ => ?rB) (Ws.Bl.mk' KX G ?z1 ?z2 ?z3 ?z4 ?z5 ?z6 ?z7 ?z8 ?z9 ?z10 ?z11 ?z12 ?z13)
    case' z1 => k_is
    case' z2 => k_is
    case' z3 => k_is
    case' z4 => k_is
    case' z5 => k_is
    case' z6 => k_is
    case' z7 => k_is
    case' z8 => k_is
    case' z9 => k_is
    case' z10 => k_is
    case' z11 => k_is
    case' z12 => k_is
    case' z13 => k_is
    refine' (fun C_ => ?rC) (Ws.Cs.mk' KX G ?y1 ?y2 ?y3)
    case' y1 => exact hX.2.val _ (List.mem_cons_self ..)
    case' y2 => k_is
    case' y3 => k_is
    refine' Ws.fin KX G hmg ?wa ?wl ?wc ?wk B_ C_ ⟨_, _, _, _, _, _, _, E_BM, E_TG, X_⟩ ⟨D_columns_in, D_column_at, D_is_integer, D_is_between, D_is_tuple_of, D_are_between, D_is_row, D_need_many, D_need_row, D_need_machine, D_need_state, D_is_machine, D_columns_of, D_row_of, D_number_of, D_run_of, D_takes, D__law_mixed, D__law_begin, D__law_draw, D__law_width, D__law_great, D__law_machine, D__law_columns, D__law_led, D__law_like, D__law_int, D__law_fault, D__law_odd_row, D__law_spoilt, D__law_told, D__law_values_right, D__law_runs_right⟩
    case' wa => k_is
    case' wl => k_is
    case' wc => k_is
    case' wk => k_is
