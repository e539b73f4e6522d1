import PyProof.Rows.All
import Wide.All
import OpenK.AllK
import Wide.FinOn
import KE.GoesMore
import HandS.ForExc
import HandS.ForMost
import HandS.IsInst
import HandS.Walk
import HandS.TupMul
import HandS.TupAny
import HandS.Style
import HandS.ExcInit
import HandS.ExcField
import HandS.TryMany
import HandS.Wide
import HandS.WideBits
import HandS.SortKw
import KE.DataMinMax
import HandS.ExcIs
import HandS.TryOnly
import HandS.WordsExc
import HandS.ExcOwn
import HandS.Ends
import HandS.Lambda
import HandS.Zip
import HandS.More
import HandS.Defaults
import KE.KNestM
import HandS.EndTab
import HandS.EndOwn
import PySem.Challenge.RW_wholesay_k28_whole_equations_held
set_option Elab.async false
set_option linter.all false
set_option maxRecDepth 100000
set_option maxHeartbeats 2000000
/-! ## Wa -/
/-! enumerate over a tuple -/
namespace Ws
open PySem PySem.Spec PyProof.Rows L2
open AutoSeq1 (wpAny_loadPart')
theorem meets_enum_newT (l : Addr) (items : Array Value) (n : Nat) (dct : Option Addr) (sl : Array (Option Value)) :
    Meets (Builtin.«enumerate.__new__» ⟨[.type "enumerate", .ref l], []⟩) (fun _ R s => s.heap.get? l = some { cls := .type "tuple", dict := dct, data := .seq items n, slots := sl } ∧
      R (.ok (.ret (.ref (s.heap.push { cls := .type "tuple_iterator", data := .fields #[.ref l, .int 0 0] }).objs.size)))
        { s with heap := (s.heap.push { cls := .type "tuple_iterator", data := .fields #[.ref l, .int 0 0] }).push { cls := .type "enumerate", data := .fields #[.none, .bool false, .ref s.heap.objs.size, rawInt 0, .none, .none] } }) :=
  .of_wp fun prog w A R s h => by
    obtain ⟨hp, g, d, tk, os⟩ := s; obtain ⟨hl, h⟩ := h
    have hsub := sub_enumerate
    have hL : Heap.IsTuple (Shared.heap ⟨hp, g, d, tk, os⟩) l items := ⟨_, hl, rfl, n, rfl⟩
    wp_walk using wpAny_loadPart' hl
    refine wpAny_stack_any fun st => wpAny_pure ?_
    split
    · rename_i c _ _ _ _ _
      cases (c == Value.type "enumerate")
      · wp_walk using wpAny_loadPart' hl, wpAny_pyIter_tuple hL
        exact ⟨_, rfl, h⟩
      · wp_walk using wpAny_loadPart' hl, wpAny_pyIter_tuple hL
        exact ⟨_, rfl, h⟩
    · wp_walk using wpAny_loadPart' hl, wpAny_pyIter_tuple hL
      exact ⟨_, rfl, h⟩
section
variable {prog : Program} {w : World} {A : Around} {E : Value → Shared → Prop} {s : Shared}
theorem call_enum_tup {l : Addr} {items : Array Value} {Q : Value → Shared → Prop} (hL : s.heap.IsTuple l items)
    (h : ∀ h', IsEnum h' (s.heap.objs.size + 1) s.heap.objs.size 0 .none → h'.IsTupleIter s.heap.objs.size l 0 → h'.objs.size = s.heap.objs.size + 2 →
      (∀ b o, s.heap.get? b = some o → h'.get? b = some o) → Q (.ref (s.heap.objs.size + 1)) { s with heap := h' }) :
    wpAny (model prog w) A (call (.type "enumerate") [.ref l]) Q E s := by
  obtain ⟨⟨c, dct, dt, sl⟩, hl, hc, n, hd⟩ := hL
  replace hc : c = .type "tuple" := hc
  replace hd : dt = .seq items n := hd
  subst hc hd
  refine callType_new F.called_enumerate (by decide) (F.typeCall_enumerate_1 _) (F.newCall_enumerate_1 _) (fun obj => F.args_object_init_2 obj _) F.entry_enumerate_new
    (meets_enum_newT l items n dct sl) ⟨hl, ?_⟩
  have hz : (s.heap.push { cls := .type "tuple_iterator", data := .fields #[.ref l, .int 0 0] }).objs.size = s.heap.objs.size + 1 := Heap.size_push ..
  show _ ∧ _
  rw [hz]
  have he : IsEnum ((s.heap.push { cls := .type "tuple_iterator", data := .fields #[.ref l, .int 0 0] }).push
      { cls := .type "enumerate", data := .fields #[.none, .bool false, .ref s.heap.objs.size, rawInt 0, .none, .none] }) (s.heap.objs.size + 1) s.heap.objs.size 0 .none := by
    have := Heap.get?_push_size (s.heap.push { cls := .type "tuple_iterator", data := .fields #[.ref l, .int 0 0] })
      (o := { cls := .type "enumerate", data := .fields #[.none, .bool false, .ref s.heap.objs.size, rawInt 0, .none, .none] }) rfl
    rw [hz] at this; exact this
  refine ⟨⟨_, he, rfl⟩, h _ he ⟨_, Heap.get?_push_of_some _ (Heap.get?_push_size _ rfl), rfl, rfl⟩ (by rw [Heap.size_push, hz]) fun b o x => Heap.get?_push_of_some _ (Heap.get?_push_of_some _ x)⟩
end
/-- the tuple at a as it stands at each turn, each item in a new pair -/
def Iteu (K : PySem.W.Frag) (a : Addr) : It :=
  ⟨fun i H => ∃ (xs : List V) (x : V), SqT K H a xs ∧ xs[i]? = some x, fun i H v H' => ∃ T x, v = .ref T ∧ H T = none ∧ H' = upd H T (.tup [.int (i : Nat), x]) ∧ ∀ xs, SqT K H a xs → xs[i]? = some x, fun i H => ∃ xs : List V, SqT K H a xs ∧ xs.length ≤ i⟩
theorem turn_enumT {P : Program} {w : World} {K : PySem.W.Frag} {elts : List Expr} {kk : Nat} {tpos : Pos} (a e it : Addr) :
    Turn P w K (.Tuple elts kk tpos) (Iteu K a) [e, it] e (fun i h => (∃ old, IsEnum h e it ((i : Nat) : Int) old) ∧ h.IsTupleIter it a i ∧ e ≠ it) where
  mem := by simp
  obj := fun i h st b hb => by
    obtain ⟨⟨old, he⟩, ⟨o, ho, hc, hd⟩, _⟩ := st
    have e' : b = e ∨ b = it := by simpa using hb
    rcases e' with z | z
    · rw [z]; exact ⟨_, he, fun v q => nomatch q⟩
    · rw [z]; exact ⟨o, ho, fun v q => by rw [hd] at q; cases q⟩
  keep := fun i h h' st k => let ⟨⟨old, he⟩, hi, hne⟩ := st; ⟨⟨old, k e (by simp) _ he⟩, hi.at fun o q => k it (by simp) o q, hne⟩
  item := by
    intro X hP hw hK hc i pins s σ H E I hf st hg
    subst hP hw hK
    obtain ⟨⟨old, he⟩, hit, hne⟩ := st
    obtain ⟨xs, x, hq, hx⟩ := hg
    obtain ⟨its, rv, p, hz⟩ := I.tuple hq
    obtain ⟨u, hu, ru⟩ := rv.get hx
    have hel : e < s.heap.objs.size := Heap.lt_size he
    have hil : it < s.heap.objs.size := by obtain ⟨_, q, _⟩ := hit; exact Heap.lt_size q
    have hae : a ≠ e := fun z => by
      obtain ⟨o, q, _, n, d⟩ := p
      rw [z, he] at q; cases q; cases d
    have hai : a ≠ it := fun z => by
      obtain ⟨o, q, _, n, d⟩ := p
      obtain ⟨o2, q2, _, d2⟩ := hit
      rw [z, q2] at q; cases q; rw [d2] at d; cases d
    have hlen : i < its.toArray.size := by
      have := (List.getElem?_eq_some_iff.mp hu).1
      simpa using this
    refine wpAny_pyNext_enum_itemD (Draws.tuple (A := X.A.in1) (I.ok.hd hc) it a hai its.toArray) he ⟨hit, p⟩ hlen hne (by simp only [List.mem_cons, List.not_mem_nil, or_false, not_or]; exact ⟨hne, Ne.symm hae⟩) fun x' h' tk hP ho hit' hT hsz hk => ?_
    have ex : x' = u := by
      have q : its.toArray[i]? = some x' := hP
      have q2 : its.toArray[i]? = some u := by simpa using hu
      rw [q2] at q
      exact (Option.some.inj q).symm
    subst ex
    refine ⟨_, rfl, wpAny_letOwnedTupleGo_enum (s := { s with heap := h', toks := tk + 1 }) ho fun h'' he' sb => ?_⟩
    have hT2 : h''.get? s.heap.objs.size = some { cls := .type "tuple", data := .seq #[.int i tk, x'] } := (sb.2 _ (Nat.ne_of_gt hel)).trans hT
    have new : ObjOk X.prog X.w (upd H s.heap.objs.size (.tup [.int (i : Nat), x])) h'' s.heap.objs.size (.tup [.int (i : Nat), x]) :=
      ⟨by show 2 ≤ sizeLine; decide, [.int i tk, x'], .cons ⟨_, rfl⟩ (.cons ru .nil), ⟨_, hT2, rfl, _, rfl⟩⟩
    have I1 : Inv X pins σ (upd H s.heap.objs.size (.tup [.int (i : Nat), x])) { s with heap := h'', toks := tk + 1 } :=
      I.turnedNew (ch := [e, it]) (fun b ob hb q => (sb.2 b (fun z => hb (by simp [z]))).trans (hk b ob (fun z => hb (by simp [z])) (fun z => hb (by simp [z])) q)) hf (Nat.le_refl _) new
    refine ⟨.ref s.heap.objs.size, _, I1, rfl, ⟨_, x, rfl, I.hok.fresh (Nat.le_refl _), rfl, fun ys hy => by rw [I.tuple_inj hy hq]; exact hx⟩, ⟨⟨x', ?_⟩, hit'.1.at fun o q => (sb.2 it (Ne.symm hne)).trans q, hne⟩, fun b hb => ?_⟩
    · have e1 : ((i + 1 : Nat) : Int) = (i : Int) + 1 := by omega
      rw [e1]; exact he'
    · have hb' : b < s.heap.objs.size := by
        have e' : b = e ∨ b = it := by simpa using hb
        rcases e' with z | z
        · rw [z]; exact hel
        · rw [z]; exact hil
      rw [upd_ne (Nat.ne_of_lt hb')]
      exact (hf b hb).1
  done := by
    intro X hP hw hK hc i pins s σ H E I hf st hg
    subst hP hw hK
    obtain ⟨⟨old, he⟩, hit, hne⟩ := st
    obtain ⟨xs, hq, hx⟩ := hg
    obtain ⟨its, rv, p, hz⟩ := I.tuple hq
    obtain ⟨f0, f1, f2, f3, f4, f5⟩ := hf it (by simp)
    have hl := rv.length
    have hai : a ≠ it := fun z => by
      obtain ⟨o, q, _, n, d⟩ := p
      obtain ⟨o2, q2, _, d2⟩ := hit
      rw [z, q2] at q; cases q; rw [d2] at d; cases d
    have hT : s.TypeIs (.ref e) "enumerate" := ⟨_, he, rfl⟩
    unfold pyNext
    refine wpAny_bind (wpAny_attempt (wpAny_callSpecial?_slot (name := Str.ofString "__next__") hT F.slot_enumerate_next
      (wpAny_call_entry F.slot_enumerate_next hT F.entry_enumerate_next ?_ (F.args_enumerate_next_1 _))))
    show wpAny _ _ (field (.ref e) 2 >>= _) _ _ _
    refine wpAny_bind (wpAny_field he rfl (x := .ref it) rfl ?_)
    refine wpAny_bind (wpAny_nextOf_tuple_end (A := X.A.in1) (I.ok.hd hc) hit p (by simp; omega) fun h' x he' hx' => ?_)
    obtain ⟨o, ho, hc'⟩ := hx'
    refine wpAny_bind (wpAny_isInstance (T := "StopIteration") (b := true) ⟨o, ho, hc'⟩ isSubtype_stop ?_)
    exact wpAny_pure ⟨rfl, I.turned (t' := s.toks) (fun b o hb q => he' b o hb q) f0 f1 f3 f4 f5⟩
  self := fun A i s Q E st h => let ⟨⟨_, he⟩, _⟩ := st; wpAny_pyIter_enum he h
def iEnumT (K : PySem.W.Frag) (ta : TA) : TI := fun σ H R => ta σ H fun vs H1 => ∃ a xs, vs = [.ref a] ∧ SqT K H1 a xs ∧ R (Iteu K a) H1
theorem pi_enumT {X : Cx} {e : Expr} {ta : TA} {p pos tpos : Pos} {elts : List Expr} {kk : Nat} (hg : Gl X "enumerate") (hm : X.mg "enumerate" = none) (ha : PA X [e] ta) (hs : starEach [e] X.env = [(false, eval e X.env)] := by rfl) :
    PI X (.Tuple elts kk tpos) (.Call (.Name "enumerate" p) [e] [] pos) (iEnumT X.K ta) := by
  refine ⟨fun pins s σ H R I h => ?_⟩
  refine Call_ (ld_blt I hg hm boot_enumerate (PyProof.Rows.callWith_type1 (thn (ha.run pos pins s σ H _ I h) fun us s1 ⟨vs, H1, I1, r1, q1⟩ => ?_) hs rfl))
  obtain ⟨a, xs, ex, hq, q⟩ := q1
  subst ex
  cases r1 with
  | cons r rr =>
    cases rr
    cases r
    obtain ⟨its, rv, p', hz⟩ := I1.tuple hq
    refine call_enum_tup p' fun h' he hit hsz hk => wpAny_pyIter_enum he ?_
    have I2 : Inv X pins σ H1 { s1 with heap := h' } := I1.kept (t' := s1.toks) hk
    refine ⟨s1.heap.objs.size + 1, [s1.heap.objs.size + 1, s1.heap.objs.size], _, _, H1, rfl, I2, turn_enumT a (s1.heap.objs.size + 1) s1.heap.objs.size, ⟨⟨.none, he⟩, hit, Nat.succ_ne_self _⟩, fun b hb => ?_, q⟩
    have e' : b = s1.heap.objs.size + 1 ∨ b = s1.heap.objs.size := by simpa using hb
    have hle : s1.heap.objs.size ≤ b := by
      rcases e' with z | z
      · rw [z]; exact Nat.le_add_right _ _
      · rw [z]; exact Nat.le_refl _
    exact I1.fpOk hle (I1.hok.fresh hle)
theorem walk_enumT {K : PySem.W.Frag} {a : Addr} {xs : List V} : Walk (Iteu K a) xs.length (fun H => SqT K H a xs) (YPair (fun i => some (.int (i : Nat))) (fun i => xs[i]?)) := by
  refine ⟨fun i _ hi q => ⟨xs, xs[i], q, by simp [hi]⟩, fun _ q => ⟨xs, q, Nat.le_refl _⟩, fun i H v H' _ q y => ?_⟩
  obtain ⟨T, x, h1, h2, h3, h4⟩ := y
  exact ⟨T, .int (i : Nat), x, h1, h2, h3, rfl, h4 xs q⟩
end Ws
/-! ## Wb -/
namespace Ws
open PySem PySem.Spec PyProof.Rows L2
/-! ### defs that know that no guard runs around them (for repr) -/
structure FnOkG (P : Program) (w : World) (K : PySem.W.Frag) (mg : Str → Option Value) (base : Heap) (CX : CXT) (k : Nat) (f : Addr) (fd : FuncData) (ps : List Str) (sp : Sp) : Prop where
  len : ∀ vs H Q E, sp vs H Q E → vs.length = ps.length
  run : ∀ (A : Around) (outer : List Env) (s : Shared) (H : Hp) (args : Args) (us : List Value) (vs : List V) (Q : VK) (E : XK), A.guards = some [] → Room k A → Env0 P w K mg base A outer s H → BindsTo s fd args (ps.zip us) → Vals vs us → sp vs H Q E →
    codeAny (model P w) A (.call (.ref f) args) (CR CX outer P w H s Q E) s
theorem FnOkG.of {P : Program} {w : World} {K : PySem.W.Frag} {mg : Str → Option Value} {base : Heap} {CX : CXT} {k : Nat} {f : Addr} {fd : FuncData} {ps : List Str} {sp : Sp} (F : FnOk P w K mg base CX k f fd ps sp) : FnOkG P w K mg base CX k f fd ps sp :=
  ⟨F.len, fun A outer s H args us vs Q E _ hr he hb hv hs => F.run A outer s H args us vs Q E hr he hb hv hs⟩
theorem fn_ofG {CX : CXT} {P : Program} {w : World} {K : PySem.W.Frag} {mg : Str → Option Value} {base : Heap} {k : Nat} {f : Addr} {name qual : Str} {params : Arguments} {body : List Stmt} {scope : Scope} {dV kV doc pm cdv ct oc : Value} {an od : Option Addr}
    {osl : Array (Option Value)} {N ps : List Str} {sp : Sp} (lk : K.lookup f = some ⟨oc, od, .func (PySem.W.fnOf name qual params body scope dV kV doc pm an cdv ct), osl⟩) (hcd : PySem.W.codeIn K cdv qual = true) (S : FnScope N ps scope)
    (len : ∀ vs H Q E, sp vs H Q E → vs.length = ps.length)
    (hbody : ∀ (A : Around) (outer : List Env) (s : Shared) (H : Hp) (vs : List V) (Q : VK) (E : XK), A.guards = some [] → Room k (A.deeper (envOfC qual scope s.heap.objs.size f cdv)) → sp vs H Q E →
      ∃ t, PSs (cxOf CX P w K mg base N qual scope f cdv A outer s H E) body t ∧ t { nx := fun _ H' => Q .non H', rt := Q } (start N vs) H) :
    FnOkG P w K mg base CX (k + 1) f (PySem.W.fnOf name qual params body scope dV kV doc pm an cdv ct) ps sp := by
  refine ⟨len, fun A outer s H args us vs Q E hG hr e0 hb r hsp => ?_⟩
  have hl := len _ _ _ _ hsp
  have KX : K.In s.heap := e0.mod.kin.keeps fun b o e => (e0.bs b o e).1
  have lim : s.heap.NoLimit := e0.mod.nolimit.keeps fun b o e => (e0.bs b o e).1
  have hkind : ∀ y ∈ ps.zip us, scope.names.lookup y.1 = some .local ∨ (scope.names.lookup y.1 = some .cell ∧ ((cellsFrom (s.heap.objs.size + 1) scope.names []).lookup y.1).isSome = true) := fun ⟨n, v⟩ hy => by
    rcases S.par n (List.of_mem_zip hy).1 with q | q
    · exact .inl q
    · exact .inr ⟨q, PySem.W.cellsFrom_some _ _ _ (.inl q)⟩
  refine codeAny_call_function hr.depth (KX _ _ lk) rfl S.co S.gen rfl (PySem.W.codeRec_of KX hcd) (hb _ _ _ _ ?_)
  refine wpAny_newFunctionEnv_cells S.kind hkind fun env he s1 x => ?_
  subst he
  refine ⟨lim.keeps x.toInCall.keep, codeAny_func ?_⟩
  obtain ⟨t, ht, hq⟩ := hbody A outer s H vs Q E hG (hr.deeper _) hsp
  have I : Inv (cxOf CX P w K mg base N qual scope f cdv A outer s H E) [] (start N vs) H s1 := inv_start S hr.hd e0 hl r x
  refine wpAny_mono (ht.run [] s1 (start N vs) H _ I hq) (fun fl s' hs => ?_) fun e s' hs => hs
  have fin : ∀ {σ' : L2.St} {H' : Hp} {v : V} {u : Value}, Inv (cxOf CX P w K mg base N qual scope f cdv A outer s H E) [] σ' H' s' → RelV v u → Q v H' → CE outer P w H s Q u s' :=
    fun {σ' H' v u} J rv q => ⟨v, H', J.os, J.bare, J.base, J.hok, rv, q⟩
  cases fl with
  | ret u =>
    obtain ⟨v, σ', H', J, rv, q⟩ := hs
    exact fin J rv q
  | next =>
    obtain ⟨σ', H', J, q⟩ := hs
    exact fin (v := V.non) (u := Value.none) J rfl q
  | brk =>
    obtain ⟨_, _, _, q⟩ := hs
    exact False.elim q
  | cont =>
    obtain ⟨_, _, _, q⟩ := hs
    exact False.elim q
section
variable {X : Cx} {CX : CXT} {k : Nat} {f : Addr} {fd : FuncData} {ps : List Str} {sp : Sp} {E : XK} {x : Str} {p pos : Pos} {e : Expr} {es : List Expr} {t : TA}
theorem run_fnG {pins : List (Addr × Obj)} {σ : L2.St} {H : Hp} {s : Shared} {Q : VK} {us : List Value} {vs : List V} (F : FnOkG X.prog X.w X.K X.mg X.base CX k f fd ps sp) (hG : X.A.guards = some []) (hr : Room k X.A) (hb : Binds X.K fd ps []) (hx : Passes CX X E)
    (I : Inv X pins σ H s) (r : Vals vs us) (h : sp vs H Q E) : wpAny (model X.prog X.w) X.A (call (.ref f) us) (EP X pins σ Q) X.xe s := by
  have hl : (us ++ []).length = ps.length := by rw [List.append_nil, ← r.length]; exact F.len _ _ _ _ h
  refine wpAny_call (codeAny_mono (F.run X.A X.stack s H ⟨us, []⟩ us vs Q E hG hr I.env0 (by have := hb s us I.kIn hl; rw [List.append_nil] at this; exact this) r h) fun r s' hq => ?_)
  cases r with
  | error e => exact hx pins σ H s e s' I hq
  | ok fl =>
    cases fl with
    | ret u => exact I.after hq
    | next => exact False.elim hq
    | brk => exact False.elim hq
    | cont => exact False.elim hq
/-- f(..) without defaults -/
def tCa (sp : Sp) (E : XK) (t : TA) : TE := fun σ H Q => t σ H fun vs H1 => sp vs H1 Q E
theorem pe_callG (F : FnOkG X.prog X.w X.K X.mg X.base CX k f fd ps sp) (hG : X.A.guards = some []) (hr : Room k X.A) (hg : Gl X x) (hm : X.mg x = some (.ref f)) (hk : PySem.W.keepIn X.K (.ref f) = true) (hb : Binds X.K fd ps []) (hx : Passes CX X E)
    (ha : PA X (e :: es) t) (hdb : (x == ("__debug__" : Str)) = false := by decide) (he : starEach (e :: es) X.env = (false, eval e X.env) :: starEach es X.env := by rfl) (hpl : (backTo pos (starEach es X.env)).any (·.1) = false := by rfl) :
    PE X (.Call (.Name x p) (e :: es) [] pos) (tCa sp E t) := by
  refine ⟨fun pins s σ H Q I h => ?_⟩
  refine wpAny_Call_Name_kw (ld_glob I hg hm ?_ hdb)
  refine PySem.W.callWith_K (h₀ := X.base) I.ok.mod.kin hk (thn (ha.run pos pins s σ H _ I h) fun us s1 ⟨vs, H1, I1, r, q⟩ => ⟨I1.kIn, ?_⟩) he hpl
  exact run_fnG F hG hr hb hx I1 r q
end
/-! ### repr of data -/
theorem call_reprD {X : Cx} (hG : X.A.guards = some []) (hu : X.A.units + 64 < cLine) : CallR X (.builtin "repr") (fun xs H Q => ∃ v d, xs = [v] ∧ Dp X.K H v d ∧ d.showable = true ∧ d.hasDict = false ∧ d.depth ≤ 60 ∧ d.shown.length ≤ sizeLine ∧ Q (.str d.shown) H) := by
  intro pins s σ H xs us Q I r h
  obtain ⟨v, d, rfl, hd, h1, h2, h3, h4, q⟩ := h
  obtain ⟨u, rfl, ru⟩ := vals1 r
  cases hd with
  | non =>
    cases ru
    exact PySem.P.repr_of_none ⟨.str _, H, I.tok _, ⟨_, rfl⟩, q⟩
  | bl b =>
    cases ru
    exact PySem.P.repr_of_bool ⟨.str _, H, I.tok _, ⟨_, rfl⟩, q⟩
  | int i =>
    obtain ⟨t, rfl⟩ := ru
    exact PySem.P.repr_of_int (by simpa [PyData.showable] using h1) ⟨.str _, H, I.tok _, ⟨_, rfl⟩, q⟩
  | str x =>
    obtain ⟨t, rfl⟩ := ru
    exact PySem.P.repr_of_str ⟨.str _, H, I.tok _, ⟨_, rfl⟩, q⟩ h4
  | lst hs ha =>
    obtain ⟨as, rd⟩ := Dp.reads I _ _ u (.lst hs ha) ru
    cases ru
    exact repr_of_reads' rd h1 (PyData.noDict_hsm h2) hG (by omega) (fun _ _ e => e) (fun h' u tk hk => ⟨.str _, H, I.kept hk, ⟨_, rfl⟩, q⟩) h4
  | tup hs ha =>
    obtain ⟨as, rd⟩ := Dp.reads I _ _ u (.tup hs ha) ru
    cases ru
    exact repr_of_reads' rd h1 (PyData.noDict_hsm h2) hG (by omega) (fun _ _ e => e) (fun h' u tk hk => ⟨.str _, H, I.kept hk, ⟨_, rfl⟩, q⟩) h4
end Ws
/-! ## Wc -/
namespace Ws
open PySem PySem.Spec PyProof.Rows L2
/-! ### several except clauses that name their error, by one name in slot i -/
def suiteEnds (D : Ends) (i : Nat) : Ends := { nx := fun σ' H' => D.nx (σ'.set i none) H', rt := D.rt, bk := fun σ' H' => D.bk (σ'.set i none) H', ct := fun σ' H' => D.ct (σ'.set i none) H' }
def wManyA (K : PySem.W.Frag) (i : Nat) (Wout : WX) (D : Ends) : List (Value × (Addr → Value → Option Addr → TS)) → WX
  | [] => Wout
  | (c, ts) :: r => fun cls d σ H => ∃ b, PySem.W.exmOne K cls c = some b ∧ (b = true → ∀ a, H a = none → ts a cls d (suiteEnds D i) (σ.set i (some (.ref a))) H) ∧ (b = false → wManyA K i Wout D r cls d σ H)
inductive HdsA (X : Cx) (n : Str) : List ExceptHandler → List (Value × (Addr → Value → Option Addr → TS)) → Prop
  | nil : HdsA X n [] []
  | cons {x : Str} {c : Value} {ts : Addr → Value → Option Addr → TS} {b₀ : Stmt} {suite : List Stmt} {np pos' : Pos} {hds : List ExceptHandler} {l : List (Value × (Addr → Value → Option Addr → TS))} (hc : Names X x c)
      (hsu : ∀ (a : Addr) (oe : Obj) (cls : Value) (d : Option Addr) (pn : List (Addr × Obj)), Zc cls d oe → (∃ vs, oe.data = .fields vs) → PSs (X.suite a ((a, oe) :: pn)) (b₀ :: suite) (ts a cls d)) (r : HdsA X n hds l) :
      HdsA X n (.ExceptHandler (some (.Name x np)) (some n) (b₀ :: suite) pos' :: hds) ((c, ts) :: l)
section
variable {X : Cx} {n : Str} {i : Nat} {body : List Stmt} {h₀ : ExceptHandler} {hds : List ExceptHandler} {l : List (Value × (Addr → Value → Option Addr → TS))} {pos : Pos} {tb : WX → TS} {Wout : WX}
theorem ps_try_manyA (hs : X.stack = X.env :: X.outer) (hf : X.env.frame = some X.env.locals) (hN : X.N.Nodup) (hi : X.N[i]? = some n) (hln : X.env.kindOf n = some .local) (tk : Takes X Wout)
    (hb : ∀ (W : WX) (pn : List (Addr × Obj)) (xe : Value → Shared → Prop), Takes (X.tr pn xe) W → PassesOwn (model X.prog X.w) X.A X.env xe → PSs (X.tr pn xe) body (tb W))
    (hh : HdsA X n (h₀ :: hds) l) : PS X (.Try body (h₀ :: hds) [] [] pos) (fun D σ H => tb (wManyA X.K i Wout D l) D σ H) := by
  refine ⟨fun pins s σ H D I h => ?_⟩
  have ok := I.ok
  have hfr : X.A.frames = some (X.env :: X.outer) := by rw [ok.frames, hs]
  have hloc : Loc X.env.scope n := .inl hln
  refine wpAny_Try_except ?_
  refine wpAny_mono ((hb (wManyA X.K i Wout D l) (X.pn ++ pins) (fun e s₁ => wpAny (model X.prog X.w) X.A (noteFrame e X.env) (fun _ s₂ => wpAny (model X.prog X.w) X.A (setFlight e none) (fun _ s₃ =>
    wpAny (model X.prog X.w) X.A (handleBy e X.env (h₀ :: hds)) (SP X pins D) X.xe s₃) X.xe s₂) X.xe s₁) (fun u s' xx => ?_) PassesOwn.looking).run [] s σ H D (I.toTry _) h) (fun f s1 hsp => ?_) (fun e s1 he => he)
  · -- the catch
    obtain ⟨a, B, sI, pins', σ', H', cls, d, rfl, J', nb, up, sky, na, os, ag, w⟩ := xx
    have J : Inv X pins σ' H' sI := J'.ofTry ok
    have sky' : Sky B (X.env :: X.outer) a (Zc cls d) X.env.locals s'.heap := by rw [← hs]; exact sky
    show wpAny (model X.prog X.w) X.A (noteFrame (.ref a) X.env) _ _ _
    refine Sky.land Zc.steady hfr hf sky' fun h3 fl3 up3 => ?_
    have J3 : Inv X pins σ' H' { s' with heap := h3 } := J.landed nb fl3.1 (up.trans up3) os ag
    obtain ⟨oe3, vs3, he3, hz3, hd3⟩ := fl3.there
    have notFr : ∀ {h : Heap} {o : Obj} {vs : Array Value}, h.FunFrames B (X.env :: X.outer) → h.get? a = some o → o.data = .fields vs → a ∉ frs (X.env :: X.outer) := fun {h o vs} ff e dd hm => by
      obtain ⟨_, o', e', hnf⟩ := ff.mem hm
      rw [e] at e'; cases e'
      exact hnf _ dd
    have nfr := notFr fl3.2.2.1 he3 hd3
    have nL : a ≠ X.env.locals := fun z => nfr (List.mem_filterMap.mpr ⟨X.env, List.mem_cons_self, by rw [hf, z]⟩)
    have nF : a ∉ X.fs := fun hm => by
      obtain ⟨e, he, q⟩ := List.mem_filterMap.mp hm
      exact nfr (List.mem_filterMap.mpr ⟨e, List.mem_cons_of_mem _ he, q⟩)
    have S3 := J3.suite he3 hd3 na nL nF
    have go : ∀ {hds' : List ExceptHandler} {l' : List (Value × (Addr → Value → Option Addr → TS))}, HdsA X n hds' l' → wManyA X.K i Wout D l' cls d σ' H' →
        wpAny (model X.prog X.w) X.A (handleBy (.ref a) X.env hds') (SP X pins D) X.xe { s' with heap := h3 } := by
      intro hds' l' hk
      induction hk with
      | nil =>
        intro w
        refine wpAny_handleBy_nil ?_
        obtain ⟨k1, k2, k3, oe, vs, T, oT, ts', he, hz, hd, h1, hr⟩ := id fl3
        unfold PySem.passOn
        refine wpAny_bind (wpAny_field he hd h1 ?_)
        rw [if_neg (show ¬ ((Value.ref T == Value.none) = true) from by simp)]
        have fin : wpAny (model X.prog X.w) X.A (setFlight (.ref a) X.env.frame) (fun _ s4 => wpAny (model X.prog X.w) X.A (throw (.ref a) : Sem Flow) (SP X pins D) X.xe s4) X.xe { s' with heap := h3 } := by
          rw [hf]
          refine HandSPX.setFlight_upZ fl3 fun h4 hh4 up4 => wpAny_throw (tk _ _ ?_)
          exact ⟨a, B, sI, pins, σ', H', cls, d, rfl, J, nb, (up.trans up3).trans up4, .inr (.inr (by rw [hs]; exact hh4)), na, os, ag, w⟩
        first
          | exact wpAny_bind (wpAny_pure (wpAny_bind fin))
          | exact wpAny_bind fin
      | @cons x c ts b₀ suite np pos' hds2 l2 hc hsu r ih =>
        intro w
        obtain ⟨b, hb1, hyes, hno⟩ := w
        refine wpAny_handleBy_cons (codeAny_handlers_test ?_) (by intro q; cases q)
        have LT : PySem.W.Looks (model X.prog X.w) h3 (typeOf (.ref a)) cls := fun A Q E s k q => wpAny_typeOf_ref (k _ _ he3) (by rw [hz3.1]; exact q)
        have LM := PySem.W.exm_one (M := model X.prog X.w) (J3.kIn) LT hb1
        have test : ∀ {Q : Value → Shared → Prop} {E : Value → Shared → Prop}, Q c { s' with heap := h3 } → wpAny (model X.prog X.w) (X.A.mark (some (.ref a))) (eval (.Name x np) X.env) Q E { s' with heap := h3 } := fun {Q E} q => by
          obtain ⟨hg, hdbg, hm | ⟨hm, hv, hnn⟩⟩ := hc
          · exact ld_glob (X := X.suite a ((a, oe3) :: (X.pn ++ pins))) S3 hg hm q hdbg
          · exact ld_blt (X := X.suite a ((a, oe3) :: (X.pn ++ pins))) S3 hg hm hv q hnn hdbg
        refine test (LM.here ?_)
        cases b with
        | true =>
          refine codeAny_handlers_suite_as ?_
          refine HandSPX.lands_againZ fl3 fun h4 fl4 up4 => ?_
          have J4 : Inv X pins σ' H' { s' with heap := h4 } := J.landed nb fl4.1 ((up.trans up3).trans up4) os ag
          obtain ⟨oe4, vs4, he4, hz4, hd4⟩ := fl4.there
          have S4 := J4.suite he4 hd4 na nL nF
          refine store_ok (X := X.suite a ((a, oe4) :: (X.pn ++ pins))) (v := .ref a) S4 hN hi hloc rfl (fun s5 S5 => ?_) (.inr hln)
          refine wpAny_mono ((hsu a oe4 cls d (X.pn ++ pins) hz4 ⟨_, hd4⟩).run [] s5 _ H' _ S5 (hyes rfl a na)) (fun f s6 hsp => ?_) (fun _ _ z => False.elim z)
          have end_ : ∀ {σ6 : L2.St} {H6 : Hp} {Q : Shared → Prop}, Inv (X.suite a ((a, oe4) :: (X.pn ++ pins))) [] σ6 H6 s6 → (∀ s7, Inv X pins (σ6.set i none) H6 s7 → Q s7) →
              wpAny (model X.prog X.w) X.A (do bindName X.env n .none; unbindBehindTheSuite X.env n pos') (fun _ s7 => Q s7) X.xe s6 := fun {σ6 H6 Q} S6 hq => gone_ok (S6.unsuite ok) hN hi hln hq
          cases f with
          | next =>
            obtain ⟨σ6, H6, S6, q6⟩ := hsp
            exact end_ S6 fun s7 J7 => ⟨_, _, J7, q6⟩
          | brk =>
            obtain ⟨σ6, H6, S6, q6⟩ := hsp
            exact end_ S6 fun s7 J7 => ⟨_, _, J7, q6⟩
          | cont =>
            obtain ⟨σ6, H6, S6, q6⟩ := hsp
            exact end_ S6 fun s7 J7 => ⟨_, _, J7, q6⟩
          | ret u =>
            obtain ⟨v6, σ6, H6, S6, r6, q6⟩ := hsp
            exact end_ S6 fun s7 J7 => ⟨_, _, _, J7, r6, q6⟩
        | false =>
          show wpAny _ X.A (handleBy (.ref a) X.env hds2) _ _ _
          exact ih (hno rfl)
    exact go hh w
  · cases f with
    | next =>
      obtain ⟨σ', H', J', q⟩ := hsp
      exact wpAny_execs_nil ⟨σ', H', J'.ofTry ok, q⟩
    | brk =>
      obtain ⟨σ', H', J', q⟩ := hsp
      exact ⟨σ', H', J'.ofTry ok, q⟩
    | cont =>
      obtain ⟨σ', H', J', q⟩ := hsp
      exact ⟨σ', H', J'.ofTry ok, q⟩
    | ret u =>
      obtain ⟨v, σ', H', J', r, q⟩ := hsp
      exact ⟨v, σ', H', J'.ofTry ok, r, q⟩
end
end Ws
/-! ## Wd -/
namespace L2
open PySem PySem.Spec PyProof.Rows
/-! ### data and heaps -/
theorem Same.seqT {K : PySem.W.Frag} {H H' : Hp} {a : Addr} {xs : List V} (e : Same H H') (h : SqT K H a xs) : SqT K H' a xs := by
  rcases h with (h | ⟨o, h⟩) | h
  · exact .inl (.inl (e _ _ h))
  · exact .inl (.inr ⟨o, e _ _ h⟩)
  · exact .inr h
theorem Same.new {H : Hp} {p : Addr} {o : HO} (h : H p = none) : Same H (upd H p o) := fun b u e => by
  rw [upd_ne (ne_of_none e h)]
  exact e
/-- what H does not know may change -/
theorem Same.mut {H H' : Hp} {p : Addr} {o : HO} (e : Same H H') (h : H p = none) : Same H (upd H' p o) := fun b u hb => by
  rw [upd_ne (ne_of_none hb h)]
  exact e b u hb
theorem Same.then_new {H H' : Hp} {p : Addr} {o : HO} (e : Same H H') (h : H' p = none) : Same H (upd H' p o) := Same.trans e (Same.new h)
section
variable {K : PySem.W.Frag} {H H' : Hp}
mutual
theorem Dp.same (e : Same H H') : ∀ (d : PyData) (v : V), Dp K H v d → Dp K H' v d
  | .none, _, h => by cases h; exact .non
  | .bool b, _, h => by cases h; exact .bl b
  | .int i, _, h => by cases h; exact .int i
  | .str x, _, h => by cases h; exact .str x
  | .list ds, _, h => by
    cases h with
    | lst hs ha => exact .lst (e.seq hs) (Dp.sameAll e ds _ ha)
  | .tuple ds, _, h => by
    cases h with
    | tup hs ha => exact .tup (Same.seqT e hs) (Dp.sameAll e ds _ ha)
  | .dict _, _, h => by cases h
theorem Dp.sameAll (e : Same H H') : ∀ (ds : List PyData) (vs : List V), DpAll K H vs ds → DpAll K H' vs ds
  | [], _, h => by cases h; exact .nil
  | d :: ds, _, h => by
    cases h with
    | cons h1 h2 => exact .cons (Dp.same e d _ h1) (Dp.sameAll e ds _ h2)
end
theorem Dp.to {v : V} {d : PyData} (h : Dp K H v d) (e : Same H H') : Dp K H' v d := Dp.same e d v h
theorem DpAll.to {vs : List V} {ds : List PyData} (h : DpAll K H vs ds) (e : Same H H') : DpAll K H' vs ds := Dp.sameAll e ds vs h
theorem DpAll.length : ∀ {ds : List PyData} {vs : List V}, DpAll K H vs ds → vs.length = ds.length
  | [], _, h => by cases h; rfl
  | d :: ds, _, h => by
    cases h with
    | cons h1 h2 => simp [DpAll.length h2]
theorem DpAll.get : ∀ {ds : List PyData} {vs : List V} {i : Nat} {d : PyData}, DpAll K H vs ds → ds[i]? = some d → ∃ v, vs[i]? = some v ∧ Dp K H v d
  | [], _, i, d, h, e => by simp at e
  | d' :: ds, _, 0, d, h, e => by
    cases h with
    | cons h1 h2 =>
      have e' : d' = d := by simpa using e
      subst e'
      exact ⟨_, rfl, h1⟩
  | d' :: ds, _, i + 1, d, h, e => by
    cases h with
    | cons h1 h2 =>
      obtain ⟨v, a, b⟩ := DpAll.get h2 (by simpa using e)
      exact ⟨v, by simpa using a, b⟩
theorem DpAll.getV : ∀ {ds : List PyData} {vs : List V} {i : Nat} {v : V}, DpAll K H vs ds → vs[i]? = some v → ∃ d, ds[i]? = some d ∧ Dp K H v d
  | [], _, i, d, h, e => by cases h; simp at e
  | d' :: ds, _, 0, d, h, e => by
    cases h with
    | cons h1 h2 =>
      simp at e
      subst e
      exact ⟨_, rfl, h1⟩
  | d' :: ds, _, i + 1, d, h, e => by
    cases h with
    | cons h1 h2 =>
      obtain ⟨v, a, b⟩ := DpAll.getV h2 (by simpa using e)
      exact ⟨v, by simpa using a, b⟩
theorem DpAll.append : ∀ {ds es : List PyData} {vs ws : List V}, DpAll K H vs ds → DpAll K H ws es → DpAll K H (vs ++ ws) (ds ++ es)
  | [], _, _, _, h, h' => by cases h; exact h'
  | d :: ds, _, _, _, h, h' => by
    cases h with
    | cons h1 h2 => exact .cons h1 (DpAll.append h2 h')
theorem DpAll.snoc {ds : List PyData} {vs : List V} {v : V} {d : PyData} (h : DpAll K H vs ds) (h1 : Dp K H v d) : DpAll K H (vs ++ [v]) (ds ++ [d]) := h.append (.cons h1 .nil)
theorem DpAll.take : ∀ {ds : List PyData} {vs : List V} (n : Nat), DpAll K H vs ds → DpAll K H (vs.take n) (ds.take n)
  | [], _, n, h => by cases h; simp; exact .nil
  | d :: ds, _, 0, h => .nil
  | d :: ds, _, n + 1, h => by
    cases h with
    | cons h1 h2 => exact .cons h1 (DpAll.take n h2)
theorem DpAll.drop : ∀ {ds : List PyData} {vs : List V} (n : Nat), DpAll K H vs ds → DpAll K H (vs.drop n) (ds.drop n)
  | [], _, n, h => by cases h; simp; exact .nil
  | d :: ds, _, 0, h => h
  | d :: ds, _, n + 1, h => by
    cases h with
    | cons h1 h2 => exact DpAll.drop n h2
theorem DpAll.set {v : V} {d : PyData} (h1 : Dp K H v d) : ∀ {ds : List PyData} {vs : List V} (n : Nat), DpAll K H vs ds → DpAll K H (vs.set n v) (ds.set n d)
  | [], _, n, h => by cases h; exact .nil
  | _ :: ds, _, 0, h => by
    cases h with
    | cons h0 h2 => exact .cons h1 h2
  | _ :: ds, _, n + 1, h => by
    cases h with
    | cons h0 h2 => exact .cons h0 (DpAll.set h1 n h2)
theorem DpAll.ints : ∀ (ns : List Int), DpAll K H (ns.map V.int) (ns.map PyData.int)
  | [] => .nil
  | n :: ns => .cons (.int n) (DpAll.ints ns)
theorem DpAll.ints_inv : ∀ {ns : List Int} {vs : List V}, DpAll K H vs (ns.map PyData.int) → vs = ns.map V.int
  | [], _, h => by cases h; rfl
  | n :: ns, _, h => by
    cases h with
    | cons h1 h2 =>
      cases h1
      rw [DpAll.ints_inv h2]
      rfl
theorem Dp.int_inv {v : V} {i : Int} (h : Dp K H v (.int i)) : v = .int i := by cases h; rfl
theorem Dp.bl_inv {v : V} {b : Bool} (h : Dp K H v (.bool b)) : v = .bl b := by cases h; rfl
theorem Dp.tup_inv {v : V} {ds : List PyData} (h : Dp K H v (.tuple ds)) : ∃ a xs, v = .ref a ∧ SqT K H a xs ∧ DpAll K H xs ds := by
  cases h with
  | tup hs ha => exact ⟨_, _, rfl, hs, ha⟩
theorem Dp.lst_inv {v : V} {ds : List PyData} (h : Dp K H v (.list ds)) : ∃ a xs, v = .ref a ∧ SqL K H a xs ∧ DpAll K H xs ds := by
  cases h with
  | lst hs ha => exact ⟨_, _, rfl, hs, ha⟩
theorem Dp.ints_tup {v : V} {ns : List Int} (h : Dp K H v (.tuple (ns.map PyData.int))) : ∃ a, v = .ref a ∧ SqT K H a (ns.map V.int) := by
  obtain ⟨a, xs, rfl, hs, ha⟩ := h.tup_inv
  rw [ha.ints_inv] at hs
  exact ⟨a, rfl, hs⟩
theorem Dp.tup_ints {a : Addr} {ns : List Int} (h : SqT K H a (ns.map V.int)) : Dp K H (.ref a) (.tuple (ns.map PyData.int)) := .tup h (DpAll.ints ns)
end
end L2
namespace Ws
open PySem PySem.Spec PyProof.Rows L2
/-! ### max(ints, default=d) -/
theorem fold_max (n : Int) : ∀ ns : List Int, (ns.foldl max n = n ∨ ns.foldl max n ∈ ns) ∧ n ≤ ns.foldl max n ∧ ∀ y ∈ ns, y ≤ ns.foldl max n := by
  intro ns
  induction ns generalizing n with
  | nil => exact ⟨.inl rfl, Int.le_refl _, fun y hy => absurd hy (by simp)⟩
  | cons a r ih =>
    obtain ⟨h1, h2, h3⟩ := ih (max n a)
    simp only [List.foldl_cons]
    refine ⟨?_, by omega, fun y hy => ?_⟩
    · rcases h1 with h1 | h1
      · rw [h1]
        rcases Int.le_total n a with z | z
        · right; rw [Int.max_eq_right z]; exact List.mem_cons_self ..
        · left; exact Int.max_eq_left z
      · right; exact List.mem_cons_of_mem _ h1
    · rcases List.mem_cons.mp hy with e | hy
      · rw [e]; omega
      · exact h3 y hy
theorem alike_ints (ns : List Int) : PySem.W.AlikeAll (ns.map PyData.int) := by
  refine ⟨fun x hx y hy => ?_, fun x hx => ?_⟩
  · obtain ⟨a, _, rfl⟩ := List.mem_map.mp hx
    obtain ⟨b, _, rfl⟩ := List.mem_map.mp hy
    simp [PySem.W.alike]
  · obtain ⟨a, _, rfl⟩ := List.mem_map.mp hx
    intro z
    cases z
theorem depth_ints : ∀ ns : List Int, PyData.depthAll (ns.map PyData.int) = 0
  | [] => rfl
  | n :: ns => by
    show max 0 (PyData.depthAll (ns.map PyData.int)) = 0
    rw [depth_ints ns]
    rfl
def rMaxD (K : PySem.W.Frag) : List V → List V → Hp → VK → Prop := fun xs zs H Q => ∃ (a : Addr) (ns : List Int) (d : V), xs = [.ref a] ∧ zs = [d] ∧ SqL K H a (ns.map V.int) ∧ (ns = [] → Q d H) ∧ ∀ m, m ∈ ns → (∀ y ∈ ns, y ≤ m) → Q (.int m) H
theorem call_maxD {X : Cx} (hc : X.calm = true) (hu : X.A.units + 64 < cLine) : CallRK X (.builtin "max") ["default"] (rMaxD X.K) := by
  intro pins s σ H xs zs us ws Q I r1 r2 h
  obtain ⟨a, ns, d, rfl, rfl, hs, h0, h1⟩ := h
  obtain ⟨u, rfl, ru⟩ := vals1 r1
  obtain ⟨u', rfl, ru'⟩ := vals1 r2
  cases ru
  obtain ⟨its, rv, p, hz⟩ := I.list hs
  obtain ⟨as, hr⟩ := Dp.readsAll I (ns.map PyData.int) (ns.map V.int) its (DpAll.ints ns) rv
  show wpAny _ _ (call (.builtin "max") [.ref a] [(Str.ofString "default", u')]) _ _ _
  refine PySem.W.max_list_default (xs := ns.map PyData.int) (I.ok.hd hc) p.isList (by simpa using hr) (alike_ints ns) (by rw [depth_ints]; omega) (fun e h' tk hk => ?_) (fun y ys i v h' tk bs e hv hR hk => ?_)
  · exact ⟨d, H, I.kept hk, ru', h0 (by simpa using e)⟩
  · cases ns with
    | nil => cases e
    | cons n r =>
      have e1 : PyData.int n = y := by
        simp only [List.map_cons, List.cons.injEq] at e
        exact e.1
      have e2 : r.map PyData.int = ys := by
        simp only [List.map_cons, List.cons.injEq] at e
        exact e.2
      subst e1 e2
      rw [PySem.W.maxD_ints] at hR
      cases hR with
      | int i t =>
        obtain ⟨g1, g2, g3⟩ := fold_max n r
        refine ⟨.int (r.foldl max n), H, I.kept hk, ⟨_, rfl⟩, h1 _ ?_ fun y hy => ?_⟩
        · rcases g1 with g1 | g1
          · rw [g1]; exact List.mem_cons_self ..
          · exact List.mem_cons_of_mem _ g1
        · rcases List.mem_cons.mp hy with e | hy
          · rw [e]; exact g2
          · exact g3 y hy
/-! ### a def as a fact of the module -/
structure Dt (K : PySem.W.Frag) (mg : Str → Option Value) (x : Str) (st : Stmt) (ps : List Str) : Prop where
  ex : ∃ (f : Addr) (fd : FuncData), Fun K x x st f fd ∧ mg x = some (.ref f) ∧ Binds K fd ps []
structure Df (P : Program) (w : World) (K : PySem.W.Frag) (mg : Str → Option Value) (base : Heap) (CX : CXT) (k : Nat) (x : Str) (ps : List Str) (sp : Sp) : Prop where
  ex : ∃ (f : Addr) (fd : FuncData), FnOk P w K mg base CX k f fd ps sp ∧ mg x = some (.ref f) ∧ PySem.W.keepIn K (.ref f) = true ∧ Binds K fd ps []
structure DfG (P : Program) (w : World) (K : PySem.W.Frag) (mg : Str → Option Value) (base : Heap) (CX : CXT) (k : Nat) (x : Str) (ps : List Str) (sp : Sp) : Prop where
  ex : ∃ (f : Addr) (fd : FuncData), FnOkG P w K mg base CX k f fd ps sp ∧ mg x = some (.ref f) ∧ PySem.W.keepIn K (.ref f) = true ∧ Binds K fd ps []
section
variable {P : Program} {w : World} {K : PySem.W.Frag} {mg : Str → Option Value} {base : Heap} {x : Str} {st : Stmt} {N ps : List Str} {k : Nat} {sp : Sp}
theorem Dt.mk' {h : Heap} {f : Addr} {oc : Value} {od an : Option Addr} {osl : Array (Option Value)} {kV doc pm cdv ct : Value} (X : K.In h) (G : h.Ns mainGlobals mg) (a : PySem.W.nsIn K mainGlobals x = some (some (.ref f)))
    (l : K.lookup f = some ⟨oc, od, .func (PySem.W.fnOf x x (defArgs st) (defBody st) (defScope st) .none kV doc pm an cdv ct), osl⟩) (c : PySem.W.codeIn K cdv x = true) (kp : PySem.W.keepIn K (.ref f) = true)
    (hb : ∀ (kV doc pm : Value) (an : Option Addr) (cdv ct : Value) (us : List Value), us.length = ps.length → bindArgs (PySem.W.fnOf x x (defArgs st) (defBody st) (defScope st) .none kV doc pm an cdv ct) ⟨us, []⟩ = pure (ps.zip us)) : Dt K mg x st ps :=
  ⟨f, _, fun_mk l c kp, PySem.W.mg_of X G a, (fun_mk l c kp).binds hb⟩
theorem Dt.ok (D : Dt K mg x st ps) (S : FnScope N ps (defScope st)) (len : ∀ vs H Q E, sp vs H Q E → vs.length = ps.length)
    (hbody : ∀ (f : Addr) (cdv : Value) (A : Around) (outer : List Env) (s : Shared) (H : Hp) (vs : List V) (Q : VK) (E : XK), Room k (A.deeper (envOfC x (defScope st) s.heap.objs.size f cdv)) → sp vs H Q E →
      ∃ t, PSs (cxOf CX0 P w K mg base N x (defScope st) f cdv A outer s H E).nox (defBody st) t ∧ t { nx := fun _ H' => Q .non H', rt := Q } (start N vs) H) : Df P w K mg base CX0 (k + 1) x ps sp := by
  obtain ⟨f, fd, F, m, b⟩ := D.ex
  exact ⟨f, fd, F.ok S len (hbody f), m, F.kp, b⟩
theorem Dt.okX (D : Dt K mg x st ps) (S : FnScope N ps (defScope st)) (len : ∀ vs H Q E, sp vs H Q E → vs.length = ps.length)
    (hbody : ∀ (f : Addr) (cdv : Value) (A : Around) (outer : List Env) (s : Shared) (H : Hp) (vs : List V) (Q : VK) (E : XK), Room k (A.deeper (envOfC x (defScope st) s.heap.objs.size f cdv)) → sp vs H Q E →
      ∃ t, PSs (cxOf (L2.CX P w) P w K mg base N x (defScope st) f cdv A outer s H E) (defBody st) t ∧ t { nx := fun _ H' => Q .non H', rt := Q } (start N vs) H) : Df P w K mg base (L2.CX P w) (k + 1) x ps sp := by
  obtain ⟨f, fd, F, m, b⟩ := D.ex
  exact ⟨f, fd, F.okX S len (hbody f), m, F.kp, b⟩
theorem Dt.okG (D : Dt K mg x st ps) (S : FnScope N ps (defScope st)) (len : ∀ vs H Q E, sp vs H Q E → vs.length = ps.length)
    (hbody : ∀ (f : Addr) (cdv : Value) (A : Around) (outer : List Env) (s : Shared) (H : Hp) (vs : List V) (Q : VK) (E : XK), A.guards = some [] → Room k (A.deeper (envOfC x (defScope st) s.heap.objs.size f cdv)) → sp vs H Q E →
      ∃ t, PSs (cxOf CX0 P w K mg base N x (defScope st) f cdv A outer s H E).nox (defBody st) t ∧ t { nx := fun _ H' => Q .non H', rt := Q } (start N vs) H) : DfG P w K mg base CX0 (k + 1) x ps sp := by
  obtain ⟨f, fd, F, m, b⟩ := D.ex
  obtain ⟨oc, od, kV, doc, pm, an, cdv, ct, osl, rfl, lk, hcd⟩ := F.ex
  refine ⟨f, _, fn_ofG lk hcd S len fun A outer s H vs Q E hg hr hsp => ?_, m, F.kp, b⟩
  obtain ⟨t, h, q⟩ := hbody f cdv A outer s H vs Q E hg hr hsp
  exact ⟨t, h.nox, q⟩
theorem Df.g {CX : CXT} (D : Df P w K mg base CX k x ps sp) : DfG P w K mg base CX k x ps sp := let ⟨f, fd, a, b, c, d⟩ := D.ex; ⟨f, fd, .of a, b, c, d⟩
end
section
variable {X : Cx} {CX : CXT} {k : Nat} {ps : List Str} {sp : Sp} {E : XK} {x : Str} {p pos : Pos} {e : Expr} {es : List Expr} {t : TA}
theorem pe_f (D : Df X.prog X.w X.K X.mg X.base CX k x ps sp) (hr : Room k X.A) (hx : Passes CX X E)
    (ha : PA X (e :: es) t) (hg : Gl X x := by rfl) (hdb : (x == ("__debug__" : Str)) = false := by decide) (he : starEach (e :: es) X.env = (false, eval e X.env) :: starEach es X.env := by rfl) (hpl : (backTo pos (starEach es X.env)).any (·.1) = false := by rfl) :
    PE X (.Call (.Name x p) (e :: es) [] pos) (tCa sp E t) := by
  obtain ⟨f, fd, F, m, kp, b⟩ := D.ex
  refine ⟨fun pins s σ H Q I h => ?_⟩
  refine (pe_call (dvs := []) F hr hg m kp b .nil hx ha hdb he hpl).run pins s σ H Q I ?_
  have e1 : tCall sp [] E t = tCa sp E t := by
    unfold tCall tCa
    simp only [List.append_nil]
  rw [e1]
  exact h
theorem pe_fG (D : DfG X.prog X.w X.K X.mg X.base CX k x ps sp) (hG : X.A.guards = some []) (hr : Room k X.A) (hx : Passes CX X E)
    (ha : PA X (e :: es) t) (hg : Gl X x := by rfl) (hdb : (x == ("__debug__" : Str)) = false := by decide) (he : starEach (e :: es) X.env = (false, eval e X.env) :: starEach es X.env := by rfl) (hpl : (backTo pos (starEach es X.env)).any (·.1) = false := by rfl) :
    PE X (.Call (.Name x p) (e :: es) [] pos) (tCa sp E t) := by
  obtain ⟨f, fd, F, m, kp, b⟩ := D.ex
  exact pe_callG F hG hr hg m kp b hx ha hdb he hpl
theorem pe_fS {E : L2.St → XK} (D : Df X.prog X.w X.K X.mg X.base CX k x ps sp) (hr : Room k X.A) (hx : ∀ σ, PassesAt CX X σ (E σ))
    (ha : PA X (e :: es) t) (hg : Gl X x := by rfl) (hdb : (x == ("__debug__" : Str)) = false := by decide) (he : starEach (e :: es) X.env = (false, eval e X.env) :: starEach es X.env := by rfl) (hpl : (backTo pos (starEach es X.env)).any (·.1) = false := by rfl) :
    PE X (.Call (.Name x p) (e :: es) [] pos) (tCallS sp E t) := by
  obtain ⟨f, fd, F, m, kp, b⟩ := D.ex
  exact pe_callS F hr hg m kp b hx ha hdb he hpl
end
end Ws
/-! ## We -/
/-! isinstance of a caught error that has fields -/
namespace Ws
open PySem PySem.Spec PySem.Calls PySem.W PyProof.Rows L2
section
variable {prog : Program} {w : World} {A : Around} {E : Value → Shared → Prop} {s : Shared} {K : Frag} {x D : Addr} {ox : Obj} {od : Option Obj}
theorem find_class {g a : Value} {name : Str} (C : ExcC K D) (ha : findIn K (.ref D) name = some (some a)) (hg : specialIn K a "__get__" = some (some g)) (ht : takesIn K a = some true) : findObj K D od name = some (.bind g a) := by
  obtain ⟨cd, hc, _⟩ := any_some C.hd
  have hc : clsIn K D = some cd := hc
  unfold findObj
  rw [hc, Option.bind_some, ha, Option.bind_some]
  simp [hg, ht]
theorem asked_class {Q : Option Value → Shared → Prop} (C : ExcC K D) (X : K.In s.heap) (I : InstAt s.heap x ox D od) (h : Q (some (.ref D)) { s with toks := s.toks + 1 }) : wpAny (model prog w) A (getAttr? (.ref x) "__class__") Q E s := by
  have hf : findObj K D od "__class__" = some (.bind (.builtin "getset_descriptor.__get__") (.builtin "object.__class__")) := find_class C C.ha C.hn C.ht
  obtain ⟨hp, g, d, t, os⟩ := s
  have l0 := I.type (M := model prog w)
  have l1 := looks_findIn (M := model prog w) X C.hg
  have l2 := looks_findIn (M := model prog w) X C.hk
  have l3 := looks_find (M := model prog w) X I hf
  have sub : Looks (model prog w) hp (isInstance (.ref x) (.type "BaseException")) true := l0.andThen (looks_subIn X C.hs)
  have n2 : (Value.builtin "BaseException.__getattribute__" == Value.builtin "object.__getattribute__") = false := by decide +kernel
  have n1 : (onTheHeap (Value.ref D) && Value.builtin "BaseException.__getattribute__" == Value.builtin "object.__getattribute__") = false := by rw [n2]; rfl
  have n0 : (false && onTheHeap (Value.builtin "BaseException.__getattribute__")) = false := rfl
  unfold getAttr? getAttrBy? getAttrBy
  refine wpAny_bind (wpAny_mkText (wpAny_bind (wpAny_attempt (wpAny_holding (wpAny_bind (l0.at (wpAny_bind (l1.at ?_))))))))
  show wpAny _ _ (if (onTheHeap (Value.ref D) && Value.builtin "BaseException.__getattribute__" == Value.builtin "object.__getattribute__") = true then _ else _) _ _ _
  rw [n1, if_neg Bool.false_ne_true]
  unfold getAttrByItsOwn hookBefore
  refine wpAny_bind ?_
  rw [if_pos (show onTheHeap (Value.ref D) = true from rfl)]
  refine l2.at (wpAny_bind (wpAny_attempt (wpAny_holding ?_)))
  unfold callGetattribute
  rw [n0, if_neg Bool.false_ne_true]
  unfold boundAndCalled
  rw [PySem.F.excAttr_ValueError.ga.bind (.ref x)]
  refine wpAny_bind (wpAny_pure ?_)
  show wpAny _ _ (call (.builtin "BaseException.__getattribute__") [.ref x, .str "__class__" t]) _ _ _
  refine wpAny_call (codeAny_call_builtin PySem.F.excAttr_ValueError.ga.plain PySem.F.entry_bexc_ga ?_)
  refine @check_slot (model prog w) _ _ ⟨hp, g, d, t + 1, os⟩ "BaseException.__getattribute__" "BaseException" "__getattribute__" (.ref x) [.str "__class__" t] [] _ (by decide +kernel) (by decide +kernel) sub (PySem.F.args_bexc_ga (.ref x) (.str "__class__" t)) ?_
  unfold Builtin.«object.__getattribute__»
  refine wpAny_bind (wpAny_of_eq (a := ((Value.ref x : Value), [Value.str "__class__" t])) (by first | rfl | (simp only [slotArgs]; rfl)) ?_)
  refine wpAny_bind (wpAny_pure (wpAny_bind (l0.at (wpAny_bind (l3.at ?_)))))
  show wpAny _ _ (holding [Value.builtin "object.__class__"] (call (.builtin "getset_descriptor.__get__") [.builtin "object.__class__", .ref x, .ref D]) >>= ret) _ _ _
  refine wpAny_bind (wpAny_holding (wpAny_call (class_get (s := ⟨hp, g, d, t + 1, os⟩) (ox := ox) (od := od) X I C.hm ?_)))
  refine wpAny_pure ?_
  show wpAny _ _ (handedOut (.ref D)) _ _ _
  rw [handedOut_of (v := .ref D) rfl]
  first
    | exact wpAny_pure (wpAny_pure h)
    | exact wpAny_pure h
    | exact wpAny_pure (wpAny_bind (wpAny_pure (wpAny_pure h)))
theorem kitx_err (C : ExcC K D) : KitX K (.ref x) (.ref D) (fun h => InstAt h x ox D od) where
  ty := fun _ _ _ I => I.type
  it := fun _ _ X _ => by
    obtain ⟨cd, hc, _⟩ := any_some C.hd
    unfold clsIn at hc
    split at hc
    · rename_i ho
      intro A' Q' E' s' k q
      unfold isType loadHead
      exact wpAny_bind (wpAny_loadPart (k _ _ (X _ _ ho)) (wpAny_pure q))
    · cases hc
  ne := fun h tp dd its n sl X htp => by
    obtain ⟨cd, hc, _⟩ := any_some C.hd
    refine Bool.eq_false_iff.mpr fun q => ?_
    have e : D = tp := Value.ref.inj (beq_iff_eq.mp q)
    subst e
    unfold clsIn at hc
    split at hc
    · rename_i ho
      have z := (X _ _ ho).symm.trans htp
      cases z
    · cases hc
  ca := fun X I k => asked_class C X I k
end
/-- isinstance(e, c), e the error of the suite, of the class cls, its fields in the dict d -/
def rIsX (K : Frag) (a : Addr) (cls : Value) (d : Option Addr) : List V → Hp → VK → Prop := fun xs H Q => ∃ (c : V) (cv : Value) (b : Bool) (D dd : Addr) (fs : List (Str × V)), xs = [.ref a, c] ∧ cls = .ref D ∧ ExcC K D ∧ d = some dd ∧ H dd = some (.xd fs) ∧ (∀ u, RelV c u → u = cv) ∧ kitOne K (.ref D) cv = some b ∧ Q (.bl b) H
theorem call_isX {X : Cx} {a : Addr} {cls : Value} {d : Option Addr} {oe : Obj} {pn : List (Addr × Obj)} (hz : Zc cls d oe) (hf : ∃ vs, oe.data = .fields vs) : CallR (X.suite a ((a, oe) :: pn)) (.builtin "isinstance") (rIsX X.K a cls d) := by
  intro pins s σ H xs us Q I r h
  obtain ⟨c, cv, b, D, dd, fs, rfl, rfl, C, rfl, hd, hcv, e, q⟩ := h
  cases r with
  | cons rx rr =>
    cases rr with
    | cons rt rr =>
      cases rr
      cases rx
      have ec := hcv _ rt
      subst ec
      obtain ⟨hget, _⟩ := I.pin (a, oe) (List.mem_append.mpr (.inl List.mem_cons_self))
      obtain ⟨vs, hv⟩ := hf
      have hx : ObjOk X.prog X.w H s.heap dd (.xd fs) := I.hok dd _ hd
      obtain ⟨mA, hns, hr⟩ := hx
      obtain ⟨od, ho, hl⟩ := lookIn_ns hns
      have J : PySem.W.InstAt s.heap a oe D (some od) := ⟨hget, hz.1, by unfold PySem.W.notCls; rw [hv] <;> rfl, by rw [hz.2]; exact ho⟩
      exact PySem.W.kia_one (kitx_err C) I.kIn J e (fun z => nomatch z) fun tk => ⟨.bl b, H, I.kept (t' := tk) fun _ _ z => z, rfl, q⟩
end Ws
/-! ## Wf -/
/-! tuple * int, the empty tuple too -/
namespace Ws
open PySem PySem.Spec PyProof.Rows L2
theorem tuple_mul0 (l : Addr) (n : Nat) (dd : Option Addr) (sl : Array (Option Value)) (x : Int) (u : Tok) (c0 : (decide (x < -(2 ^ 63)) || decide (x ≥ 2 ^ 63)) = false) (c1 : ((#[] : Array Value).isEmpty || x == 1) = true) :
    Meets (Builtin.«tuple.__mul__» ⟨[.ref l, .int x u], []⟩) (fun _ R s => s.heap.get? l = some { cls := .type "tuple", dict := dd, data := .seq #[] n, slots := sl } ∧
      R (.ok (.ret (Value.ref l))) s) :=
  .of_wp fun prog w A R s h => by
    obtain ⟨hp, g, d, tk, os⟩ := s
    obtain ⟨hl, h⟩ := h
    have f1 := AutoSeq1.idx_int
    wp_walk using wpAny_loadPart' hl
    repeat (first
      | (refine wpAny_ite_false (decide_eq_false (by rw [c0]; exact Bool.false_ne_true)) ?_; wp_walk using wpAny_loadPart' hl)
      | (refine wpAny_ite_true (decide_eq_true c1) ?_; wp_walk using wpAny_loadPart' hl))
    exact ⟨_, rfl, h⟩
/-- t * k, k written: the empty tuple is handed back, of another one a new one is made -/
def rRepA (K : PySem.W.Frag) : R2 := fun x y H Q => ∃ l k xs, x = .ref l ∧ y = .int k ∧ SqT K H l xs ∧ 2 ≤ k ∧ k ≤ 1000 ∧ xs.length ≤ 1000 ∧ (xs = [] → Q (.ref l) H) ∧ (xs ≠ [] → ∀ p, H p = none → Q (.ref p) (upd H p (.tup (List.replicate k.toNat xs).flatten)))
theorem op_repA {X : Cx} : OpR X (binaryOp .Mult) (rRepA X.K) := by
  intro pins s σ H x y v u Q I rx ry h
  obtain ⟨l, k, xs, rfl, rfl, hT, h1, h2, hz, q0, q⟩ := h
  by_cases hx : xs = []
  · subst hx
    have rx2 := rx
    cases rx
    obtain ⟨t, rfl⟩ := ry
    obtain ⟨its, r, ⟨⟨cls, dd, data, sl⟩, ho, hc, n, hd⟩, hs⟩ := I.tuple hT
    simp only at hc hd
    subst hc hd
    cases r
    have c0 : (decide (k < -(2 ^ 63)) || decide (k ≥ 2 ^ 63)) = false := by
      rw [decide_eq_false (by omega), decide_eq_false (by omega)] <;> rfl
    refine wpAny_binaryOp_repeat_ref (T := "tuple") (U := "int") (by decide) ⟨_, ho, rfl⟩ (fun s' => typeIs_int s' k t) noFill_tuple_mul F.fills_int_mul F.slot_int_rmul repeat_tuple F.slot_int_index.lookup
      (call_meets F.slot_int_rmul (typeIs_int s k t) F.entry_int_rmul (F.args_int_rmul_2 _ _) (int_rmul_tuple k t l (#[] : Array Value) n dd sl)
        ⟨ho, rfl, ⟨_, ho, rfl⟩, call_meets F.slot_tuple_mul ⟨_, ho, rfl⟩ F.entry_tuple_mul (F.args_tuple_mul_2 _ _) (tuple_mul0 l n dd sl k t c0 rfl) ⟨ho, ?_⟩⟩)
    exact ⟨.ref l, H, I, rx2, q0 rfl⟩
  · exact op_repT pins s σ H _ _ v u Q I rx ry ⟨l, k, xs, rfl, rfl, hT, hx, h1, h2, hz, q hx⟩
theorem tuple_mul1 (l : Addr) (items : Array Value) (n : Nat) (dd : Option Addr) (sl : Array (Option Value)) (x : Int) (u : Tok) (c0 : (decide (x < -(2 ^ 63)) || decide (x ≥ 2 ^ 63)) = false) (c1 : (items.isEmpty || x == 1) = true) :
    Meets (Builtin.«tuple.__mul__» ⟨[.ref l, .int x u], []⟩) (fun _ R s => s.heap.get? l = some { cls := .type "tuple", dict := dd, data := .seq items n, slots := sl } ∧
      R (.ok (.ret (Value.ref l))) s) :=
  .of_wp fun prog w A R s h => by
    obtain ⟨hp, g, d, tk, os⟩ := s
    obtain ⟨hl, h⟩ := h
    have f1 := AutoSeq1.idx_int
    wp_walk using wpAny_loadPart' hl
    repeat (first
      | (refine wpAny_ite_false (decide_eq_false (by rw [c0]; exact Bool.false_ne_true)) ?_; wp_walk using wpAny_loadPart' hl)
      | (refine wpAny_ite_true (decide_eq_true c1) ?_; wp_walk using wpAny_loadPart' hl))
    exact ⟨_, rfl, h⟩
/-- t * k, k from 1 on -/
def rRepB (K : PySem.W.Frag) : R2 := fun x y H Q => ∃ l k xs, x = .ref l ∧ y = .int k ∧ SqT K H l xs ∧ 1 ≤ k ∧ k ≤ 1000 ∧ xs.length ≤ 1000 ∧ (xs = [] ∨ k = 1 → Q (.ref l) H) ∧ (xs ≠ [] → k ≠ 1 → ∀ p, H p = none → Q (.ref p) (upd H p (.tup (List.replicate k.toNat xs).flatten)))
theorem op_repB {X : Cx} : OpR X (binaryOp .Mult) (rRepB X.K) := by
  intro pins s σ H x y v u Q I rx ry h
  obtain ⟨l, k, xs, rfl, rfl, hT, h1, h2, hz, q0, q⟩ := h
  by_cases hx : k = 1
  · subst hx
    have rx2 := rx
    cases rx
    obtain ⟨t, rfl⟩ := ry
    obtain ⟨its, r, ⟨⟨cls, dd, data, sl⟩, ho, hc, n, hd⟩, hs⟩ := I.tuple hT
    simp only at hc hd
    subst hc hd
    have c0 : (decide ((1 : Int) < -(2 ^ 63)) || decide ((1 : Int) ≥ 2 ^ 63)) = false := by decide
    refine wpAny_binaryOp_repeat_ref (T := "tuple") (U := "int") (by decide) ⟨_, ho, rfl⟩ (fun s' => typeIs_int s' 1 t) noFill_tuple_mul F.fills_int_mul F.slot_int_rmul repeat_tuple F.slot_int_index.lookup
      (call_meets F.slot_int_rmul (typeIs_int s 1 t) F.entry_int_rmul (F.args_int_rmul_2 _ _) (int_rmul_tuple 1 t l its.toArray n dd sl)
        ⟨ho, rfl, ⟨_, ho, rfl⟩, call_meets F.slot_tuple_mul ⟨_, ho, rfl⟩ F.entry_tuple_mul (F.args_tuple_mul_2 _ _) (tuple_mul1 l its.toArray n dd sl 1 t c0 (by simp)) ⟨ho, ?_⟩⟩)
    exact ⟨.ref l, H, I, rx2, q0 (.inr rfl)⟩
  · exact op_repA pins s σ H _ _ v u Q I rx ry ⟨l, k, xs, rfl, rfl, hT, by omega, h2, hz, fun e => q0 (.inl e), fun e => q e hx⟩
end Ws
/-! ## G0 -/
/-! what serves every law: data, errors, the law's state, small data, the end -/
namespace Ws
open PySem PySem.Spec PyProof.Rows L2

/-! ### what kind of data -/
def tyName : PyData → String
  | .none => "NoneType"
  | .bool _ => "bool"
  | .int _ => "int"
  | .str _ => "str"
  | .list _ => "list"
  | .tuple _ => "tuple"
  | .dict _ => "dict"
def isI : PyData → Bool
  | .int _ => true
  | _ => false
def isBo : PyData → Bool
  | .bool _ => true
  | _ => false
def isIB (d : PyData) : Bool := isI d || isBo d
def isT : PyData → Bool
  | .tuple _ => true
  | _ => false
def isBt (d : PyData) (lo hi : Int) : Bool := match d with
  | .int i => decide (lo ≤ i) && decide (i ≤ hi)
  | _ => false
def isTn (d : PyData) (n : Int) : Bool := match d with
  | .tuple xs => decide ((xs.length : Int) = n)
  | _ => false
def areB (d : PyData) (lo hi : Int) : Bool := match d with
  | .tuple xs => xs.all fun x => isBt x lo hi
  | _ => false
section
variable {K : PySem.W.Frag} {H : Hp} {v : V} {d : PyData}
theorem dp_ty (h : Dp K H v d) : TyX K H v (.type (tyName d)) := by
  cases h with
  | non => exact .base .non
  | bl b => exact .base (.bl b)
  | int i => exact .base (.int i)
  | str x => exact .base (.str x)
  | lst hs ha =>
    rcases hs with (hs | ⟨o, hs⟩) | ⟨o, its, n, hk, hc, _⟩
    · exact .base (.lst hs)
    · exact .base (.frz hs)
    · exact .kList hk hc
  | tup hs ha =>
    rcases hs with (hs | ⟨o, hs⟩) | ⟨o, its, n, hk, hc, _⟩
    · exact .base (.tup hs)
    · exact .fTuple hs
    · exact .kTuple hk hc
theorem kit_int : ∀ d : PyData, PySem.W.kitOne K (.type (tyName d)) (.type "int") = some (isIB d)
  | .none => kit_ty (by decide +kernel)
  | .bool _ => kit_ty (by show kitB "bool" "int" = some true; decide +kernel)
  | .int _ => kit_ty (by show kitB "int" "int" = some true; decide +kernel)
  | .str _ => kit_ty (by show kitB "str" "int" = some false; decide +kernel)
  | .list _ => kit_ty (by show kitB "list" "int" = some false; decide +kernel)
  | .tuple _ => kit_ty (by show kitB "tuple" "int" = some false; decide +kernel)
  | .dict _ => kit_ty (by show kitB "dict" "int" = some false; decide +kernel)
theorem kit_bool : ∀ d : PyData, PySem.W.kitOne K (.type (tyName d)) (.type "bool") = some (isBo d)
  | .none => kit_ty (by decide +kernel)
  | .bool _ => kit_ty (by show kitB "bool" "bool" = some true; decide +kernel)
  | .int _ => kit_ty (by show kitB "int" "bool" = some false; decide +kernel)
  | .str _ => kit_ty (by show kitB "str" "bool" = some false; decide +kernel)
  | .list _ => kit_ty (by show kitB "list" "bool" = some false; decide +kernel)
  | .tuple _ => kit_ty (by show kitB "tuple" "bool" = some false; decide +kernel)
  | .dict _ => kit_ty (by show kitB "dict" "bool" = some false; decide +kernel)
theorem kit_tuple : ∀ d : PyData, PySem.W.kitOne K (.type (tyName d)) (.type "tuple") = some (isT d)
  | .none => kit_ty (by decide +kernel)
  | .bool _ => kit_ty (by show kitB "bool" "tuple" = some false; decide +kernel)
  | .int _ => kit_ty (by show kitB "int" "tuple" = some false; decide +kernel)
  | .str _ => kit_ty (by show kitB "str" "tuple" = some false; decide +kernel)
  | .list _ => kit_ty (by show kitB "list" "tuple" = some false; decide +kernel)
  | .tuple _ => kit_ty (by show kitB "tuple" "tuple" = some true; decide +kernel)
  | .dict _ => kit_ty (by show kitB "dict" "tuple" = some false; decide +kernel)
/-- what isinstance(x, int) asks and gives | .. bool | .. tuple -/
theorem isi_int {Q : VK} (h : Dp K H v d) (q : Q (.bl (isIB d)) H) : rIsi K [v, .ty "int"] H Q := ⟨v, _, _, _, _, rfl, .ty _, dp_ty h, kit_int d, q⟩
theorem isi_bool {Q : VK} (h : Dp K H v d) (q : Q (.bl (isBo d)) H) : rIsi K [v, .ty "bool"] H Q := ⟨v, _, _, _, _, rfl, .ty _, dp_ty h, kit_bool d, q⟩
theorem isi_tuple {Q : VK} (h : Dp K H v d) (q : Q (.bl (isT d)) H) : rIsi K [v, .ty "tuple"] H Q := ⟨v, _, _, _, _, rfl, .ty _, dp_ty h, kit_tuple d, q⟩
end

theorem slt {n : Nat} (h : n < 100000) : n < sizeLine := Nat.lt_of_lt_of_le h (by decide)
/-- a comprehension of scalars that changes nothing but its own list -/
theorem lcS {J : It} {n : Nat} {G : Hp → Prop} {Y : Nat → Hp → V → Hp → Prop} (w : Walk J n G Y) {g : TG} {te : TE} {vs : List Nat} {σ : L2.St} {H1 : Hp} {D : Addr} {Qd : Hp → Prop} (hD : H1 D = none) (hn : n < sizeLine) (R : Nat → V → Prop)
    (hG : ∀ H, Same H1 H → G H)
    (hs : ∀ i x H H' (Q : VK), i < n → Same H1 H → Y i H x H' → (∀ y H4, R i y → Same H H4 → Q y H4) → g x (wipe σ vs) H' fun σ2 H2 => wipe σ2 vs = wipe σ vs ∧ te σ2 H2 Q)
    (hd : ∀ H ys, Same H1 H → H D = some (.lst ys) → ys.length = n → (∀ i y, ys[i]? = some y → R i y) → Qd H) :
    ∃ W : Nat → Nat → Hp → Prop, (∃ m, W 0 m (upd H1 D (.lst []))) ∧ ∀ i m H, W i m H →
      (J.stop i H ∧ Qd H) ∨ (J.go i H ∧ ∃ Nx : Hp → Prop, (∀ H', Nx H' → ∃ m', m' < m ∧ W (i + 1) m' H') ∧ ∀ x H', J.yld i H x H' → g x (wipe σ vs) H' fun σ2 H2 => wipe σ2 vs = wipe σ vs ∧ tYes σ2 H2 fun b H3 =>
        if b = true then te σ2 H3 fun y H4 => ∃ acc, H4 D = some (.lst acc) ∧ acc.length < sizeLine ∧ Nx (upd H4 D (.lst (acc ++ [y]))) else Nx H3) := by
  refine lc_it w (fun i H => Same H1 H ∧ ∃ ys, H D = some (.lst ys) ∧ ys.length = i ∧ ∀ j y, ys[j]? = some y → R j y) ⟨Same.new hD, [], upd_same, rfl, fun j y h => by simp at h⟩ (fun i H _ p => hG H p.1) (fun i x H H' hi p y => ?_) (fun H p => ?_)
  · obtain ⟨s, ys, hy, hl, hr⟩ := p
    have q := hs i x H H' (fun y H4 => ∃ acc, H4 D = some (.lst acc) ∧ acc.length < sizeLine ∧ Same H1 (upd H4 D (.lst (acc ++ [y]))) ∧ ∃ ys, (upd H4 D (.lst (acc ++ [y]))) D = some (.lst ys) ∧ ys.length = i + 1 ∧ ∀ j y, ys[j]? = some y → R j y) hi s y (fun v H4 r s4 => ?_)
    · have e : (fun σ2 H2 => wipe σ2 vs = wipe σ vs ∧ tYes σ2 H2 fun b H3 =>
        if b = true then te σ2 H3 fun y H4 => ∃ acc, H4 D = some (.lst acc) ∧ acc.length < sizeLine ∧ Same H1 (upd H4 D (.lst (acc ++ [y]))) ∧ ∃ ys, (upd H4 D (.lst (acc ++ [y]))) D = some (.lst ys) ∧ ys.length = i + 1 ∧ ∀ j y, ys[j]? = some y → R j y
        else Same H1 H3 ∧ ∃ ys, H3 D = some (.lst ys) ∧ ys.length = i + 1 ∧ ∀ j y, ys[j]? = some y → R j y) =
        (fun σ2 H2 => wipe σ2 vs = wipe σ vs ∧ te σ2 H2 fun y H4 => ∃ acc, H4 D = some (.lst acc) ∧ acc.length < sizeLine ∧ Same H1 (upd H4 D (.lst (acc ++ [y]))) ∧ ∃ ys, (upd H4 D (.lst (acc ++ [y]))) D = some (.lst ys) ∧ ys.length = i + 1 ∧ ∀ j y, ys[j]? = some y → R j y) := by
        funext σ2 H2
        simp only [tYes, if_true]
      rw [e]
      exact q
    · refine ⟨ys, s4 _ _ hy, by omega, (Same.trans s s4).mut hD, _, upd_same, by simp [hl], fun j z hz => ?_⟩
      by_cases hj : j < ys.length
      · rw [List.getElem?_append_left hj] at hz
        exact hr j z hz
      · rw [List.getElem?_append_right (by omega)] at hz
        have e : j = i := by
          have := (List.getElem?_eq_some_iff.mp hz).1
          simp at this
          omega
        subst e
        rw [hl, Nat.sub_self] at hz
        simp at hz
        rw [← hz]
        exact r
  · obtain ⟨s, ys, hy, hl, hr⟩ := p
    exact hd H ys s hy hl hr
theorem vals_bl {n : Nat} {ys : List V} {f : Nat → Bool} (hl : ys.length = n) (h : ∀ i y, ys[i]? = some y → y = V.bl (f i)) : ys = ((List.range n).map f).map V.bl := by
  refine List.ext_getElem? fun i => ?_
  by_cases hi : i < n
  · have hi' : i < ys.length := by omega
    have e := h i ys[i] (by simp [hi'])
    simp [hi, hi', e]
  · rw [List.getElem?_eq_none (by omega), List.getElem?_eq_none (by simp; omega)]
theorem vals_int {n : Nat} {ys : List V} {f : Nat → Int} (hl : ys.length = n) (h : ∀ i y, ys[i]? = some y → y = V.int (f i)) : ys = ((List.range n).map f).map V.int := by
  refine List.ext_getElem? fun i => ?_
  by_cases hi : i < n
  · have hi' : i < ys.length := by omega
    have e := h i ys[i] (by simp [hi'])
    simp [hi, hi', e]
  · rw [List.getElem?_eq_none (by omega), List.getElem?_eq_none (by simp; omega)]

def nI (ns : List Nat) : List Int := ns.map fun (n : Nat) => (n : Int)
theorem nI_length (ns : List Nat) : (nI ns).length = ns.length := by simp [nI]
/-- a row as data -/
def rowD (ns : List Nat) : PyData := .tuple ((nI ns).map PyData.int)

/-! ### errors with one field -/
def spErr (C : Addr) (f : Str) : Sp := fun vs H Q _ => ∃ (a : Addr) (y : V), vs = [.ref a, y] ∧ H a = some (exo a C none) ∧ ∀ dx, H dx = none → dx ≠ a → Q .non (upd (upd H dx (exd dx [(f, y)])) a (exo a C (some dx)))
structure ErT (K : PySem.W.Frag) (mg : Str → Option Value) (x f q : Str) (st : Stmt) (C fI : Addr) (fd : FuncData) : Prop where
  oex : OexC K C
  xf : XfC K C
  no : PySem.W.findIn K (.ref C) f = some none
  mgC : mg x = some (.ref C)
  iC : PySem.W.findIn K (.ref C) "__init__" = some (some (.ref fI))
  tI : PySem.W.typeIn K (.ref fI) = some (.type "function")
  fn : Fun K "__init__" q st fI fd
  b : Binds K fd ["self", f] []
structure ErC (P : Program) (w : World) (K : PySem.W.Frag) (mg : Str → Option Value) (base : Heap) (x f : Str) (C : Addr) : Prop where
  ex : ∃ (fI : Addr) (fd : FuncData), PySem.W.findIn K (.ref C) "__init__" = some (some (.ref fI)) ∧ PySem.W.typeIn K (.ref fI) = some (.type "function") ∧ Binds K fd ["self", f] [] ∧ FnOk P w K mg base CX0 1 fI fd ["self", f] (spErr C f)
  oex : OexC K C
  xf : XfC K C
  no : PySem.W.findIn K (.ref C) f = some none
  mgC : mg x = some (.ref C)
/-- raise X(e): what the making of the error asks of its argument's value -/
def rzQ (C : Addr) (f : Str) (W : WX) (σ : L2.St) (y : V) (H1 : Hp) : Prop := ([y] : List V).length ≤ 1000 ∧ ∀ a, H1 a = none → spErr C f (.ref a :: ([y] ++ [])) (upd H1 a (exo a C none))
  (fun v H2 => v = .non ∧ ∃ (d : Addr) (fs : List (Str × V)), H2 a = some (exo a C (some d)) ∧ H2 d = some (exd d fs) ∧ H1 d = none ∧ W (.ref C) (some d) σ (upd (del H2 a) d (.xd fs))) (fun _ _ _ => False)
def tRz (C : Addr) (f : Str) (W : WX) (te : TE) : TS := fun _ σ H => te σ H fun y H1 => rzQ C f W σ y H1
theorem rz_ok {C : Addr} {f : Str} {W : WX} {σ : L2.St} {y : V} {H1 : Hp} (h : ∀ d, H1 d = none → W (.ref C) (some d) σ (upd H1 d (.xd [(f, y)]))) : rzQ C f W σ y H1 := by
  refine ⟨(by show 1 ≤ 1000; omega), fun a ha => ⟨a, y, rfl, upd_same, fun dx hd hne => ⟨rfl, dx, [(f, y)], upd_same, ?_, ?_, ?_⟩⟩⟩
  · rw [upd_ne hne, upd_same]
  · rwa [upd_ne hne] at hd
  · have hd1 : H1 dx = none := by rwa [upd_ne hne] at hd
    have e : upd (del (upd (upd (upd H1 a (exo a C none)) dx (exd dx [(f, y)])) a (exo a C (some dx))) a) dx (.xd [(f, y)]) = upd H1 dx (.xd [(f, y)]) := by
      funext b
      by_cases h1 : b = dx
      · rw [h1, upd_same, upd_same]
      · rw [upd_ne h1, upd_ne h1]
        by_cases h2 : b = a
        · rw [h2, del_same, ha]
        · rw [del_ne h2, upd_ne h2, upd_ne h1, upd_ne h2]
    rw [e]
    exact h dx hd1
theorem ps_rz {X : Cx} {x f : Str} {C : Addr} {W : WX} {e : Expr} {te : TE} {p pos pos' : Pos} (hc : X.calm = true) (T : ErC X.prog X.w X.K X.mg X.base x f C) (hr : Room 2 X.A) (tk : Takes X W) (hg : Gl X x) (he : PE X e te)
    (hdb : (x == ("__debug__" : Str)) = false := by decide) (hse : starEach [e] X.env = (false, eval e X.env) :: starEach [] X.env := by rfl) :
    PS X (.Raise (some (.Call (.Name x p) [e] [] pos)) none pos') (tRz C f W te) := by
  obtain ⟨fI, fd, iC, tI, bI, F⟩ := T.ex
  refine ⟨fun pins s σ H D I h => ?_⟩
  exact (ps_raise hc tk (pmk_oex T.oex iC tI F hr bI .nil pass0 hg T.mgC (pa_cons (hs := hse) he pa_nil) hdb hse (by rfl))).run pins s σ H D I h
section
variable {P : Program} {w : World} {K : PySem.W.Frag} {mg : Str → Option Value} {base : Heap} {C fI : Addr} {fd : FuncData}
theorem ErT.ok {x f q : Str} {st : Stmt} (T : ErT K mg x f q st C fI fd) (S : FnScope ["self", f] ["self", f] (defScope st))
    (hb : ∀ (cdv : Value) (A : Around) (outer : List Env) (s : Shared) (H : Hp) (E : XK), PSs (cxOf CX0 P w K mg base ["self", f] q (defScope st) fI cdv A outer s H E).nox (defBody st) (tOst K f (tVar 0) (tVar 1))) :
    ErC P w K mg base x f C := by
  refine ⟨⟨fI, fd, T.iC, T.tI, T.b, ?_⟩, T.oex, T.xf, T.no, T.mgC⟩
  refine T.fn.ok S (fun vs H Q E h => ?_) (fun cdv A outer s H vs Q E hr h => ?_)
  · obtain ⟨a, y, rfl, _⟩ := h
    rfl
  · obtain ⟨a, y, rfl, ha, k⟩ := h
    exact ⟨_, hb cdv A outer s H E, _, rfl, _, rfl, a, C, rfl, T.oex, T.no, .inl ⟨ha, k⟩⟩
theorem ErT.mk' {h : Heap} {x f q : Str} {st : Stmt} {nm qc : Str} {N : Addr} {bs bm : List Value} {sn : List Str} {sub : List Value} {ab : Bool} {col : Option Bool} {dd : Option Addr} {k0 k1 k2 k3 k5 : Option Value} {oc : Value} {od an : Option Addr} {osl : Array (Option Value)} {kV doc pm cdv ct : Value}
    (X : K.In h) (G : h.Ns mainGlobals mg) (aC : PySem.W.nsIn K mainGlobals x = some (some (.ref C))) (xL : K.lookup C = some (excClassObj nm qc C N bs bm true sn sub ab col dd k0 k1 k2 k3 k5 "ValueError.__new__")) (rv : PySem.HandSPX.refsVE bm = true)
    (sa : PySem.W.findIn K (.ref C) "__setattr__" = some (some (.builtin "object.__setattr__"))) (ga : PySem.W.findIn K (.ref C) "__getattribute__" = some (some (.builtin "BaseException.__getattribute__"))) (gg : PySem.W.findIn K (.ref C) "__getattr__" = some none) (nb : PySem.W.findIn K (.ref C) f = some none)
    (a1 : PySem.W.findIn K (.ref C) "__init__" = some (some (.ref fI))) (t1 : PySem.W.typeIn K (.ref fI) = some (.type "function")) (l1 : K.lookup fI = some ⟨oc, od, .func (PySem.W.fnOf "__init__" q (defArgs st) (defBody st) (defScope st) .none kV doc pm an cdv ct), osl⟩) (c1 : PySem.W.codeIn K cdv q = true) (k1' : PySem.W.keepIn K (.ref fI) = true)
    (kC : PySem.W.keepIn K (.ref C) = true) (eC : PySem.W.subIn K (.ref C) (.type "BaseException") = some true) (tC : PySem.W.typeIn K (.ref C) = some (.type "type")) (hC : PySem.W.hasDictIn K C = true)
    (hb : ∀ (kV doc pm : Value) (an : Option Addr) (cdv ct : Value) (us : List Value), us.length = (["self", f] : List Str).length → bindArgs (PySem.W.fnOf "__init__" q (defArgs st) (defBody st) (defScope st) .none kV doc pm an cdv ct) ⟨us, []⟩ = pure ((["self", f] : List Str).zip us)) :
    ErT K mg x f q st C fI (PySem.W.fnOf "__init__" q (defArgs st) (defBody st) (defScope st) .none kV doc pm an cdv ct) :=
  ⟨⟨⟨nm, qc, N, bs, bm, sn, sub, ab, col, dd, k0, k1, k2, k3, k5, xL, rv⟩, sa, eC, tC, kC⟩, ⟨ga, gg, eC, hC⟩, nb, PySem.W.mg_of X G aC, a1, t1, fun_mk l1 c1 k1', (fun_mk l1 c1 k1').binds hb⟩

end

def itm : PyData → List PyData
  | .tuple xs => xs
  | _ => []
def boOf : PyData → Bool
  | .bool b => b
  | _ => false
def iOf : PyData → Int
  | .int i => i
  | _ => 0

section
variable {K : PySem.W.Frag} {H : Hp}
theorem _root_.L2.DpAll.at_ {xs : List V} {ds : List PyData} (h : DpAll K H xs ds) {i : Nat} (hi : i < ds.length) : ∃ x, xs[i]? = some x ∧ atI xs (i : Int) = some x ∧ Dp K H x (ds.getD i .none) := by
  obtain ⟨x, h1, h2⟩ := DpAll.get h (i := i) (d := ds.getD i .none) (by simp [hi])
  exact ⟨x, h1, atI_nat h1, h2⟩
theorem isTn_tup {d : PyData} {n : Int} (h : isTn d n = true) : ∃ ds, d = .tuple ds ∧ (ds.length : Int) = n := by
  cases d with
  | tuple ds => exact ⟨ds, rfl, by simpa [isTn] using h⟩
  | _ => cases h
end

/-- x is not b -/
def rNotBA : R2 := fun x y H Q => ∃ b : Bool, y = .bl b ∧ Q (.bl (!decide (x = .bl b))) H
theorem op_notBA {X : Cx} : OpR X (compareOp .IsNot) rNotBA := by
  intro pins s σ H x y v u Q I rx ry h
  obtain ⟨b, rfl, q⟩ := h
  cases (show u = Value.bool b from ry)
  have fin : ∀ c, (x = .bl b) = (c = true) → decide (x = .bl b) = c → EP X pins σ Q (.bool (!c)) s := fun c _ e => ⟨.bl (!c), H, I, rfl, by rw [← e]; exact q⟩
  by_cases e : x = .bl b
  · subst e
    cases (show v = Value.bool b from rx)
    exact wpAny_isNot_self rfl ⟨.bl false, H, I, rfl, by simpa using q⟩
  · have e2 : (!decide (x = .bl b)) = true := by simpa using e
    rw [e2] at q
    have go : plainIs v (.bool b) = true ∧ v ≠ .bool b := by
      cases x with
      | non => cases (show v = Value.none from rx); exact ⟨rfl, fun z => by cases z⟩
      | bl c => cases (show v = Value.bool c from rx); exact ⟨rfl, fun z => by cases z; exact e rfl⟩
      | int i => obtain ⟨t, rfl⟩ := rx; exact ⟨rfl, fun z => by cases z⟩
      | str i => obtain ⟨t, rfl⟩ := rx; exact ⟨rfl, fun z => by cases z⟩
      | byt i => obtain ⟨t, rfl⟩ := rx; exact ⟨rfl, fun z => by cases z⟩
      | flt i => obtain ⟨t, rfl⟩ := rx; exact ⟨rfl, fun z => by cases z⟩
      | ref i => cases (show v = Value.ref i from rx); exact ⟨rfl, fun z => by cases z⟩
      | ty i => cases (show v = Value.type i from rx); exact ⟨rfl, fun z => by cases z⟩
    exact wpAny_isNot_other go.1 go.2 ⟨.bl true, H, I, rfl, q⟩

theorem exm_of {K : PySem.W.Frag} {S c : Addr} {b : Bool} (h1 : PySem.W.subIn K (.ref S) (.type "BaseException") = some true) (h2 : PySem.W.isClsIn K S = true) (h3 : PySem.W.typeIn K (.ref S) = some (.type "type")) (h4 : PySem.W.subIn K (.ref c) (.ref S) = some b) :
    PySem.W.exmOne K (.ref c) (.ref S) = some b := by
  have e1 : (PySem.W.subIn K (.ref S) (.type "BaseException") == some true) = true := by rw [h1] <;> rfl
  have e2 : ((PySem.W.clsIn K S).isSome && PySem.W.typeIn K (.ref S) == some (.type "type")) = true := by
    have h2' : (PySem.W.clsIn K S).isSome = true := h2
    rw [h2', h3] <;> rfl
  show (if (PySem.W.subIn K (.ref S) (.type "BaseException") == some true) = true then (if ((PySem.W.clsIn K S).isSome && PySem.W.typeIn K (.ref S) == some (.type "type")) = true then PySem.W.subIn K (.ref c) (.ref S) else none) else none) = some b
  rw [if_pos e1, if_pos e2]
  exact h4

theorem getD_map {α β : Type} (f : α → β) (l : List α) (i : Nat) (d : α) (e : β) (h : i < l.length) : (l.map f).getD i e = f (l.getD i d) := by simp [h]

/-! ### repr of small data -/
structure Sm (N D : Nat) (d : PyData) : Prop where
  sh : d.showable = true
  lv : d.leavesShort 61 = true
  nd : d.hasDict = false
  bk : d.bulk ≤ N
  dp : d.depth ≤ D
structure SmA (N D : Nat) (xs : List PyData) : Prop where
  sh : PyData.showableAll xs = true
  lv : PyData.leavesShortAll 61 xs = true
  nd : PyData.hasDictAll xs = false
  bk : PyData.bulkAll xs ≤ N
  dp : PyData.depthAll xs ≤ D
theorem Sm.none' {N D : Nat} : Sm N D .none := ⟨rfl, rfl, rfl, Nat.zero_le _, Nat.zero_le _⟩
theorem Sm.bl' {N D : Nat} {b : Bool} : Sm N D (.bool b) := ⟨rfl, rfl, rfl, Nat.zero_le _, Nat.zero_le _⟩
theorem log_60 {n : Nat} (h : n < 10 ^ 60) : n.log2 < 1920 := by
  by_cases e : n = 0
  · subst e; decide
  · have : n.log2 < 200 := by
      rw [Nat.log2_lt e]
      exact Nat.lt_of_lt_of_le h (by decide)
    omega
theorem Sm.int' {N D : Nat} {i : Int} (h : i.natAbs < 10 ^ 60) : Sm N D (.int i) := by
  refine ⟨by simp only [PyData.showable, decide_eq_true_eq]; exact log_60 h, ?_, rfl, Nat.zero_le _, Nat.zero_le _⟩
  have e := int_text_length_le10 (k := 60) (by decide) h
  simp only [PyData.leavesShort, decide_eq_true_eq]
  show (Str.ofString (toString i)).length ≤ 61
  rw [PySem.ofString_length]; exact e
theorem SmA.nil' {N D : Nat} : SmA N D [] := ⟨rfl, rfl, rfl, Nat.zero_le _, Nat.zero_le _⟩
theorem SmA.cons' {N n m D : Nat} {x : PyData} {xs : List PyData} (h : Sm n D x) (r : SmA m D xs) (e : n + 1 + m ≤ N) : SmA N D (x :: xs) := by
  refine ⟨by simp only [PyData.showableAll, h.sh, r.sh, Bool.and_self], by simp only [PyData.leavesShortAll, h.lv, r.lv, Bool.and_self], by simp only [PyData.hasDictAll, h.nd, r.nd, Bool.or_self], ?_, ?_⟩
  · have := h.bk
    have := r.bk
    simp only [PyData.bulkAll]
    omega
  · have := h.dp
    have := r.dp
    simp only [PyData.depthAll]
    omega
theorem SmA.of_all {n D : Nat} : ∀ {xs : List PyData}, (∀ x ∈ xs, Sm n D x) → SmA ((n + 1) * xs.length) D xs
  | [], _ => SmA.nil'
  | x :: xs, h => SmA.cons' (h x (List.mem_cons_self ..)) (SmA.of_all fun y hy => h y (List.mem_cons_of_mem _ hy)) (by rw [List.length_cons, Nat.mul_succ]; omega)
theorem SmA.mono {N M D : Nat} {xs : List PyData} (h : SmA N D xs) (e : N ≤ M) : SmA M D xs := ⟨h.sh, h.lv, h.nd, Nat.le_trans h.bk e, h.dp⟩
theorem SmA.tup {N D : Nat} {xs : List PyData} (h : SmA N D xs) : Sm N (D + 1) (.tuple xs) :=
  ⟨by simpa only [PyData.showable] using h.sh, by simpa only [PyData.leavesShort] using h.lv, by simpa only [PyData.hasDict] using h.nd, by simpa only [PyData.bulk] using h.bk, by simp only [PyData.depth]; have := h.dp; omega⟩
theorem Sm.mono {N M D C : Nat} {d : PyData} (h : Sm N D d) (e : N ≤ M) (f : D ≤ C) : Sm M C d := ⟨h.sh, h.lv, h.nd, Nat.le_trans h.bk e, Nat.le_trans h.dp f⟩
theorem Sm.fits {N D : Nat} {d : PyData} (h : Sm N D d) (e : N ≤ 200000) : d.shown.length ≤ sizeLine := by
  have h1 := PyData.shown_le_bulk 61 (by decide) d h.lv
  have h2 := h.bk
  rw [sizeLine_eq]
  omega
theorem Sm.ints {N : Nat} {ns : List Nat} (h : ∀ n ∈ ns, n < 10 ^ 60) (e : ns.length ≤ N) : Sm N 1 (rowD ns) := by
  refine SmA.tup (SmA.mono (SmA.of_all (n := 0) fun x hx => ?_) (by rw [List.length_map, nI_length]; omega))
  obtain ⟨i, hi, rfl⟩ := List.mem_map.mp hx
  obtain ⟨n, hn, rfl⟩ := List.mem_map.mp hi
  exact Sm.int' (by have := h n hn; simpa using this)
def spLike (K : PySem.W.Frag) : Sp := fun vs H Q _ => ∃ (v u : V) (d : PyData) (N D : Nat), vs = [v, u] ∧ Dp K H v d ∧ Dp K H u d ∧ Sm N D d ∧ N ≤ 200000 ∧ D ≤ 60 ∧ Q (.bl true) H

/-! ### the law's state -/
/-- all but the dict at a and the list at l stands as before -/
def Sbt (a l : Addr) (H H' : Hp) : Prop := ∀ b o, H b = some o → b ≠ a → b ≠ l → H' b = some o
theorem Sbt.refl {a l : Addr} (H : Hp) : Sbt a l H H := fun _ _ e _ _ => e
theorem Sbt.trans {a l : Addr} {H H1 H2 : Hp} (h : Sbt a l H H1) (k : Sbt a l H1 H2) : Sbt a l H H2 := fun b o e h1 h2 => k b o (h b o e h1 h2) h1 h2
theorem Sbt.of {a l : Addr} {H H1 : Hp} (h : Same H H1) : Sbt a l H H1 := fun b o e _ _ => h b o e
theorem Sbt.same {a l : Addr} {H H1 H2 : Hp} (h : Sbt a l H H1) (k : Same H1 H2) : Sbt a l H H2 := fun b o e h1 h2 => k b o (h b o e h1 h2)
theorem Sbt.mut {a l p : Addr} {o : HO} {H H1 : Hp} (h : Sbt a l H H1) (n : H p = none) : Sbt a l H (upd H1 p o) := fun b u e h1 h2 => by
  rw [upd_ne (ne_of_none e n)]
  exact h b u e h1 h2
theorem Sbt.a {a l : Addr} {o : HO} {H H1 : Hp} (h : Sbt a l H H1) : Sbt a l H (upd H1 a o) := fun b u e h1 h2 => by
  rw [upd_ne h1]
  exact h b u e h1 h2
theorem Sbt.l {a l : Addr} {o : HO} {H H1 : Hp} (h : Sbt a l H H1) : Sbt a l H (upd H1 l o) := fun b u e h1 h2 => by
  rw [upd_ne h2]
  exact h b u e h1 h2
def stK (c l : Addr) (m : Nat) : List (Key × V) := [(.inr "cells", .ref c), (.inr "lefts", .ref l), (.inr "at", .int m)]
structure LStX (H : Hp) (a l : Addr) (n : Nat) (c : Addr) (cs ls : List Int) (m : Nat) : Prop where
  top : H a = some (.dK (stK c l m))
  cells : H c = some (.lst (cs.map V.int))
  lefts : H l = some (.lst (ls.map V.int))
  len : ls.length = cs.length
  pos : 0 < cs.length
  few : m ≤ n
  apart : c ≠ l
def LSt (H : Hp) (a l c : Addr) (n : Nat) : Prop := ∃ cs ls m, LStX H a l n c cs ls m
theorem LSt.same {H H' : Hp} {a l c : Addr} {n : Nat} (h : LSt H a l c n) (e : Same H H') : LSt H' a l c n := by
  obtain ⟨cs, ls, m, h⟩ := h
  exact ⟨cs, ls, m, e _ _ h.top, e _ _ h.cells, e _ _ h.lefts, h.len, h.pos, h.few, h.apart⟩
theorem LSt.mono {H : Hp} {a l c : Addr} {n k : Nat} (h : LSt H a l c n) (e : n ≤ k) : LSt H a l c k := by
  obtain ⟨cs, ls, m, h⟩ := h
  exact ⟨cs, ls, m, h.top, h.cells, h.lefts, h.len, h.pos, Nat.le_trans h.few e, h.apart⟩
/-- what is not the state's own may change -/
theorem LSt.put {H : Hp} {a l c p : Addr} {n : Nat} {o : HO} (h : LSt H a l c n) (e1 : p ≠ a) (e2 : p ≠ l) (e3 : p ≠ c) : LSt (upd H p o) a l c n := by
  obtain ⟨cs, ls, m, h⟩ := h
  exact ⟨cs, ls, m, by rw [upd_ne (Ne.symm e1)]; exact h.top, by rw [upd_ne (Ne.symm e3)]; exact h.cells, by rw [upd_ne (Ne.symm e2)]; exact h.lefts, h.len, h.pos, h.few, h.apart⟩
/-- what is none of the state's own -/
theorem LSt.off {H : Hp} {a l c p : Addr} {n : Nat} (h : LSt H a l c n) (e : H p = none) : p ≠ a ∧ p ≠ l ∧ p ≠ c := by
  obtain ⟨cs, ls, m, h⟩ := h
  exact ⟨Ne.symm (ne_of_none h.top e), Ne.symm (ne_of_none h.lefts e), Ne.symm (ne_of_none h.cells e)⟩
theorem LSt.new {H : Hp} {a l c p : Addr} {n : Nat} {o : HO} (h : LSt H a l c n) (e : H p = none) : LSt (upd H p o) a l c n := by
  obtain ⟨e1, e2, e3⟩ := h.off e
  exact h.put e1 e2 e3
section
variable {K : PySem.W.Frag}
mutual
def noList : PyData → Bool
  | .list _ => false
  | .tuple xs => noListAll xs
  | .dict _ => false
  | _ => true
def noListAll : List PyData → Bool
  | [] => true
  | x :: xs => noList x && noListAll xs
end
/-- at a stands no tuple -/
structure NoT (H : Hp) (a : Addr) : Prop where
  tup : ∀ xs, H a ≠ some (.tup xs)
  frz : ∀ o u, H a ≠ some (.frz o u)
theorem NoT.lst {H : Hp} {a : Addr} {xs : List V} (h : H a = some (.lst xs)) : NoT H a := ⟨(fun _ z => by rw [h] at z; cases z), (fun _ _ z => by rw [h] at z; cases z)⟩
theorem NoT.dK {H : Hp} {a : Addr} {xs : List (Key × V)} (h : H a = some (.dK xs)) : NoT H a := ⟨(fun _ z => by rw [h] at z; cases z), (fun _ _ z => by rw [h] at z; cases z)⟩
theorem LSt.noA {H : Hp} {a l c : Addr} {n : Nat} (s : LSt H a l c n) : NoT H a := by
  obtain ⟨cs, ls, m, s⟩ := s
  exact .dK s.top
theorem LSt.noL {H : Hp} {a l c : Addr} {n : Nat} (s : LSt H a l c n) : NoT H l := by
  obtain ⟨cs, ls, m, s⟩ := s
  exact .lst s.lefts
theorem seqTN {H H' : Hp} {a l b : Addr} {xs : List V} (e : Sbt a l H H') (na : NoT H a) (nl : NoT H l) (h : SqT K H b xs) : SqT K H' b xs := by
  rcases h with (h | ⟨o, h⟩) | h
  · exact .inl (.inl (e _ _ h (fun z => na.tup xs (by rw [← z]; exact h)) (fun z => nl.tup xs (by rw [← z]; exact h))))
  · exact .inl (.inr ⟨o, e _ _ h (fun z => na.frz _ _ (by rw [← z]; exact h)) (fun z => nl.frz _ _ (by rw [← z]; exact h))⟩)
  · exact .inr h
theorem Sbt.seqT {H H' : Hp} {a l c b : Addr} {n : Nat} {xs : List V} (e : Sbt a l H H') (s : LSt H a l c n) (h : SqT K H b xs) : SqT K H' b xs := seqTN e s.noA s.noL h
mutual
theorem keepN {H H' : Hp} {a l : Addr} (e : Sbt a l H H') (na : NoT H a) (nl : NoT H l) : ∀ (d : PyData) (v : V), noList d = true → Dp K H v d → Dp K H' v d
  | .none, _, _, h => by cases h; exact .non
  | .bool b, _, _, h => by cases h; exact .bl b
  | .int i, _, _, h => by cases h; exact .int i
  | .str x, _, _, h => by cases h; exact .str x
  | .list ds, _, q, h => by cases q
  | .tuple ds, _, q, h => by
    cases h with
    | tup hs ha => exact .tup (seqTN e na nl hs) (keepNs e na nl ds _ (by simpa only [noList] using q) ha)
  | .dict _, _, _, h => by cases h
theorem keepNs {H H' : Hp} {a l : Addr} (e : Sbt a l H H') (na : NoT H a) (nl : NoT H l) : ∀ (ds : List PyData) (vs : List V), noListAll ds = true → DpAll K H vs ds → DpAll K H' vs ds
  | [], _, _, h => by cases h; exact .nil
  | d :: ds, _, q, h => by
    cases h with
    | cons h1 h2 =>
      simp only [noListAll, Bool.and_eq_true] at q
      exact .cons (keepN e na nl d _ q.1 h1) (keepNs e na nl ds _ q.2 h2)
end
theorem keepT {H H' : Hp} {a l c : Addr} {n : Nat} (e : Sbt a l H H') (s : LSt H a l c n) (d : PyData) (v : V) (q : noList d = true) (h : Dp K H v d) : Dp K H' v d := keepN e s.noA s.noL d v q h
theorem keepTs {H H' : Hp} {a l c : Addr} {n : Nat} (e : Sbt a l H H') (s : LSt H a l c n) (ds : List PyData) (vs : List V) (q : noListAll ds = true) (h : DpAll K H vs ds) : DpAll K H' vs ds := keepNs e s.noA s.noL ds vs q h
/-- a list that changes -/
theorem keepLs {H : Hp} {p : Addr} {xs : List V} {o : HO} (hp : H p = some (.lst xs)) {ds : List PyData} {vs : List V} (q : noListAll ds = true) (h : DpAll K H vs ds) : DpAll K (upd H p o) vs ds :=
  keepNs (a := p) (l := p) (Sbt.refl H).a (.lst hp) (.lst hp) ds vs q h
theorem keepL {H : Hp} {p : Addr} {xs : List V} {o : HO} (hp : H p = some (.lst xs)) {d : PyData} {v : V} (q : noList d = true) (h : Dp K H v d) : Dp K (upd H p o) v d :=
  keepN (a := p) (l := p) (Sbt.refl H).a (.lst hp) (.lst hp) d v q h
theorem noListAll_of : ∀ {xs : List PyData}, (∀ x ∈ xs, noList x = true) → noListAll xs = true
  | [], _ => rfl
  | x :: xs, h => by
    simp only [noListAll, Bool.and_eq_true]
    exact ⟨h x (List.mem_cons_self ..), noListAll_of fun y hy => h y (List.mem_cons_of_mem _ hy)⟩
theorem noList_row (ns : List Nat) : noList (rowD ns) = true := by
  simp only [rowD, noList]
  exact noListAll_of fun x hx => by obtain ⟨i, _, rfl⟩ := List.mem_map.mp hx; rfl
theorem noList_rows (rows : List (List Nat)) : noListAll (rows.map rowD) = true := noListAll_of fun x hx => by obtain ⟨r, _, rfl⟩ := List.mem_map.mp hx; exact noList_row r
end
def spMixed : Sp := fun vs H Q _ => ∃ i k : Int, vs = [.int i, .int k] ∧ 0 ≤ k ∧ k ≤ 10000000 ∧ ∀ r : Int, 0 ≤ r → r < 2147483629 → Q (.int r) H
def spDraw : Sp := fun vs H Q _ => ∃ (a l c : Addr) (n : Nat) (lim : Int), vs = [.ref a, .int lim] ∧ LSt H a l c n ∧ n ≤ 1000000 ∧ 1 ≤ lim ∧ lim < 2 ^ 60 ∧ ∀ H' (r : Int), Sbt a l H H' → LSt H' a l c (n + 1) → 0 ≤ r → r < lim → Q (.int r) H'

theorem ks1 : ¬ (("cells" : Str) = "at") := by decide +kernel
theorem ks2 : ¬ (("lefts" : Str) = "at") := by decide +kernel
theorem ks3 : ¬ (("cells" : Str) = "lefts") := by decide +kernel
theorem dg_cells {H : Hp} {a c l : Addr} {m : Nat} (h : H a = some (.dK (stK c l m))) : DGet H a (V.str "cells") (some (.ref c)) := by
  have e : valV (stK c l m) (.inr "cells" : Key) = some (.ref c) := valV_pos rfl
  rw [← e]
  exact DGet.k (k := (Sum.inr ("cells" : Str) : Key)) h
theorem dg_lefts {H : Hp} {a c l : Addr} {m : Nat} (h : H a = some (.dK (stK c l m))) : DGet H a (V.str "lefts") (some (.ref l)) := by
  have e : valV (stK c l m) (.inr "lefts" : Key) = some (.ref l) := by simp [valV, stK, List.find?, ks3]
  rw [← e]
  exact DGet.k (k := (Sum.inr ("lefts" : Str) : Key)) h
theorem dg_at {H : Hp} {a c l : Addr} {m : Nat} (h : H a = some (.dK (stK c l m))) : DGet H a (V.str "at") (some (.int m)) := by
  have e : valV (stK c l m) (.inr "at" : Key) = some (.int m) := by simp [valV, stK, List.find?, ks1, ks2]
  rw [← e]
  exact DGet.k (k := (Sum.inr ("at" : Str) : Key)) h
theorem dp_at {H : Hp} {a c l : Addr} {m : Nat} (h : H a = some (.dK (stK c l m))) : DPut H a (V.str "at") (V.int ((m : Int) + 1)) (upd H a (.dK (stK c l (m + 1)))) := by
  have e : putK (stK c l m) (.inr "at" : Key) (V.int ((m : Int) + 1)) = stK c l (m + 1) := by simp [putK, stK, ks1, ks2]
  rw [← e]
  exact DPut.k (k := (Sum.inr ("at" : Str) : Key)) h (by show 3 < sizeLine; decide)

theorem Sbt.free {a l q : Addr} {H H' : Hp} (e : Sbt a l H H') (h : H' q = none) (na : q ≠ a) (nl : q ≠ l) : H q = none := by
  cases hq : H q with
  | none => rfl
  | some o =>
    have := e q o hq na nl
    rw [h] at this
    cases this
theorem dp_bools {K : PySem.W.Frag} {H : Hp} : ∀ bs : List Bool, DpAll K H (bs.map V.bl) (bs.map PyData.bool)
  | [] => .nil
  | b :: bs => .cons (.bl b) (dp_bools bs)
/-- a comprehension whose elements draw -/
theorem lcD {J : It} {n : Nat} {G : Hp → Prop} {Y : Nat → Hp → V → Hp → Prop} (w : Walk J n G Y) {g : TG} {te : TE} {vs : List Nat} {σ : L2.St} {H1 : Hp} {D : Addr} {Qd : Hp → Prop} {a l c : Addr} {m : Nat} (st : Nat) (hD : H1 D = none) (hn : n < sizeLine) (R : Nat → V → Prop)
    (hl : LSt H1 a l c m) (hG : ∀ H, G H)
    (hs : ∀ i x H H' (Q : VK), i < n → Sbt a l H1 H → LSt H a l c (m + i * st) → Y i H x H' → (∀ y H4, R i y → Sbt a l H H4 → LSt H4 a l c (m + (i + 1) * st) → Q y H4) → g x (wipe σ vs) H' fun σ2 H2 => wipe σ2 vs = wipe σ vs ∧ te σ2 H2 Q)
    (hd : ∀ H ys, Sbt a l H1 H → LSt H a l c (m + n * st) → H D = some (.lst ys) → ys.length = n → (∀ i y, ys[i]? = some y → R i y) → Qd H) :
    ∃ W : Nat → Nat → Hp → Prop, (∃ m, W 0 m (upd H1 D (.lst []))) ∧ ∀ i m H, W i m H →
      (J.stop i H ∧ Qd H) ∨ (J.go i H ∧ ∃ Nx : Hp → Prop, (∀ H', Nx H' → ∃ m', m' < m ∧ W (i + 1) m' H') ∧ ∀ x H', J.yld i H x H' → g x (wipe σ vs) H' fun σ2 H2 => wipe σ2 vs = wipe σ vs ∧ tYes σ2 H2 fun b H3 =>
        if b = true then te σ2 H3 fun y H4 => ∃ acc, H4 D = some (.lst acc) ∧ acc.length < sizeLine ∧ Nx (upd H4 D (.lst (acc ++ [y]))) else Nx H3) := by
  obtain ⟨da, dl, dc⟩ := hl.off hD
  refine lc_it w (fun i H => Sbt a l H1 H ∧ LSt H a l c (m + i * st) ∧ ∃ ys, H D = some (.lst ys) ∧ ys.length = i ∧ ∀ j y, ys[j]? = some y → R j y) ⟨(Sbt.refl H1).mut hD, by rw [Nat.zero_mul]; exact hl.new hD, [], upd_same, rfl, fun j y h => by simp at h⟩ (fun i H _ p => hG H) (fun i x H H' hi p y => ?_) (fun H p => ?_)
  · obtain ⟨s, sl, ys, hy, hlen, hr⟩ := p
    have q := hs i x H H' (fun y H4 => ∃ acc, H4 D = some (.lst acc) ∧ acc.length < sizeLine ∧ Sbt a l H1 (upd H4 D (.lst (acc ++ [y]))) ∧ LSt (upd H4 D (.lst (acc ++ [y]))) a l c (m + (i + 1) * st) ∧ ∃ ys, (upd H4 D (.lst (acc ++ [y]))) D = some (.lst ys) ∧ ys.length = i + 1 ∧ ∀ j y, ys[j]? = some y → R j y) hi s sl y (fun v H4 r s4 sl4 => ?_)
    · have e : (fun σ2 H2 => wipe σ2 vs = wipe σ vs ∧ tYes σ2 H2 fun b H3 =>
        if b = true then te σ2 H3 fun y H4 => ∃ acc, H4 D = some (.lst acc) ∧ acc.length < sizeLine ∧ Sbt a l H1 (upd H4 D (.lst (acc ++ [y]))) ∧ LSt (upd H4 D (.lst (acc ++ [y]))) a l c (m + (i + 1) * st) ∧ ∃ ys, (upd H4 D (.lst (acc ++ [y]))) D = some (.lst ys) ∧ ys.length = i + 1 ∧ ∀ j y, ys[j]? = some y → R j y
        else Sbt a l H1 H3 ∧ LSt H3 a l c (m + (i + 1) * st) ∧ ∃ ys, H3 D = some (.lst ys) ∧ ys.length = i + 1 ∧ ∀ j y, ys[j]? = some y → R j y) =
        (fun σ2 H2 => wipe σ2 vs = wipe σ vs ∧ te σ2 H2 fun y H4 => ∃ acc, H4 D = some (.lst acc) ∧ acc.length < sizeLine ∧ Sbt a l H1 (upd H4 D (.lst (acc ++ [y]))) ∧ LSt (upd H4 D (.lst (acc ++ [y]))) a l c (m + (i + 1) * st) ∧ ∃ ys, (upd H4 D (.lst (acc ++ [y]))) D = some (.lst ys) ∧ ys.length = i + 1 ∧ ∀ j y, ys[j]? = some y → R j y) := by
        funext σ2 H2
        simp only [tYes, if_true]
      rw [e]
      exact q
    · refine ⟨ys, s4 _ _ hy da dl, by omega, (Sbt.trans s s4).mut hD, sl4.put da dl dc, _, upd_same, by simp [hlen], fun j z hz => ?_⟩
      by_cases hj : j < ys.length
      · rw [List.getElem?_append_left hj] at hz
        exact hr j z hz
      · rw [List.getElem?_append_right (by omega)] at hz
        have e : j = i := by
          have := (List.getElem?_eq_some_iff.mp hz).1
          simp at this
          omega
        subst e
        rw [hlen, Nat.sub_self] at hz
        simp at hz
        rw [← hz]
        exact r
  · obtain ⟨s, sl, ys, hy, hlen, hr⟩ := p
    exact hd H ys s sl hy hlen hr
/-- items that are numbers below a bound -/
theorem ints_of {ys : List V} {b : Nat} (h : ∀ (i : Nat) (y : V), ys[i]? = some y → ∃ r : Nat, y = V.int r ∧ r < b) : ∃ cs : List Nat, ys = (nI cs).map V.int ∧ cs.length = ys.length ∧ ∀ c ∈ cs, c < b := by
  induction ys with
  | nil => exact ⟨[], rfl, rfl, fun c hc => absurd hc (by simp)⟩
  | cons y ys ih =>
    obtain ⟨cs, h1, h2, h3⟩ := ih fun i z hz => h (i + 1) z (by simpa using hz)
    obtain ⟨r, h4, h5⟩ := h 0 y rfl
    refine ⟨r :: cs, by rw [h4, h1]; rfl, by simp [h2], fun c hc => ?_⟩
    rcases List.mem_cons.mp hc with e | e
    · rw [e]; exact h5
    · exact h3 c e
theorem bools_of {ys : List V} (h : ∀ (i : Nat) (y : V), ys[i]? = some y → ∃ b : Bool, y = V.bl b) : ∃ bs : List Bool, ys = bs.map V.bl ∧ bs.length = ys.length := by
  induction ys with
  | nil => exact ⟨[], rfl, rfl⟩
  | cons y ys ih =>
    obtain ⟨bs, h1, h2⟩ := ih fun i z hz => h (i + 1) z (by simpa using hz)
    obtain ⟨b, h4⟩ := h 0 y rfl
    exact ⟨b :: bs, by rw [h4, h1]; rfl, by simp [h2]⟩

section
variable {K : PySem.W.Frag} {H : Hp}
theorem cat_ok {a b : Addr} {xs ys : List V} {Q : VK} (h1 : SqT K H a xs) (h2 : SqT K H b ys) (hz : xs.length + ys.length ≤ sizeLine) (q : ∀ r H', Same H H' → SqT K H' r (xs ++ ys) → Q (.ref r) H') : rCatA K (.ref a) (.ref b) H Q := by
  refine ⟨a, b, xs, ys, rfl, rfl, h1, h2, hz, fun e => ?_, fun _ e => ?_, fun _ _ p hp => q p _ (Same.new hp) (.of upd_same)⟩
  · subst e
    exact q b H (Same.refl _) h2
  · subst e
    exact q a H (Same.refl _) (by rw [List.append_nil]; exact h1)
theorem sl_ok {a : Addr} {xs : List V} {lo hi : Option Int} {Q : VK} (h1 : SqT K H a xs) (q : ∀ r H', Same H H' → SqT K H' r (cutV xs lo hi) → Q (.ref r) H') : rSlA K (.ref a) lo hi H Q := by
  refine ⟨a, xs, rfl, h1, fun e => q a H (Same.refl _) ?_, fun _ p hp => q p _ (Same.new hp) (.of upd_same)⟩
  have : cutV xs lo hi = xs := by
    unfold cutV
    rw [e.1, e.2]
    simp
  rw [this]
  exact h1
theorem DpAll_cut {xs : List V} {ds : List PyData} (h : DpAll K H xs ds) (lo hi : Option Int) : ∃ es, DpAll K H (cutV xs lo hi) es ∧ (∀ d ∈ es, d ∈ ds) :=
  ⟨_, (h.drop _).take _, fun d hd => List.mem_of_mem_drop (List.mem_of_mem_take hd)⟩
end
theorem _root_.L2.SqT.to' {K : PySem.W.Frag} {H H' : Hp} {a : Addr} {xs : List V} (h : SqT K H a xs) (e : Same H H') : SqT K H' a xs := e.seqT h
/-! ### data that stays while the state, the lists of H0 change -/
def IsT (o : HO) : Prop := (∃ xs, o = .tup xs) ∨ ∃ ob u, o = .frz ob u
def Kp (H0 H H' : Hp) : Prop := ∀ b o, H b = some o → (H0 b = none ∨ IsT o) → H' b = some o
theorem Kp.refl {H0 H : Hp} : Kp H0 H H := fun _ _ e _ => e
theorem Kp.trans {H0 H H1 H2 : Hp} (h : Kp H0 H H1) (k : Kp H0 H1 H2) : Kp H0 H H2 := fun b o e c => k b o (h b o e c) c
theorem Kp.same {H0 H H1 : Hp} (h : Same H H1) : Kp H0 H H1 := fun b o e _ => h b o e
theorem Kp.sbt {H0 H H1 : Hp} {a l c : Addr} {n : Nat} (h : Sbt a l H H1) (s : LSt H a l c n) (ha : H0 a ≠ none) (hl : H0 l ≠ none) : Kp H0 H H1 := fun b o e k => by
  have nt : ∀ {x : Addr}, NoT H x → H0 x ≠ none → b ≠ x := fun {x} hn h0 z => by
    subst z
    rcases k with k | ⟨xs, k⟩ | ⟨ob, u, k⟩
    · exact h0 k
    · exact hn.tup xs (by rw [e, k])
    · exact hn.frz ob u (by rw [e, k])
  exact h b o e (nt s.noA ha) (nt s.noL hl)
theorem Kp.put {H0 H : Hp} {p : Addr} {xs : List V} {o : HO} (hp : H p = some (.lst xs)) (h0 : H0 p ≠ none) : Kp H0 H (upd H p o) := fun b u e k => by
  have : b ≠ p := fun z => by
    subst z
    rcases k with k | ⟨ys, k⟩ | ⟨ob, w, k⟩
    · exact h0 k
    · rw [hp] at e; cases e; cases k
    · rw [hp] at e; cases e; cases k
  rw [upd_ne this]
  exact e
def DpN (H0 : Hp) (K : PySem.W.Frag) (H : Hp) (v : V) (d : PyData) : Prop := ∀ H', Kp H0 H H' → Dp K H' v d
theorem DpN.dp {H0 H : Hp} {K : PySem.W.Frag} {v : V} {d : PyData} (h : DpN H0 K H v d) : Dp K H v d := h H .refl
theorem DpN.step {H0 H H' : Hp} {K : PySem.W.Frag} {v : V} {d : PyData} (h : DpN H0 K H v d) (e : Kp H0 H H') : DpN H0 K H' v d := fun H2 k => h H2 (e.trans k)
theorem DpN.base {H0 H1 H : Hp} {K : PySem.W.Frag} {v : V} {d : PyData} (h : DpN H1 K H v d) (e : ∀ b, H1 b = none → H0 b = none) : DpN H0 K H v d := fun H2 k => h H2 fun b o x y => k b o x (y.imp (e b) id)
theorem seqTK {H0 H H' : Hp} {K : PySem.W.Frag} {b : Addr} {xs : List V} (e : Kp H0 H H') (h : SqT K H b xs) : SqT K H' b xs := by
  rcases h with (h | ⟨o, h⟩) | h
  · exact .inl (.inl (e _ _ h (.inr (.inl ⟨_, rfl⟩))))
  · exact .inl (.inr ⟨o, e _ _ h (.inr (.inr ⟨_, _, rfl⟩))⟩)
  · exact .inr h
mutual
theorem DpN.flat {H0 H : Hp} {K : PySem.W.Frag} : ∀ (d : PyData) (v : V), noList d = true → Dp K H v d → DpN H0 K H v d
  | .none, _, _, h => by cases h; exact fun _ _ => .non
  | .bool b, _, _, h => by cases h; exact fun _ _ => .bl b
  | .int i, _, _, h => by cases h; exact fun _ _ => .int i
  | .str x, _, _, h => by cases h; exact fun _ _ => .str x
  | .list ds, _, q, h => by cases q
  | .tuple ds, _, q, h => by
    cases h with
    | tup hs ha => exact fun H' e => .tup (seqTK e hs) (DpN.flats ds _ (by simpa only [noList] using q) ha H' e)
  | .dict _, _, _, h => by cases h
theorem DpN.flats {H0 H : Hp} {K : PySem.W.Frag} : ∀ (ds : List PyData) (vs : List V), noListAll ds = true → DpAll K H vs ds → ∀ H', Kp H0 H H' → DpAll K H' vs ds
  | [], _, _, h, _, _ => by cases h; exact .nil
  | d :: ds, _, q, h, H', e => by
    cases h with
    | cons h1 h2 =>
      simp only [noListAll, Bool.and_eq_true] at q
      exact .cons (DpN.flat d _ q.1 h1 H' e) (DpN.flats ds _ q.2 h2 H' e)
end

def spBegin (K : PySem.W.Frag) : Sp := fun vs H Q _ => ∃ (p : Addr) (is : List Int), vs = [.ref p] ∧ SqL K H p (is.map V.int) ∧ is.length ≤ 1000 ∧ ∀ H' a l c, Same H H' → LSt H' a l c 0 → Q (.ref a) H'

theorem _root_.L2.SqT.cast {K : PySem.W.Frag} {H : Hp} {a : Addr} {xs ys : List V} (h : SqT K H a xs) (e : xs = ys) : SqT K H a ys := by rw [← e]; exact h

theorem canLay_ints : ∀ is : List Int, PyData.canLayAll0 (is.map PyData.int) = true
  | [] => rfl
  | i :: is => by
    simp only [List.map_cons, PyData.canLayAll0, PyData.canLay0, Bool.true_and]
    exact canLay_ints is
theorem shaped_ints (is : List Int) : SeqAt.shaped (.list (is.map PyData.int)) = true := by
  unfold SeqAt.shaped
  simp only [PyData.canLay0, canLay_ints, PyData.depth, depth_ints, Bool.true_and]
  rfl
theorem ints_any {ys : List V} (h : ∀ (i : Nat) (y : V), ys[i]? = some y → ∃ z : Int, y = .int z) : ∃ zs : List Int, ys = zs.map V.int ∧ zs.length = ys.length := by
  induction ys with
  | nil => exact ⟨[], rfl, rfl⟩
  | cons y ys ih =>
    obtain ⟨zs, h1, h2⟩ := ih fun i z hz => h (i + 1) z (by simpa using hz)
    obtain ⟨b, h4⟩ := h 0 y rfl
    exact ⟨b :: zs, by rw [h4, h1]; rfl, by simp [h2]⟩

/-! ### the end -/
theorem lawCallG {P : Program} {w : World} {K : PySem.W.Frag} {mg mb : Str → Option Value} {k : Nat} {fa a : Addr} {fd : FuncData} {x : Str} {sp : Sp} {s₁ : Shared} {vs : List Value} {ns : List Int}
    (KX : K.In s₁.heap) (hns : s₁.heap.Ns mainGlobals mg) (hb : s₁.heap.Ns builtinsNs mb) (hbb : ∀ y : Str, y ≠ "__name__" → mb y = bootBuiltins y) (hlim : s₁.heap.NoLimit) (hg : s₁.gens = #[])
    (ha : s₁.heap.get? a = some { cls := .type "list", data := .seq vs.toArray }) (hi : IntsAre vs ns) (hl : ns.length ≤ sizeLine) (hr : Room k callerA)
    (F : ∀ base : Heap, K.In base → base.Ns mainGlobals mg → FnOkG P w K mg base CX0 k fa fd [x] sp) (hbind : ∀ (s : Shared) (u : Value), BindsTo s fd ⟨[u], []⟩ [(x, u)])
    (hsp : ∀ H : Hp, Only H → SqL K H a (ns.map V.int) → sp [.ref a] H (fun v _ => v = .bl true) fun _ _ _ => False) :
    codeAny (model P w) callerA (.call (.ref fa) ⟨[.ref a], []⟩) (fun r s' => r = .ok (.ret (.bool true)) ∧ PySem.OldK s₁.heap s'.heap ∧ s'.os = s₁.os ∧ AllBare s'.gens) s₁ := by
  have rv := vals_ints hi
  have lv := hi.length
  have main : ∀ T : Hp, Only T → SqL K T a (ns.map V.int) → HOk P w T s₁.heap → (∀ b, T b ≠ none → b = a) → (T a ≠ none → K.lookup a = none) →
      codeAny (model P w) callerA (.call (.ref fa) ⟨[.ref a], []⟩) (fun r s' => r = .ok (.ret (.bool true)) ∧ PySem.OldK s₁.heap s'.heap ∧ s'.os = s₁.os ∧ AllBare s'.gens) s₁ := fun T tO tS tk tA tK => by
    have at_a : ∀ {b : Addr} {u : HO}, T b = some u → b = a := fun {b u} z => tA b (by rw [z]; exact fun y => nomatch y)
    have dict0 : ∀ {b : Addr} {o : Obj} {es : Array DictEntry} {ep : Nat}, s₁.heap.get? b = some o → o.data = .dict es ep → T b = none := fun {b o es ep} z d => by
      cases t : T b with
      | none => rfl
      | some u =>
        obtain rfl := at_a t
        have z2 := ha.symm.trans z
        cases z2
        exact nomatch d
    have dicts : ∀ {b : Addr} {m : Str → Option Value}, s₁.heap.Ns b m → (hidT s₁.heap T).Ns b m := fun {b m} z =>
      let ⟨o, es, ep, g1, g2, g3⟩ := z
      ⟨o, es, ep, hidT_get g1 (dict0 g1 g2), g2, g3⟩
    have kin : K.In (hidT s₁.heap T) := fun b o z => hidT_get (KX b o z) (by
      cases t : T b with
      | none => rfl
      | some u =>
        obtain rfl := at_a t
        have no := tK (fun y => by rw [t] at y; exact nomatch y)
        rw [no] at z
        exact nomatch z)
    obtain ⟨mc, lim1, lim2⟩ := hlim
    have mods : Mod K mg (hidT s₁.heap T) := ⟨kin, dicts hns, ⟨mb, dicts hb, hbb⟩, ⟨mc, dicts lim1, lim2⟩⟩
    have nil : ∀ {b : Addr}, b ∈ frs ([] : List Env) → False := fun {b} z => by cases z
    have env : Env0 P w K mg (hidT s₁.heap T) callerA [] s₁ T := ⟨rfl, mods, fun b o z => of_hidT z, Nat.le_of_eq (hidT_size ..), trivial, fun b z => (nil z).elim, tk, .of_eq hg⟩
    refine codeAny_mono ((F _ kin (dicts hns)).run _ [] s₁ T ⟨[.ref a], []⟩ [.ref a] [.ref a] _ _ rfl hr env (hbind _ _) (.cons rfl .nil) (hsp T tO tS)) fun r s' z => ?_
    cases r with
    | error e => exact False.elim z
    | ok fl =>
      cases fl with
      | ret u =>
        obtain ⟨v, H2, z1, z2, un, z4, z5, z6⟩ := z
        obtain rfl : v = .bl true := z6
        refine ⟨by rw [show u = Value.bool true from z5], PySem.OldK.of_keep fun b o g => ?_, z1, z2⟩
        rcases tO b with t | ⟨ob, xs, t⟩
        · exact un.keep b o g t (fun y => nil y) (fun y => nomatch y)
        · have g1 := (tk b _ t).1
          have g2 := (z4 b _ (un.frzs b ob _ t)).1
          rw [g1] at g
          cases g
          exact g2
      | next => exact False.elim z
      | brk => exact False.elim z
      | cont => exact False.elim z
  cases own : K.lookup a with
  | some o =>
    obtain rfl : o = { cls := .type "list", data := .seq vs.toArray } := Option.some.inj ((KX a o own).symm.trans ha)
    exact main (fun _ => none) (fun _ => .inl rfl) (.inr ⟨_, _, _, own, rfl, rfl, rfl, by simp only [List.size_toArray]; omega, by simpa using rv⟩) (fun b u z => nomatch z) (fun b z => (z rfl).elim) fun z => (z rfl).elim
  | none =>
    have hit : ∀ {b : Addr} {u : HO}, (if b = a then some (HO.frz { cls := .type "list", data := .seq vs.toArray } (.lst (ns.map V.int))) else none) = some u → b = a ∧ u = .frz { cls := .type "list", data := .seq vs.toArray } (.lst (ns.map V.int)) := fun {b u} z => by
      by_cases c : b = a
      · rw [if_pos c] at z
        exact ⟨c, (Option.some.inj z).symm⟩
      · rw [if_neg c] at z
        exact nomatch z
    refine main (fun b => if b = a then some (.frz { cls := .type "list", data := .seq vs.toArray } (.lst (ns.map V.int))) else none) (fun b => ?_) (.inl (.inr ⟨_, if_pos rfl⟩)) (fun b u z => ?_) (fun b z => ?_) fun _ => own
    · by_cases c : b = a
      · exact .inr ⟨_, _, if_pos c⟩
      · exact .inl (if_neg c)
    · obtain ⟨rfl, rfl⟩ := hit z
      exact ⟨ha, by simpa using hl, vs, _, rv, ha⟩
    · by_cases c : b = a
      · exact c
      · exact (z (if_neg c)).elim
/-- the goal that the head leaves, from the promise of the law's def; the loose values are told by XP -/
theorem walkG {l : PySem.W.OpenLaw} {n k : Nat} {q : Program} {loose : List Str} {XP : (Str → Option Value) → Heap → Prop} {YP : World → Heap → Prop} {d : DefRec} {K : Params → PySem.W.Frag} {sp : PySem.W.Frag → Sp} {x : Str}
    (hn : l.most = some n) (hn2 : n ≤ sizeLine) (hdf : d.params.defaults = []) (hr : Room k callerA) (hY : ∀ (w : World) (h : Heap), YP w h → (K w.params).In h)
    (F : ∀ (w : World) (mg : Str → Option Value) (fa : Addr) (h : Heap), (K w.params).In h → h.Ns mainGlobals mg → XP mg h → mg d.name = some (.ref fa) →
      ∃ fd : FuncData, (∀ (s : Shared) (u : Value), BindsTo s fd ⟨[u], []⟩ [(x, u)]) ∧ ∀ base : Heap, FnOkG l.prog w (K w.params) mg base CX0 k fa fd [x] (sp (K w.params)))
    (hsp : ∀ (K : PySem.W.Frag) (H : Hp) (a : Addr) (ns : List Int), ns.length ≤ n → Only H → SqL K H a (ns.map V.int) → sp K [.ref a] H (fun v _ => v = .bl true) fun _ _ _ => False) :
    PySem.W.WalkO q loose XP YP l.row.toRowW d [] (fun f vs => PySem.call f vs) := by
  refine Att.attach_call hn hdf fun w s₀ s₁ mg mb fa o pm cd doc a vs ns G Y ho hd hcd hmg hobj hints hlen hg => ?_
  have KX := hY w _ Y
  obtain ⟨fd, hb, hF⟩ := F w mg fa _ KX G.T.g G.X hmg
  exact lawCallG KX G.T.g G.T.b G.T.builtins G.T.nolimit hg hobj hints (Nat.le_trans hlen hn2) hr (fun base _ _ => hF base) hb fun H hO hS => hsp _ H a ns hlen hO hS

end Ws
/-! ## G1 -/
namespace Ws
open PySem PySem.Spec PyProof.Rows L2
/-- what the list ys holds: for the kept places of 0 .. n - 1, in their order, an item each -/
structure Got (R : Nat → V → Hp → Prop) (keep : Nat → Bool) (n : Nat) (H : Hp) (ys : List V) : Prop where
  len : ys.length = ((List.range n).filter keep).length
  at_ : ∀ (j i : Nat) (y : V), ys[j]? = some y → ((List.range n).filter keep)[j]? = some i → R i y H
theorem Got.skip {R : Nat → V → Hp → Prop} {keep : Nat → Bool} {n : Nat} {H : Hp} {ys : List V} (h : Got R keep n H ys) (k : keep n = false) : Got R keep (n + 1) H ys := by
  have e : (List.range (n + 1)).filter keep = (List.range n).filter keep := by
    rw [List.range_succ, List.filter_append]
    simp [k]
  exact ⟨by rw [e]; exact h.len, fun j i y h1 h2 => h.at_ j i y h1 (by rw [← e]; exact h2)⟩
theorem Got.add {R : Nat → V → Hp → Prop} {keep : Nat → Bool} {n : Nat} {H : Hp} {ys : List V} {y : V} (h : Got R keep n H ys) (k : keep n = true) (r : R n y H) : Got R keep (n + 1) H (ys ++ [y]) := by
  have e : (List.range (n + 1)).filter keep = (List.range n).filter keep ++ [n] := by
    rw [List.range_succ, List.filter_append]
    simp [k]
  refine ⟨by rw [e, List.length_append, List.length_append, h.len]; rfl, fun j i z h1 h2 => ?_⟩
  rw [e] at h2
  by_cases hj : j < ys.length
  · rw [List.getElem?_append_left hj] at h1
    rw [List.getElem?_append_left (by rw [← h.len]; exact hj)] at h2
    exact h.at_ j i z h1 h2
  · rw [List.getElem?_append_right (by omega)] at h1
    rw [List.getElem?_append_right (by rw [← h.len]; omega), ← h.len] at h2
    have e0 : j - ys.length = 0 := by
      have := (List.getElem?_eq_some_iff.mp h1).1
      simpa using this
    rw [e0] at h1 h2
    have e1 : y = z := by simpa using h1
    have e2 : n = i := by simpa using h2
    rw [← e1, ← e2]
    exact r
theorem Got.map {R R' : Nat → V → Hp → Prop} {keep : Nat → Bool} {n : Nat} {H H' : Hp} {ys : List V} (h : Got R keep n H ys) (f : ∀ i y, R i y H → R' i y H') : Got R' keep n H' ys := ⟨h.len, fun j i y h1 h2 => f i y (h.at_ j i y h1 h2)⟩
/-- a comprehension with a test, whose items may be new objects -/
theorem lcF {J : It} {n : Nat} {G : Hp → Prop} {Y : Nat → Hp → V → Hp → Prop} (w : Walk J n G Y) {g : TG} {tt : TT} {te : TE} {vs : List Nat} {σ : L2.St} {H1 : Hp} {D : Addr} {Qd : Hp → Prop} (hD : H1 D = none) (hn : n < sizeLine) (keep : Nat → Bool) (R : Nat → V → Hp → Prop)
    (hR : ∀ i y H H', Sbt D D H H' → NoT H D → R i y H → R i y H') (hG : ∀ H, Same H1 H → G H)
    (hs : ∀ i x H H' (Q1 : VK) (Q0 : Hp → Prop), i < n → Same H1 H → Y i H x H' → (keep i = true → ∀ y H4, R i y H4 → Same H H4 → Q1 y H4) → (keep i = false → ∀ H4, Same H H4 → Q0 H4) →
      g x (wipe σ vs) H' fun σ2 H2 => wipe σ2 vs = wipe σ vs ∧ tt σ2 H2 fun b H3 => if b = true then te σ2 H3 Q1 else Q0 H3)
    (hd : ∀ H ys, Same H1 H → H D = some (.lst ys) → Got R keep n H ys → Qd H) :
    ∃ W : Nat → Nat → Hp → Prop, (∃ m, W 0 m (upd H1 D (.lst []))) ∧ ∀ i m H, W i m H →
      (J.stop i H ∧ Qd H) ∨ (J.go i H ∧ ∃ Nx : Hp → Prop, (∀ H', Nx H' → ∃ m', m' < m ∧ W (i + 1) m' H') ∧ ∀ x H', J.yld i H x H' → g x (wipe σ vs) H' fun σ2 H2 => wipe σ2 vs = wipe σ vs ∧ tt σ2 H2 fun b H3 =>
        if b = true then te σ2 H3 fun y H4 => ∃ acc, H4 D = some (.lst acc) ∧ acc.length < sizeLine ∧ Nx (upd H4 D (.lst (acc ++ [y]))) else Nx H3) := by
  have short : ∀ i, ((List.range i).filter keep).length ≤ i := fun i => by
    have := List.length_filter_le keep (List.range i)
    simpa using this
  refine lc_it w (fun i H => Same H1 H ∧ ∃ ys, H D = some (.lst ys) ∧ Got R keep i H ys) ⟨Same.new hD, [], upd_same, rfl, fun j i y h _ => by simp at h⟩ (fun i H _ p => hG H p.1) (fun i x H H' hi p y => ?_) (fun H p => ?_)
  · obtain ⟨s, ys, hy, hg⟩ := p
    refine hs i x H H' _ _ hi s y (fun k z H4 r s4 => ?_) (fun k H4 s4 => ?_)
    · have hy4 := s4 _ _ hy
      have no : NoT H4 D := .lst hy4
      have sb : Sbt D D H4 (upd H4 D (.lst (ys ++ [z]))) := (Sbt.refl H4).a
      have sb0 : Sbt D D H (upd H4 D (.lst (ys ++ [z]))) := (Sbt.of s4).trans sb
      exact ⟨ys, hy4, by have := short i; rw [hg.len]; omega, (Same.trans s s4).mut hD, _, upd_same, (hg.map fun i y q => hR i y _ _ sb0 (.lst hy) q).add k (hR i z _ _ sb no r)⟩
    · exact ⟨Same.trans s s4, ys, s4 _ _ hy, (hg.map fun i y q => hR i y _ _ (Sbt.of s4) (.lst hy) q).skip k⟩
  · obtain ⟨s, ys, hy, hg⟩ := p
    exact hd H ys s hy hg
theorem dpAll_of {K : PySem.W.Frag} {H : Hp} : ∀ {ys : List V} {ds : List PyData}, ys.length = ds.length → (∀ (j : Nat) (y : V) (d : PyData), ys[j]? = some y → ds[j]? = some d → Dp K H y d) → DpAll K H ys ds
  | [], [], _, _ => .nil
  | [], _ :: _, h, _ => by simp at h
  | _ :: _, [], h, _ => by simp at h
  | y :: ys, d :: ds, h, k => .cons (k 0 y d rfl rfl) (dpAll_of (by simpa using h) fun j z e h1 h2 => k (j + 1) z e (by simpa using h1) (by simpa using h2))
theorem Got.dp {K : PySem.W.Frag} {R : Nat → V → Hp → Prop} {keep : Nat → Bool} {n : Nat} {H : Hp} {ys : List V} (h : Got R keep n H ys) (f : Nat → PyData) (k : ∀ i y, R i y H → Dp K H y (f i)) : DpAll K H ys (((List.range n).filter keep).map f) := by
  refine dpAll_of (by rw [h.len, List.length_map]) fun j y d h1 h2 => ?_
  rw [List.getElem?_map] at h2
  cases e : ((List.range n).filter keep)[j]? with
  | none => rw [e] at h2; cases h2
  | some i =>
    rw [e] at h2
    cases h2
    exact k i y (h.at_ j i y h1 e)
theorem Got.vals {R : Nat → V → Hp → Prop} {keep : Nat → Bool} {n : Nat} {H : Hp} {ys : List V} (h : Got R keep n H ys) (f : Nat → V) (k : ∀ i y, R i y H → y = f i) : ys = ((List.range n).filter keep).map f := by
  refine List.ext_getElem? fun j => ?_
  rw [List.getElem?_map]
  cases e : ((List.range n).filter keep)[j]? with
  | none =>
    rw [List.getElem?_eq_none_iff] at e
    rw [List.getElem?_eq_none (by rw [h.len]; exact e)]
    rfl
  | some i =>
    have hj : j < ys.length := by
      rw [h.len]
      exact (List.getElem?_eq_some_iff.mp e).1
    rw [List.getElem?_eq_getElem hj]
    have := k i ys[j] (h.at_ j i _ (List.getElem?_eq_getElem hj) e)
    rw [this]
    rfl
/-- a list by its places -/
theorem filter_get {α : Type} (l : List α) (d : α) (q : α → Bool) : ((List.range l.length).filter fun i => q (l.getD i d)).map (fun i => l.getD i d) = l.filter q := by
  have h : ∀ (l : List α), (List.range l.length).map (fun i => l.getD i d) = l := fun l => by
    refine List.ext_getElem (by simp) fun i h1 h2 => ?_
    simp [h2]
  have e := congrArg (List.filter q) (h l)
  rw [List.filter_map] at e
  exact e
theorem by_places {α β : Type} (l : List α) (d : α) (f : α → β) : (List.range l.length).map (fun i => f (l.getD i d)) = l.map f := by
  refine List.ext_getElem (by simp) fun i h1 h2 => ?_
  have : i < l.length := by simpa using h1
  simp [this]
theorem all_kept (n : Nat) : (List.range n).filter (fun _ => true) = List.range n := List.filter_eq_self.mpr fun _ _ => rfl
theorem atI_getD {ns : List Int} {j : Nat} (h : j < ns.length) : atI (ns.map V.int) (j : Int) = some (.int (ns.getD j 0)) := atI_nat (by simp [h])
end Ws
/-! ## G2 -/
namespace Ws
open PySem PySem.Spec PyProof.Rows L2 LamX
local macro_rules | `(tactic| walk_at "nf") => `(tactic| dsimp only [tNext, tSeq, tDrop, tRet, tRetN, tIfS, tAsg, gName, gTup, gCons, gNil, tVar, tC, tOp, tUn, rI, rI0, rU, rEq, rNe, tTest, tChain, tAnd, tOr, tNot, tAndV, tOrV, tNotV, tIf, tCB, tCKw, tCons, tNil, tTup, tLst, tCa, tCallS, tB, rIxT, rIxL, rIxS, cxOf, Cx.nox, Cx.wish, Cx.blk, L2.start, tPar, tPar3, tNever, tYes, tBits, tRz, tBM, rAppend, tyV, tXf, suiteEnds, gSub, rSetL, tBreak, rMax, tDGet, sDPut, tSl, tNoPart, tPart, tDisp, tPairs, tDGet2, tDNewK])
local macro_rules | `(tactic| walk_at "sx") => `(tactic| simp only [wipe, List.cons.injEq, and_assoc, exists_and_left, and_true, List.map_cons, List.map_nil, List.length_cons, List.length_nil, List.cons_append, List.nil_append, List.append_nil, Nat.reduceAdd, Nat.reduceSub, List.replicate, List.getElem?_cons_zero, List.getElem?_cons_succ, List.set_cons_zero, List.set_cons_succ, Option.some.injEq, V.int.injEq, V.bl.injEq, V.ref.injEq, V.str.injEq, exists_eq_left', exists_eq_left, true_and, Bool.true_eq_false, Bool.false_eq_true, if_true, if_false])

/-! ### a def that makes lambdas; what stays while tables grow -/
structure DtC (K : PySem.W.Frag) (mg : Str → Option Value) (x : Str) (st : Stmt) (ps : List Str) (c : Addr) : Prop where
  ex : ∃ (f : Addr) (oc : Value) (od : Option Addr) (kV doc pm : Value) (an : Option Addr) (ct : Value) (osl : Array (Option Value)), K.lookup f = some ⟨oc, od, .func (PySem.W.fnOf x x (defArgs st) (defBody st) (defScope st) .none kV doc pm an (.ref c) ct), osl⟩ ∧
    PySem.W.codeIn K (.ref c) x = true ∧ PySem.W.keepIn K (.ref f) = true ∧ mg x = some (.ref f) ∧ Binds K (PySem.W.fnOf x x (defArgs st) (defBody st) (defScope st) .none kV doc pm an (.ref c) ct) ps []
theorem DtC.okG {P : Program} {w : World} {K : PySem.W.Frag} {mg : Str → Option Value} {base : Heap} {x : Str} {st : Stmt} {N ps : List Str} {c : Addr} {k : Nat} {sp : Sp} (D : DtC K mg x st ps c) (S : FnScope N ps (defScope st)) (len : ∀ vs H Q E, sp vs H Q E → vs.length = ps.length)
    (hbody : ∀ (f : Addr) (A : Around) (outer : List Env) (s : Shared) (H : Hp) (vs : List V) (Q : VK) (E : XK), A.guards = some [] → Room k (A.deeper (envOfC x (defScope st) s.heap.objs.size f (.ref c))) → sp vs H Q E →
      ∃ t, PSs (cxOf CX0 P w K mg base N x (defScope st) f (.ref c) A outer s H E).nox (defBody st) t ∧ t { nx := fun _ H' => Q .non H', rt := Q } (start N vs) H) : DfG P w K mg base CX0 (k + 1) x ps sp := by
  obtain ⟨f, oc, od, kV, doc, pm, an, ct, osl, lk, hcd, kp, m, b⟩ := D.ex
  refine ⟨f, _, fn_ofG lk hcd S len fun A outer s H vs Q E hg hr hsp => ?_, m, kp, b⟩
  obtain ⟨t, h, q⟩ := hbody f A outer s H vs Q E hg hr hsp
  exact ⟨t, h.nox, q⟩
theorem Same.extN {H H' : Hp} (e : Same H H') : ExtN H H' := ExtN.of e
section
variable {K : PySem.W.Frag} {H H' : Hp}
theorem seqTE {b : Addr} {xs : List V} (e : ExtN H H') (h : SqT K H b xs) : SqT K H' b xs := by
  rcases h with (h | ⟨o, h⟩) | h
  · exact .inl (.inl (e _ _ h (fun ps z => by cases z)))
  · exact .inl (.inr ⟨o, e _ _ h (fun ps z => by cases z)⟩)
  · exact .inr h
theorem seqLE {b : Addr} {xs : List V} (e : ExtN H H') (h : SqL K H b xs) : SqL K H' b xs := by
  rcases h with (h | ⟨o, h⟩) | h
  · exact .inl (.inl (e _ _ h (fun ps z => by cases z)))
  · exact .inl (.inr ⟨o, e _ _ h (fun ps z => by cases z)⟩)
  · exact .inr h
mutual
theorem Dp.ext (e : ExtN H H') : ∀ (d : PyData) (v : V), Dp K H v d → Dp K H' v d
  | .none, _, h => by cases h; exact .non
  | .bool b, _, h => by cases h; exact .bl b
  | .int i, _, h => by cases h; exact .int i
  | .str x, _, h => by cases h; exact .str x
  | .list ds, _, h => by
    cases h with
    | lst hs ha => exact .lst (seqLE e hs) (Dp.exts e ds _ ha)
  | .tuple ds, _, h => by
    cases h with
    | tup hs ha => exact .tup (seqTE e hs) (Dp.exts e ds _ ha)
  | .dict _, _, h => by cases h
theorem Dp.exts (e : ExtN H H') : ∀ (ds : List PyData) (vs : List V), DpAll K H vs ds → DpAll K H' vs ds
  | [], _, h => by cases h; exact .nil
  | d :: ds, _, h => by
    cases h with
    | cons h1 h2 => exact .cons (Dp.ext e d _ h1) (Dp.exts e ds _ h2)
end
theorem LSt.ext {a l c : Addr} {n : Nat} (h : LSt H a l c n) (e : ExtN H H') : LSt H' a l c n := by
  obtain ⟨cs, ls, m, h⟩ := h
  exact ⟨cs, ls, m, e _ _ h.top (fun ps z => by cases z), e _ _ h.cells (fun ps z => by cases z), e _ _ h.lefts (fun ps z => by cases z), h.len, h.pos, h.few, h.apart⟩
end
theorem Tabs.same {T : List (Addr × Str)} {H H' : Hp} (t : Tabs T H) (e : Same H H') : Tabs T H' := t.ext e

/-! ### written data: what an expression makes of it, lists that grow put aside -/
def hid (S : List Addr) (H : Hp) : Hp := fun a => if a ∈ S then none else H a
def Ev (T : List (Addr × Str)) (H H' : Hp) : Prop := ExtN H H' ∧ (Tabs T H → Tabs T H')
def Lsts (S : List Addr) (H : Hp) : Prop := ∀ a ∈ S, ∃ o, H a = some o ∧ ((∃ xs, o = .lst xs) ∨ ∃ kvs, o = .dK kvs)
theorem Ev.refl {T : List (Addr × Str)} (H : Hp) : Ev T H H := ⟨ExtN.refl H, fun t => t⟩
theorem Ev.trans {T : List (Addr × Str)} {H H1 H2 : Hp} (a : Ev T H H1) (b : Ev T H1 H2) : Ev T H H2 := ⟨a.1.trans b.1, fun t => b.2 (a.2 t)⟩
theorem Ev.of {T : List (Addr × Str)} {H H1 : Hp} (e : Same H H1) : Ev T H H1 := ⟨Same.extN e, fun t => Tabs.same t e⟩
theorem Ev.new {T : List (Addr × Str)} {H : Hp} {p : Addr} {o : HO} (h : H p = none) : Ev T H (upd H p o) := Ev.of (Same.new h)
theorem Ev.lsts {T : List (Addr × Str)} {S : List Addr} {H H1 : Hp} (e : Ev T H H1) (h : Lsts S H) : Lsts S H1 := fun a m => by
  obtain ⟨o, q, z⟩ := h a m
  refine ⟨o, e.1 _ _ q (fun ps y => ?_), z⟩
  subst y
  rcases z with ⟨_, z⟩ | ⟨_, z⟩ <;> cases z
theorem hid_ext {S : List Addr} {H H1 : Hp} (e : ExtN H H1) : ExtN (hid S H) (hid S H1) := fun b o h n => by
  unfold hid at h ⊢
  split at h
  · cases h
  · rename_i m
    rw [if_neg m]
    exact e b o h n
theorem hid_out {S : List Addr} {H : Hp} : ExtN (hid S H) H := fun b o h n => by
  unfold hid at h
  split at h
  · cases h
  · exact h
theorem hid_nil (H : Hp) : hid [] H = H := funext fun a => by simp [hid]
theorem hid_upd {S : List Addr} {H : Hp} {p : Addr} {o : HO} (m : p ∈ S) : hid S (upd H p o) = hid S H := funext fun a => by
  unfold hid
  split
  · rfl
  · rename_i n
    exact upd_ne (fun z => n (z ▸ m))
theorem hid_more {S : List Addr} {H : Hp} {q : Addr} {o : HO} (h : H q = none) : ExtN (hid S H) (hid (q :: S) (upd H q o)) := fun b u hb n => by
  unfold hid at hb ⊢
  split at hb
  · cases hb
  · rename_i m
    have nb : b ≠ q := fun z => by rw [z, h] at hb; cases hb
    rw [if_neg (by simp only [List.mem_cons, not_or]; exact ⟨nb, m⟩), upd_ne nb]
    exact hb
theorem hid_sub {S R : List Addr} {H : Hp} (h : ∀ a ∈ R, a ∈ S) : ExtN (hid S H) (hid R H) := fun b u hb n => by
  unfold hid at hb ⊢
  split at hb
  · cases hb
  · rename_i m
    rw [if_neg fun z => m (h b z)]
    exact hb
section
variable {K : PySem.W.Frag} {S : List Addr}
theorem seqT_hid {H : Hp} {b : Addr} {xs : List V} (l : Lsts S H) (h : SqT K H b xs) : SqT K (hid S H) b xs := by
  have off : ∀ o, H b = some o → (∀ ys, o ≠ .lst ys) → (∀ ys, o ≠ .dK ys) → hid S H b = some o := fun o e n n2 => by
    unfold hid
    rw [if_neg fun m => by
      obtain ⟨u, q, z⟩ := l b m
      rw [e] at q
      obtain rfl := Option.some.inj q
      rcases z with ⟨_, z⟩ | ⟨_, z⟩
      · exact n _ z
      · exact n2 _ z]
    exact e
  rcases h with (h | ⟨o, h⟩) | h
  · exact .inl (.inl (off _ h (fun ys z => by cases z) (fun ys z => by cases z)))
  · exact .inl (.inr ⟨o, off _ h (fun ys z => by cases z) (fun ys z => by cases z)⟩)
  · exact .inr h
mutual
theorem Dp.hid {H : Hp} (l : Lsts S H) : ∀ (d : PyData) (v : V), noList d = true → Dp K H v d → Dp K (Ws.hid S H) v d
  | .none, _, _, h => by cases h; exact .non
  | .bool b, _, _, h => by cases h; exact .bl b
  | .int i, _, _, h => by cases h; exact .int i
  | .str x, _, _, h => by cases h; exact .str x
  | .list ds, _, n, h => by cases n
  | .tuple ds, _, n, h => by
    cases h with
    | tup hs ha => exact .tup (seqT_hid l hs) (Dp.hids l ds _ n ha)
  | .dict _, _, _, h => by cases h
theorem Dp.hids {H : Hp} (l : Lsts S H) : ∀ (ds : List PyData) (vs : List V), noListAll ds = true → DpAll K H vs ds → DpAll K (Ws.hid S H) vs ds
  | [], _, _, h => by cases h; exact .nil
  | d :: ds, _, n, h => by
    cases h with
    | cons h1 h2 => exact .cons (Dp.hid l d _ (Bool.and_eq_true_iff.mp n).1 h1) (Dp.hids l ds _ (Bool.and_eq_true_iff.mp n).2 h2)
end
theorem _root_.L2.Dp.out {H : Hp} {v : V} {d : PyData} (h : Dp K (Ws.hid S H) v d) : Dp K H v d := Dp.ext hid_out d v h
theorem _root_.L2.Dp.ev {T : List (Addr × Str)} {H H1 : Hp} {v : V} {d : PyData} (h : Dp K (Ws.hid S H) v d) (e : Ev T H H1) : Dp K (Ws.hid S H1) v d := Dp.ext (hid_ext e.1) d v h
theorem Dp.evs {T : List (Addr × Str)} {H H1 : Hp} {v : List V} {d : List PyData} (h : DpAll K (Ws.hid S H) v d) (e : Ev T H H1) : DpAll K (Ws.hid S H1) v d := Dp.exts (hid_ext e.1) d v h
theorem nws {H : Hp} {v : List V} {d : List PyData} {p : Addr} {o : HO} (h : DpAll K (Ws.hid S H) v d) (hp : H p = none) : DpAll K (Ws.hid S (upd H p o)) v d := Dp.evs h (Ev.new (T := []) hp)
end
section
variable {K : PySem.W.Frag}
theorem _root_.L2.DpAll.two {H : Hp} {vs : List V} {d e : PyData} (h : DpAll K H vs [d, e]) : ∃ v u, vs = [v, u] ∧ Dp K H v d ∧ Dp K H u e := by
  cases h with
  | cons h1 h2 =>
    cases h2 with
    | cons h3 h4 =>
      cases h4
      exact ⟨_, _, rfl, h1, h3⟩
theorem _root_.L2.DpAll.three {H : Hp} {vs : List V} {d e f : PyData} (h : DpAll K H vs [d, e, f]) : ∃ v u z, vs = [v, u, z] ∧ Dp K H v d ∧ Dp K H u e ∧ Dp K H z f := by
  cases h with
  | cons h1 h2 =>
    obtain ⟨v, u, rfl, h3, h4⟩ := h2.two
    exact ⟨_, _, _, rfl, h1, h3, h4⟩
theorem _root_.L2.DpAll.one' {H : Hp} {vs : List V} {d : PyData} (h : DpAll K H vs [d]) : ∃ v, vs = [v] ∧ Dp K H v d := by
  cases h with
  | cons h1 h2 =>
    cases h2
    exact ⟨_, rfl, h1⟩
end
section
variable (K : PySem.W.Frag) (S : List Addr) (T : List (Addr × Str))
/-- te makes the data d -/
def DE (te : TE) (σ : L2.St) (H : Hp) (d : PyData) : Prop := ∀ H1, Ev T H H1 → Lsts S H1 → Tabs T H1 → ∀ Q : VK, (∀ H' v, Ev T H1 H' → Dp K (hid S H') v d → Q v H') → te σ H1 Q
def DEs (ta : TA) (σ : L2.St) (H : Hp) (ds : List PyData) : Prop := ∀ H1, Ev T H H1 → Lsts S H1 → Tabs T H1 → ∀ Q : List V → Hp → Prop, (∀ H' vs, Ev T H1 H' → DpAll K (hid S H') vs ds → Q vs H') → ta σ H1 Q
/-- te makes a new list of the data ds -/
def LE (te : TE) (σ : L2.St) (H : Hp) (ds : List PyData) : Prop := ∀ H1, Ev T H H1 → Lsts S H1 → Tabs T H1 → ∀ Q : VK, (∀ H2 p ys, Ev T H1 H2 → H2 p = none → DpAll K (hid S H2) ys ds → Q (.ref p) (upd H2 p (.lst ys))) → te σ H1 Q
/-- te tells a list of the data ds -/
def RE (te : TE) (σ : L2.St) (H : Hp) (ds : List PyData) : Prop := ∀ H1, Ev T H H1 → Lsts S H1 → Tabs T H1 → ∀ Q : VK, (∀ H' a ys, Ev T H1 H' → H' a = some (.lst ys) → DpAll K (hid S H') ys ds → Q (.ref a) H') → te σ H1 Q
end
section
variable {K : PySem.W.Frag} {S : List Addr} {T : List (Addr × Str)} {te ta tb : TE} {tas : TA} {σ : L2.St} {H : Hp} {d : PyData} {ds es : List PyData}
theorem DE.to {H1 : Hp} (h : DE K S T te σ H d) (e : Ev T H H1) : DE K S T te σ H1 d := fun H2 e2 => h H2 (e.trans e2)
theorem DEs.to {H1 : Hp} (h : DEs K S T tas σ H ds) (e : Ev T H H1) : DEs K S T tas σ H1 ds := fun H2 e2 => h H2 (e.trans e2)
theorem DE.int {i : Int} : DE K S T (tC (.int i)) σ H (.int i) := fun H1 _ _ _ Q q => q H1 _ (Ev.refl _) (.int i)
theorem DE.str {x : Str} : DE K S T (tC (.str x)) σ H (.str x) := fun H1 _ _ _ Q q => q H1 _ (Ev.refl _) (.str x)
theorem DE.bl {b : Bool} : DE K S T (tC (.bl b)) σ H (.bool b) := fun H1 _ _ _ Q q => q H1 _ (Ev.refl _) (.bl b)
theorem DE.non : DE K S T (tC .non) σ H .none := fun H1 _ _ _ Q q => q H1 _ (Ev.refl _) .non
theorem DE.var {i : Nat} {v : V} (h : σ[i]? = some (some v)) (hd : Dp K (hid S H) v d) : DE K S T (tVar i) σ H d := fun H1 e _ _ Q q => ⟨v, h, q H1 v (Ev.refl _) (hd.ev e)⟩
theorem DE.eq {d' : PyData} (h : DE K S T te σ H d) (e : d = d') : DE K S T te σ H d' := e ▸ h
theorem DEs.nil : DEs K S T tNil σ H [] := fun H1 _ _ _ Q q => q H1 [] (Ev.refl _) .nil
theorem DEs.cons (a : DE K S T te σ H d) (b : DEs K S T tas σ H ds) : DEs K S T (tCons te tas) σ H (d :: ds) := fun H1 e l t Q q =>
  a H1 e l t _ fun H2 v e2 hv => b H2 (e.trans e2) (e2.lsts l) (e2.2 t) _ fun H3 vs e3 hs => q H3 (v :: vs) (e2.trans e3) (.cons (hv.ev e3) hs)
theorem DEs.one (a : DE K S T te σ H d) : DEs K S T (tCons te tNil) σ H [d] := DEs.cons a .nil
theorem DE.tup (a : DEs K S T tas σ H ds) (hl : ds.length ≤ 1000 := by exact Nat.le_of_ble_eq_true rfl) : DE K S T (tTup tas) σ H (.tuple ds) := fun H1 e l t Q q =>
  a H1 e l t _ fun H2 vs e2 hs => ⟨by rw [hs.length, sizeLine_eq]; omega, fun p hp => q _ _ (e2.trans (Ev.new hp)) (by
    have l3 := (e2.trans (Ev.new (o := .tup vs) hp)).lsts l
    exact .tup (seqT_hid l3 (.of upd_same)) (nws hs hp))⟩
theorem LE.lst (a : DEs K S T tas σ H ds) (hl : ds.length ≤ 1000 := by exact Nat.le_of_ble_eq_true rfl) : LE K S T (tLst tas) σ H ds := fun H1 e l t Q q =>
  a H1 e l t _ fun H2 vs e2 hs => ⟨by rw [hs.length, sizeLine_eq]; omega, fun p hp => q H2 p vs e2 hp hs⟩
theorem LE.to {H1 : Hp} (h : LE K S T te σ H ds) (e : Ev T H H1) : LE K S T te σ H1 ds := fun H2 e2 => h H2 (e.trans e2)
theorem LE.re (h : LE K S T te σ H ds) : RE K S T te σ H ds := fun H1 e l t Q q => h H1 e l t Q fun H2 p ys e2 hp hs => q _ p ys (e2.trans (Ev.new hp)) upd_same (nws hs hp)
theorem RE.var {i : Nat} {a : Addr} {ys : List V} (h : σ[i]? = some (some (.ref a))) (ha : H a = some (.lst ys)) (hd : DpAll K (hid S H) ys ds) : RE K S T (tVar i) σ H ds := fun H1 e _ _ Q q =>
  ⟨_, h, q H1 a ys (Ev.refl _) (e.1 _ _ ha (fun ps z => by cases z)) (Dp.evs hd e)⟩
theorem LE.cat (a : RE K S T ta σ H ds) (b : RE K S T tb σ H es) (hl : ds.length + es.length ≤ 1000 := by exact Nat.le_of_ble_eq_true rfl) : LE K S T (tOp rCat ta tb) σ H (ds ++ es) := fun H1 e l t Q q =>
  a H1 e l t _ fun H2 x xs e2 hx hxs => b H2 (e.trans e2) (e2.lsts l) (e2.2 t) _ fun H3 y zs e3 hy hys =>
    ⟨x, y, xs, zs, rfl, rfl, e3.1 _ _ hx (fun ps z => by cases z), hy, by rw [hxs.length, hys.length, sizeLine_eq]; omega, fun p hp => q H3 p _ (e2.trans e3) hp ((Dp.evs hxs e3).append hys)⟩
theorem LE.rep {k : Int} (a : RE K S T ta σ H ds) (b : DE K S T tb σ H (.int k)) (h1 : -(2 ^ 63) ≤ k := by decide) (h2 : k < 2 ^ 63 := by decide) (hl : ds.length * k.toNat ≤ 1000 := by decide) : LE K S T (tOp rRep ta tb) σ H (List.replicate k.toNat ds).flatten := fun H1 e l t Q q =>
  a H1 e l t _ fun H2 x xs e2 hx hxs => b H2 (e.trans e2) (e2.lsts l) (e2.2 t) _ fun H3 y e3 hy => by
    obtain rfl := hy.int_inv
    exact ⟨x, k, xs, rfl, rfl, e3.1 _ _ hx (fun ps z => by cases z), h1, h2, by rw [hxs.length, sizeLine_eq]; omega, fun p hp => q H3 p _ (e2.trans e3) hp (by
      have h3 := Dp.evs hxs e3
      induction k.toNat with
      | zero => exact .nil
      | succ n ih => rw [List.replicate_succ, List.replicate_succ, List.flatten_cons, List.flatten_cons]; exact h3.append ih)⟩
theorem DE.lst (a : LE K S T te σ H ds) : DE K S T te σ H (.list ds) := fun H1 e l t Q q => a H1 e l t Q fun H2 p ys e2 hp hs => q _ _ (e2.trans (Ev.new hp)) (by
  refine .lst (.of ?_) (nws hs hp)
  unfold Ws.hid
  rw [if_neg fun m => by
    obtain ⟨o, z, _⟩ := e2.lsts l _ m
    rw [hp] at z
    cases z]
  exact upd_same)
theorem DE.op0 {g : Int → Int → V} {i j k : Int} (a : DE K S T ta σ H (.int i)) (b : DE K S T tb σ H (.int j)) (hg : g i j = .int k) : DE K S T (tOp (rI0 g) ta tb) σ H (.int k) := fun H1 e l t Q q =>
  a H1 e l t _ fun H2 x e2 hx => b H2 (e.trans e2) (e2.lsts l) (e2.2 t) _ fun H3 y e3 hy => by
    obtain rfl := hx.int_inv
    obtain rfl := hy.int_inv
    exact ⟨i, j, rfl, rfl, by rw [hg]; exact q H3 _ (e2.trans e3) (.int k)⟩
theorem DE.opC {C : Int → Int → Prop} {g : Int → Int → V} {i j k : Int} (a : DE K S T ta σ H (.int i)) (b : DE K S T tb σ H (.int j)) (hc : C i j) (hg : g i j = .int k) : DE K S T (tOp (rI C g) ta tb) σ H (.int k) := fun H1 e l t Q q =>
  a H1 e l t _ fun H2 x e2 hx => b H2 (e.trans e2) (e2.lsts l) (e2.2 t) _ fun H3 y e3 hy => by
    obtain rfl := hx.int_inv
    obtain rfl := hy.int_inv
    exact ⟨i, j, rfl, rfl, hc, by rw [hg]; exact q H3 _ (e2.trans e3) (.int k)⟩
theorem DE.un {g : Int → V} {i k : Int} (a : DE K S T ta σ H (.int i)) (hg : g i = .int k) : DE K S T (tUn (rU g) ta) σ H (.int k) := fun H1 e l t Q q =>
  a H1 e l t _ fun H2 x e2 hx => by
    obtain rfl := hx.int_inv
    exact ⟨i, rfl, by rw [hg]; exact q H2 _ e2 (.int k)⟩
theorem DE.repT {k : Int} (a : DE K S T ta σ H (.tuple ds)) (b : DE K S T tb σ H (.int k)) (h0 : ds ≠ [] := by decide) (h1 : 2 ≤ k := by decide) (h2 : k ≤ 1000 := by decide) (hl : ds.length ≤ 1000 := by exact Nat.le_of_ble_eq_true rfl) : DE K S T (tOp (rRepT K) ta tb) σ H (.tuple (List.replicate k.toNat ds).flatten) := fun H1 e l t Q q =>
  a H1 e l t _ fun H2 x e2 hx => b H2 (e.trans e2) (e2.lsts l) (e2.2 t) _ fun H3 y e3 hy => by
    obtain rfl := hy.int_inv
    obtain ⟨p, xs, rfl, hs, hxs⟩ := hx.tup_inv
    have hxs2 := Dp.evs hxs e3
    have hn : xs ≠ [] := fun z => h0 (by subst z; cases hxs; rfl)
    refine ⟨p, k, xs, rfl, rfl, seqTE e3.1 (seqTE hid_out hs), hn, h1, h2, by rw [hxs.length]; exact hl, fun r hr => q _ _ ((e2.trans e3).trans (Ev.new hr)) ?_⟩
    refine .tup (seqT_hid (((e2.trans e3).trans (Ev.new hr)).lsts l) (.of upd_same)) (nws ?_ hr)
    induction k.toNat with
    | zero => exact .nil
    | succ n ih => rw [List.replicate_succ, List.replicate_succ, List.flatten_cons, List.flatten_cons]; exact hxs2.append ih
end
/-! ### lists that grow -/
def adr (L : List (Addr × List PyData)) (X : List Addr) : List Addr := L.map (·.1) ++ X
structure LsS (K : PySem.W.Frag) (T : List (Addr × Str)) (X : List Addr) (L : List (Addr × List PyData)) (H : Hp) : Prop where
  tabs : Tabs T H
  nd : (L.map (·.1)).Nodup
  off : Lsts X H
  apart : ∀ a ∈ L.map (·.1), a ∉ X
  at_ : ∀ x ∈ L, ∃ ys, H x.1 = some (.lst ys) ∧ DpAll K (hid (adr L X) H) ys x.2
theorem Tabs.put {T : List (Addr × Str)} {H : Hp} {p : Addr} {xs : List V} {o : HO} (t : Tabs T H) (h : H p = some (.lst xs)) : Tabs T (upd H p o) := fun x hx => by
  obtain ⟨ps, h1, h2, h3⟩ := t x hx
  refine ⟨ps, by rw [upd_ne (fun z => by rw [z, h] at h1; cases h1)]; exact h1, h2, fun pos cv hc => ?_⟩
  obtain ⟨c, e1, e2⟩ := h3 pos cv hc
  exact ⟨c, e1, by rw [upd_ne (fun z => by rw [z, h] at e2; cases e2)]; exact e2⟩
section
variable {K : PySem.W.Frag} {T : List (Addr × Str)} {X : List Addr} {L : List (Addr × List PyData)} {H : Hp}
theorem LsS.lsts (h : LsS K T X L H) : Lsts (adr L X) H := fun a m => by
  rcases List.mem_append.mp m with m | m
  · obtain ⟨x, hx, rfl⟩ := List.mem_map.mp m
    obtain ⟨ys, q, _⟩ := h.at_ x hx
    exact ⟨_, q, .inl ⟨ys, rfl⟩⟩
  · exact h.off a m
theorem LsS.nil (t : Tabs T H) (o : Lsts X H) : LsS K T X [] H := ⟨t, List.nodup_nil, o, (fun a h => by cases h), fun x hx => by cases hx⟩
theorem LsS.ev {H1 : Hp} (h : LsS K T X L H) (e : Ev T H H1) : LsS K T X L H1 := ⟨e.2 h.tabs, h.nd, e.lsts h.off, h.apart, fun x hx => by
  obtain ⟨ys, q, d⟩ := h.at_ x hx
  exact ⟨ys, e.1 _ _ q (fun ps z => by cases z), Dp.evs d e⟩⟩
theorem LsS.new {p : Addr} {ys : List V} {ds : List PyData} (h : LsS K T X L H) (hp : H p = none) (hd : DpAll K (hid (adr L X) H) ys ds) : LsS K T X ((p, ds) :: L) (upd H p (.lst ys)) := by
  have e := hid_more (S := adr L X) (o := .lst ys) hp
  have np : p ∉ adr L X := fun m => by
    obtain ⟨o, q, _⟩ := h.lsts p m
    rw [hp] at q
    cases q
  refine ⟨(Ev.new hp).2 h.tabs, ?_, Ev.lsts (T := T) (Ev.new hp) h.off, ?_, fun x hx => ?_⟩
  · rw [List.map_cons, List.nodup_cons]
    exact ⟨fun m => np (List.mem_append.mpr (.inl m)), h.nd⟩
  · intro a m
    rcases List.mem_cons.mp m with rfl | m
    · exact fun z => np (List.mem_append.mpr (.inr z))
    · exact h.apart a m
  · rcases List.mem_cons.mp hx with rfl | hx
    · exact ⟨ys, upd_same, Dp.exts e _ _ hd⟩
    · obtain ⟨zs, q, d⟩ := h.at_ x hx
      exact ⟨zs, by rw [upd_ne (fun z => by rw [z, hp] at q; cases q)]; exact q, Dp.exts e _ _ d⟩
/-- the list at the place k has one more item -/
theorem LsS.app {k : Nat} {p : Addr} {ds : List PyData} {u : V} {d : PyData} {ys : List V} (h : LsS K T X L H) (hk : L[k]? = some (p, ds)) (hp : H p = some (.lst ys)) (hu : Dp K (hid (adr L X) H) u d) : LsS K T X (L.set k (p, ds ++ [d])) (upd H p (.lst (ys ++ [u]))) := by
  have hlt := (List.getElem?_eq_some_iff.mp hk).1
  have hm : p ∈ L.map (·.1) := List.mem_map.mpr ⟨_, List.mem_of_getElem? hk, rfl⟩
  have hm2 : p ∈ adr L X := List.mem_append.mpr (.inl hm)
  have em : (L.set k (p, ds ++ [d])).map (·.1) = L.map (·.1) := by
    rw [List.map_set]
    refine List.ext_getElem? fun n => ?_
    rw [List.getElem?_set]
    split
    · rename_i z
      subst z
      rw [List.getElem?_map, hk]
      simp [hlt]
    · rfl
  have eh : hid (adr L X) (upd H p (.lst (ys ++ [u]))) = hid (adr L X) H := hid_upd hm2
  have em2 : adr (L.set k (p, ds ++ [d])) X = adr L X := by unfold adr; rw [em]
  refine ⟨Tabs.put h.tabs hp, by rw [em]; exact h.nd, fun a ha => ?_, by rw [em]; exact h.apart, fun x hx => ?_⟩
  · obtain ⟨o, q, z⟩ := h.off a ha
    exact ⟨o, by rw [upd_ne (fun w : a = p => h.apart p hm (by rw [← w]; exact ha))]; exact q, z⟩
  rw [em2, eh]
  obtain ⟨n, hn⟩ := List.mem_iff_getElem?.mp hx
  rw [List.getElem?_set] at hn
  split at hn
  · rename_i z
    subst z
    obtain rfl := Option.some.inj hn
    obtain ⟨zs, q, dd⟩ := h.at_ _ (List.mem_of_getElem? hk)
    rw [hp] at q
    obtain rfl : ys = zs := HO.lst.inj (Option.some.inj q)
    exact ⟨_, upd_same, dd.append (.cons hu .nil)⟩
  · rename_i z
    have hx2 := List.mem_of_getElem? hn
    obtain ⟨zs, q, dd⟩ := h.at_ x hx2
    have ne : x.1 ≠ p := fun w => by
      have n1 : (L.map (·.1))[k]? = some p := by rw [List.getElem?_map, hk]; rfl
      have n2 : (L.map (·.1))[n]? = some p := by rw [List.getElem?_map, hn, ← w]; rfl
      have l1 := (List.getElem?_eq_some_iff.mp n1).1
      exact z ((List.getElem?_inj l1 h.nd).mp (n1.trans n2.symm))
    exact ⟨zs, by rw [upd_ne ne]; exact q, dd⟩
theorem st_app {k i : Nat} {p : Addr} {ds : List PyData} {d : PyData} {te : TE} {D : Ends} {σ : L2.St} (h : LsS K T X L H) (hi : σ[i]? = some (some (.ref p))) (hk : L[k]? = some (p, ds)) (hl : ds.length ≤ 100000) (hd : DE K (adr L X) T te σ H d)
    (q : ∀ H', LsS K T X (L.set k (p, ds ++ [d])) H' → ExtN (hid (adr L X) H) (hid (adr L X) H') → D.nx σ H') : tDrop (tBM K "list" rAppend (tVar i) (tCons te tNil)) D σ H := by
  obtain ⟨ys, hp, hys⟩ := h.at_ _ (List.mem_of_getElem? hk)
  refine ⟨_, hi, .inl ⟨rfl, ys, .of hp⟩, hd H (Ev.refl H) h.lsts h.tabs _ fun H' u e hu => ?_⟩
  have hp2 := e.1 _ _ hp (fun ps z => by cases z)
  have hy := hys.length
  refine ⟨p, ys, u, rfl, rfl, hp2, by rw [hy, sizeLine_eq]; show ds.length < _; omega, q _ ((h.ev e).app hk hp2 hu) ?_⟩
  have hm3 : p ∈ adr L X := List.mem_append.mpr (.inl (List.mem_map.mpr ⟨(p, ds), List.mem_of_getElem? hk, rfl⟩))
  rw [hid_upd hm3]
  exact hid_ext e.1
theorem for_de {S : List Addr} {bads : List PyData} {te : TE} {tb : TS} {k : Nat} {D : Ends} {σ : L2.St} (hde : DE K S T te σ H (.tuple bads)) (l : Lsts S H) (t : Tabs T H) (Pv : Nat → L2.St → Hp → Prop)
    (h0 : ∀ H', Ev T H H' → Pv 0 σ H')
    (hs : ∀ H0 i x σ H, i < bads.length → Pv i σ H → ExtN (hid S H0) (hid S H) → Dp K (hid S H) x (bads.getD i .none) → tb { D with nx := fun σ' H' => Pv (i + 1) σ' H' ∧ ExtN (hid S H0) (hid S H'), ct := fun σ' H' => Pv (i + 1) σ' H' ∧ ExtN (hid S H0) (hid S H'), bk := D.nx } (σ.set k (some x)) H)
    (hd : ∀ σ H, Pv bads.length σ H → D.nx σ H) : tFor (iTup K te) (gName k) tb D σ H := by
  refine hde H (Ev.refl H) l t _ fun H0 v e hv => ?_
  obtain ⟨a, xs, rfl, ha, hxs⟩ := hv.tup_inv
  have hn := hxs.length
  refine ⟨a, rfl, ⟨xs, seqTE hid_out ha⟩, for_tup (xs := xs) (fun i σ H => Pv i σ H ∧ ExtN (hid S H0) (hid S H)) ⟨h0 H0 e, ExtN.refl _⟩ (fun i σ H _ p => seqTE hid_out (seqTE p.2 ha)) (fun i x σ H hx p => ?_) (fun σ H p => hd σ H (by rw [← hn]; exact p.1))⟩
  have hi : i < bads.length := by rw [← hn]; exact (List.getElem?_eq_some_iff.mp hx).1
  obtain ⟨y, hy, _, hdy⟩ := hxs.at_ hi
  rw [hx] at hy
  obtain rfl := Option.some.inj hy
  exact hs H0 i x σ H hi p.1 p.2 (Dp.ext p.2 _ _ hdy)
end
section
variable {K : PySem.W.Frag} {T : List (Addr × Str)} {X : List Addr} {L : List (Addr × List PyData)} {H : Hp} {te : TE} {D : Ends} {σ : L2.St} {ds : List PyData} {d : PyData}
theorem seqI {t u : TS} (h : t { D with nx := u D } σ H) : tSeq t u D σ H := h
theorem st_new {i : Nat} (h : LsS K T X L H) (hd : LE K (adr L X) T te σ H ds) (q : ∀ H' p, LsS K T X ((p, ds) :: L) H' → ExtN (hid (adr L X) H) (hid (p :: adr L X) H') → D.nx (σ.set i (some (.ref p))) H') : tAsg te (gName i) D σ H :=
  hd H (Ev.refl H) h.lsts h.tabs _ fun H2 p ys e hp hs => q _ p ((h.ev e).new hp hs) ((hid_ext e.1).trans (hid_more hp))
theorem st_val {i : Nat} (h : LsS K T X L H) (hd : DE K (adr L X) T te σ H d) (q : ∀ H' v, LsS K T X L H' → ExtN (hid (adr L X) H) (hid (adr L X) H') → Dp K (hid (adr L X) H') v d → D.nx (σ.set i (some v)) H') : tAsg te (gName i) D σ H :=
  hd H (Ev.refl H) h.lsts h.tabs _ fun H2 v e hv => q H2 v (h.ev e) (hid_ext e.1) hv
theorem sq_new {i : Nat} {u : TS} (h : LsS K T X L H) (hd : LE K (adr L X) T te σ H ds) (q : ∀ H' p, LsS K T X ((p, ds) :: L) H' → ExtN (hid (adr L X) H) (hid (p :: adr L X) H') → u D (σ.set i (some (.ref p))) H') : tSeq (tAsg te (gName i)) u D σ H := st_new (D := { D with nx := u D }) h hd q
theorem sq_val {i : Nat} {u : TS} (h : LsS K T X L H) (hd : DE K (adr L X) T te σ H d) (q : ∀ H' v, LsS K T X L H' → ExtN (hid (adr L X) H) (hid (adr L X) H') → Dp K (hid (adr L X) H') v d → u D (σ.set i (some v)) H') : tSeq (tAsg te (gName i)) u D σ H := st_val (D := { D with nx := u D }) h hd q
theorem sq_app {k i : Nat} {p : Addr} {u : TS} (h : LsS K T X L H) (hi : σ[i]? = some (some (.ref p))) (hk : L[k]? = some (p, ds)) (hl : ds.length ≤ 100000) (hd : DE K (adr L X) T te σ H d)
    (q : ∀ H', LsS K T X (L.set k (p, ds ++ [d])) H' → ExtN (hid (adr L X) H) (hid (adr L X) H') → u D σ H') : tSeq (tDrop (tBM K "list" rAppend (tVar i) (tCons te tNil))) u D σ H := st_app (D := { D with nx := u D }) h hi hk hl hd q
theorem sq_for {S : List Addr} {bads : List PyData} {tb u : TS} {k : Nat} (hde : DE K S T te σ H (.tuple bads)) (l : Lsts S H) (t : Tabs T H) (Pv : Nat → L2.St → Hp → Prop)
    (h0 : ∀ H', Ev T H H' → Pv 0 σ H')
    (hs : ∀ (D : Ends) H0 i x σ H, i < bads.length → Pv i σ H → ExtN (hid S H0) (hid S H) → Dp K (hid S H) x (bads.getD i .none) → (∀ σ' H', Pv (i + 1) σ' H' ∧ ExtN (hid S H0) (hid S H') → D.nx σ' H') → tb D (σ.set k (some x)) H)
    (hd : ∀ σ H, Pv bads.length σ H → u D σ H) : tSeq (tFor (iTup K te) (gName k) tb) u D σ H :=
  for_de (D := { D with nx := u D }) hde l t Pv h0 (fun H0 i x σ H hi p e hx => hs _ H0 i x σ H hi p e hx fun _ _ z => z) hd
theorem take_snoc {bads : List PyData} {i : Nat} (f : PyData → PyData) (h : i < bads.length) : (bads.take (i + 1)).map f = (bads.take i).map f ++ [f (bads.getD i .none)] := by
  rw [List.take_succ_eq_append_getElem h, List.map_append]
  simp [h]
theorem LsS.dp {k : Nat} {p : Addr} (h : LsS K T X L H) (hk : L[k]? = some (p, ds)) : Dp K H (.ref p) (.list ds) := by
  obtain ⟨ys, hp, hd⟩ := h.at_ _ (List.mem_of_getElem? hk)
  exact .lst (.of hp) (Dp.exts hid_out _ _ hd)
theorem LsS.re {k i : Nat} {p : Addr} (h : LsS K T X L H) (hk : L[k]? = some (p, ds)) (hi : σ[i]? = some (some (.ref p))) : RE K (adr L X) T (tVar i) σ H ds := by
  obtain ⟨ys, hp, hd⟩ := h.at_ _ (List.mem_of_getElem? hk)
  exact RE.var hi hp hd
end
/-! ### a comprehension of data without lists whose items draw -/
theorem lcN {K : PySem.W.Frag} {J : It} {n : Nat} {G : Hp → Prop} {Y : Nat → Hp → V → Hp → Prop} (w : Walk J n G Y) {g : TG} {te : TE} {vs : List Nat} {σ : L2.St} {H1 : Hp} {D : Addr} {Qd : Hp → Prop} {a l c : Addr} {m : Nat} (st : Nat) (hD : H1 D = none) (hn : n < sizeLine) (P : Nat → PyData → Prop) (hP : ∀ i d, P i d → noList d = true)
    (hl : LSt H1 a l c m) (hG : ∀ H, Sbt a l H1 H → G H)
    (hs : ∀ i x H H' (Q : VK), i < n → Sbt a l H1 H → LSt H a l c (m + i * st) → Y i H x H' → (∀ y H4 d, P i d → Dp K H4 y d → Sbt a l H H4 → LSt H4 a l c (m + (i + 1) * st) → Q y H4) → g x (wipe σ vs) H' fun σ2 H2 => wipe σ2 vs = wipe σ vs ∧ te σ2 H2 Q)
    (hd : ∀ H ys ds, Sbt a l H1 H → LSt H a l c (m + n * st) → H D = some (.lst ys) → DpAll K H ys ds → ds.length = n → (∀ i d, ds[i]? = some d → P i d) → noListAll ds = true → Qd H) :
    ∃ W : Nat → Nat → Hp → Prop, (∃ m, W 0 m (upd H1 D (.lst []))) ∧ ∀ i m H, W i m H →
      (J.stop i H ∧ Qd H) ∨ (J.go i H ∧ ∃ Nx : Hp → Prop, (∀ H', Nx H' → ∃ m', m' < m ∧ W (i + 1) m' H') ∧ ∀ x H', J.yld i H x H' → g x (wipe σ vs) H' fun σ2 H2 => wipe σ2 vs = wipe σ vs ∧ tYes σ2 H2 fun b H3 =>
        if b = true then te σ2 H3 fun y H4 => ∃ acc, H4 D = some (.lst acc) ∧ acc.length < sizeLine ∧ Nx (upd H4 D (.lst (acc ++ [y]))) else Nx H3) := by
  obtain ⟨da, dl, dc⟩ := hl.off hD
  let Pv : Nat → Hp → Prop := fun i H => Sbt a l H1 H ∧ LSt H a l c (m + i * st) ∧ ∃ ys ds, H D = some (.lst ys) ∧ DpAll K H ys ds ∧ ds.length = i ∧ ∀ j d, ds[j]? = some d → P j d
  have nl : ∀ {ds : List PyData}, (∀ j d, ds[j]? = some d → P j d) → noListAll ds = true := fun {ds} h => noListAll_of fun x hx => by
    obtain ⟨j, hj⟩ := List.mem_iff_getElem?.mp hx
    exact hP j x (h j x hj)
  refine lc_it w Pv ⟨(Sbt.refl H1).mut hD, by rw [Nat.zero_mul]; exact hl.new hD, [], [], upd_same, .nil, rfl, fun j y h => by simp at h⟩ (fun i H _ p => hG H p.1) (fun i x H H' hi p y => ?_) (fun H p => ?_)
  · obtain ⟨s, sl, ys, ds, hy, ha, hlen, hr⟩ := p
    have q := hs i x H H' (fun y H4 => ∃ acc, H4 D = some (.lst acc) ∧ acc.length < sizeLine ∧ Pv (i + 1) (upd H4 D (.lst (acc ++ [y])))) hi s sl y (fun v H4 d r hv s4 sl4 => ?_)
    · have e : (fun σ2 H2 => wipe σ2 vs = wipe σ vs ∧ tYes σ2 H2 fun b H3 =>
        if b = true then te σ2 H3 fun y H4 => ∃ acc, H4 D = some (.lst acc) ∧ acc.length < sizeLine ∧ Pv (i + 1) (upd H4 D (.lst (acc ++ [y]))) else Pv (i + 1) H3) =
        (fun σ2 H2 => wipe σ2 vs = wipe σ vs ∧ te σ2 H2 fun y H4 => ∃ acc, H4 D = some (.lst acc) ∧ acc.length < sizeLine ∧ Pv (i + 1) (upd H4 D (.lst (acc ++ [y])))) := by
        funext σ2 H2
        simp only [tYes, if_true]
      rw [e]
      exact q
    · have hy4 := s4 _ _ hy da dl
      have ha4 := keepTs s4 sl ds ys (nl hr) ha
      refine ⟨ys, hy4, by rw [ha.length]; omega, (Sbt.trans s s4).mut hD, sl4.put da dl dc, ys ++ [v], ds ++ [d], upd_same, (keepLs hy4 (nl hr) ha4).snoc (keepL hy4 (hP _ _ r) hv), by simp [hlen], fun j z hz => ?_⟩
      by_cases hj : j < ds.length
      · rw [List.getElem?_append_left hj] at hz
        exact hr j z hz
      · rw [List.getElem?_append_right (by omega)] at hz
        have e : j = i := by
          have := (List.getElem?_eq_some_iff.mp hz).1
          simp at this
          omega
        subst e
        rw [hlen, Nat.sub_self] at hz
        simp at hz
        rw [← hz]
        exact r
  · obtain ⟨s, sl, ys, ds, hy, ha, hlen, hr⟩ := p
    exact hd H ys ds s sl hy ha hlen hr (nl hr)
end Ws
/-! ## C0 -/
namespace Ws
open PySem PySem.Spec PyProof.Rows L2
def top (i : Nat) : Stmt := PySem.Challenge.pw_wholesay_k28_whole_equations_held.main.body.getD i (.Pass ⟨0, 0, 0, 0⟩)
/-! ### what the top has written -/
structure Bl (mg : Str → Option Value) : Prop where
  isinstance : mg "isinstance" = none
  int : mg "int" = none
  bool : mg "bool" = none
  tuple : mg "tuple" = none
  list : mg "list" = none
  str : mg "str" = none
  len : mg "len" = none
  all : mg "all" = none
  any : mg "any" = none
  sum : mg "sum" = none
  max : mg "max" = none
  min : mg "min" = none
  range : mg "range" = none
  enumerate : mg "enumerate" = none
  repr : mg "repr" = none
  abs : mg "abs" = none
  sorted : mg "sorted" = none
  zip : mg "zip" = none
local macro_rules | `(tactic| walk_at "nf") => `(tactic| dsimp only [tNext, tSeq, tDrop, tRet, tRetN, tIfS, tAsg, gName, gCons, gNil, tVar, tC, tOp, tUn, rI, rI0, rU, rEq, rNe, tTest, tChain, tAnd, tOr, tNot, tAndV, tOrV, tNotV, tIf, tCB, tCKw, tCons, tNil, tTup, tLst, tCa, tCallS, tB, rIxT, rIxL, rIxS, cxOf, Cx.nox, Cx.wish, Cx.blk, L2.start, tPar, tPar3, tNever, tYes])
local macro_rules | `(tactic| walk_at "sx") => `(tactic| simp only [wipe, List.map_cons, List.map_nil, List.length_cons, List.length_nil, List.cons_append, List.nil_append, List.append_nil, Nat.reduceAdd, Nat.reduceSub, List.replicate, List.getElem?_cons_zero, List.getElem?_cons_succ, List.set_cons_zero, List.set_cons_succ, Option.some.injEq, V.int.injEq, V.bl.injEq, V.ref.injEq, V.str.injEq, exists_eq_left', exists_eq_left, true_and, Bool.true_eq_false, Bool.false_eq_true, if_true, if_false])
/-! ### wholesay.kinds -/
def spIsInteger (K : PySem.W.Frag) : Sp := fun vs H Q _ => ∃ v d, vs = [v] ∧ Dp K H v d ∧ Q (.bl (isI d)) H
def spIsBetween (K : PySem.W.Frag) : Sp := fun vs H Q _ => ∃ v d lo hi, vs = [v, .int lo, .int hi] ∧ Dp K H v d ∧ Q (.bl (isBt d lo hi)) H
def spIsTupleOf (K : PySem.W.Frag) : Sp := fun vs H Q _ => ∃ v d n, vs = [v, .int n] ∧ Dp K H v d ∧ Q (.bl (isTn d n)) H
def spAreBetween (K : PySem.W.Frag) : Sp := fun vs H Q _ => ∃ v d lo hi, vs = [v, .int lo, .int hi] ∧ Dp K H v d ∧ (∀ ds, d = .tuple ds → ds.length < 100000) ∧ ∀ H', Same H H' → Q (.bl (areB d lo hi)) H'
def spIsRow (K : PySem.W.Frag) : Sp := fun vs H Q _ => ∃ v d n, vs = [v, .int n] ∧ Dp K H v d ∧ n < 100000 ∧ ∀ H', Same H H' → Q (.bl (isTn d n && areB d 0 (10 ^ 60))) H'
abbrev s_is_integer : Stmt := top 2
abbrev nm_is_integer : List Str := ["value"]
abbrev pr_is_integer : List Str := ["value"]
theorem sc_is_integer : FnScope nm_is_integer pr_is_integer (defScope s_is_integer) := ⟨rfl, rfl, rfl, by decide +kernel, rfl, by decide +kernel, by decide +kernel⟩
abbrev s_is_between : Stmt := top 3
abbrev nm_is_between : List Str := ["value", "low", "high"]
abbrev pr_is_between : List Str := ["value", "low", "high"]
theorem sc_is_between : FnScope nm_is_between pr_is_between (defScope s_is_between) := ⟨rfl, rfl, rfl, by decide +kernel, rfl, by decide +kernel, by decide +kernel⟩
abbrev s_is_tuple_of : Stmt := top 4
abbrev nm_is_tuple_of : List Str := ["value", "many"]
abbrev pr_is_tuple_of : List Str := ["value", "many"]
theorem sc_is_tuple_of : FnScope nm_is_tuple_of pr_is_tuple_of (defScope s_is_tuple_of) := ⟨rfl, rfl, rfl, by decide +kernel, rfl, by decide +kernel, by decide +kernel⟩
abbrev s_are_between : Stmt := top 5
abbrev nm_are_between : List Str := ["value", "low", "high", "item"]
abbrev pr_are_between : List Str := ["value", "low", "high"]
theorem sc_are_between : FnScope nm_are_between pr_are_between (defScope s_are_between) := ⟨rfl, rfl, rfl, by decide +kernel, rfl, by decide +kernel, by decide +kernel⟩
abbrev s_is_row : Stmt := top 6
abbrev nm_is_row : List Str := ["value", "many"]
abbrev pr_is_row : List Str := ["value", "many"]
theorem sc_is_row : FnScope nm_is_row pr_is_row (defScope s_is_row) := ⟨rfl, rfl, rfl, by decide +kernel, rfl, by decide +kernel, by decide +kernel⟩
structure Cs0 (mg : Str → Option Value) : Prop where
  MOST_NUMBER : ∃ t, mg "MOST_NUMBER" = some (.int (10 ^ 60) t)
section
variable {P : Program} {w : World} {K : PySem.W.Frag} {mg : Str → Option Value} {base : Heap}
theorem ok_is_integer (B : Bl mg) (D : Dt K mg "is_integer" s_is_integer pr_is_integer) : Df P w K mg base CX0 1 "is_integer" pr_is_integer (spIsInteger K) := by
  refine D.ok sc_is_integer (fun vs H Q E h => ?_) (fun f cdv A outer s H vs Q E hr h => ?_)
  · obtain ⟨v, d, rfl, _⟩ := h
    rfl
  · obtain ⟨v, d, rfl, hd, k⟩ := h
    refine ⟨_, (pss_one (ps_ret (pe_and (pe_callB call_isi (by rfl) B.isinstance boot_isinstance (pa_cons (pv 0) (pa_cons (pe_bltn (v := .ty "int") (by rfl) B.int PyProof.Rows.boot_int rfl) pa_nil))) (pe_one (pe_not (pe_callB call_isi (by rfl) B.isinstance boot_isinstance (pa_cons (pv 0) (pa_cons (pe_bltn (v := .ty "bool") (by rfl) B.bool PyProof.Rows.boot_bool rfl) pa_nil)))))))), ?_⟩
    walk_at "nf"
    walk_at "sx"
    refine isi_int hd ⟨_, rfl, ?_⟩
    cases hx : isIB d with
    | true =>
      refine iteT (isi_bool hd ⟨_, rfl, ?_⟩)
      have e : (!isBo d) = isI d := by cases d <;> first | rfl | (simp [isIB, isI, isBo] at hx)
      rw [e]
      exact k
    | false =>
      refine iteF ?_
      have e : isI d = false := by cases d <;> first | rfl | (simp [isIB, isI, isBo] at hx)
      rw [← e]
      exact k
theorem ok_is_between (B : Bl mg) (F1 : Df P w K mg base CX0 1 "is_integer" pr_is_integer (spIsInteger K)) (D : Dt K mg "is_between" s_is_between pr_is_between) : Df P w K mg base CX0 2 "is_between" pr_is_between (spIsBetween K) := by
  refine D.ok sc_is_between (fun vs H Q E h => ?_) (fun f cdv A outer s H vs Q E hr h => ?_)
  · obtain ⟨v, d, lo, hi, rfl, _⟩ := h
    rfl
  · obtain ⟨v, d, lo, hi, rfl, hd, k⟩ := h
    refine ⟨_, (pss_one (ps_ret (pe_and (pe_f F1 (hr.mono (by decide)) pass0 (pa_cons (pv 0) pa_nil)) (pe_one (pe_chain op_le op_le (pv 1) (pv 0) (pv 2)))))), ?_⟩
    walk_at "nf"
    walk_at "sx"
    refine ⟨v, d, rfl, hd, _, rfl, ?_⟩
    cases hd with
    | int i =>
      refine iteT ⟨lo, i, rfl, rfl, ?_⟩
      by_cases c : lo ≤ i
      · rw [decide_eq_true c]
        refine iteT ⟨i, hi, rfl, rfl, ?_⟩
        have e : isBt (.int i) lo hi = decide (i ≤ hi) := by simp [isBt, c]
        rw [← e]
        exact k
      · rw [decide_eq_false c]
        refine iteF ?_
        have e : isBt (.int i) lo hi = false := by simp [isBt, c]
        rw [← e]
        exact k
    | _ => exact iteF k
theorem ok_is_tuple_of (B : Bl mg) (D : Dt K mg "is_tuple_of" s_is_tuple_of pr_is_tuple_of) : Df P w K mg base CX0 1 "is_tuple_of" pr_is_tuple_of (spIsTupleOf K) := by
  refine D.ok sc_is_tuple_of (fun vs H Q E h => ?_) (fun f cdv A outer s H vs Q E hr h => ?_)
  · obtain ⟨v, d, n, rfl, _⟩ := h
    rfl
  · obtain ⟨v, d, n, rfl, hd, k⟩ := h
    refine ⟨_, (pss_one (ps_ret (pe_and (pe_callB call_isi (by rfl) B.isinstance boot_isinstance (pa_cons (pv 0) (pa_cons (pe_bltn (v := .ty "tuple") (by rfl) B.tuple PyProof.Rows.boot_tuple rfl) pa_nil))) (pe_one (pe_cmpR op_eq (pe_callB call_len_seq (by rfl) B.len PySem.boot_len (pa_cons (pv 0) pa_nil)) (pv 1) (nomark _)))))), ?_⟩
    walk_at "nf"
    walk_at "sx"
    refine isi_tuple hd ⟨_, rfl, ?_⟩
    cases hd with
    | tup hs ha =>
      refine iteT ⟨_, _, rfl, .inr hs, rfl, ?_⟩
      rename_i a xs ds
      have e : isTn (.tuple ds) n = decide (((xs.length : Nat) : Int) = n) := by
        have := ha.length
        simp only [isTn, this]
      rw [← e]
      exact k
    | _ => exact iteF k
theorem ok_are_between (B : Bl mg) (F1 : Df P w K mg base CX0 2 "is_between" pr_is_between (spIsBetween K)) (D : Dt K mg "are_between" s_are_between pr_are_between) : Df P w K mg base CX0 3 "are_between" pr_are_between (spAreBetween K) := by
  refine D.ok sc_are_between (fun vs H Q E h => ?_) (fun f cdv A outer s H vs Q E hr h => ?_)
  · obtain ⟨v, d, lo, hi, rfl, _⟩ := h
    rfl
  · obtain ⟨v, d, lo, hi, rfl, hd, hz, k⟩ := h
    refine ⟨_, (pss_one (ps_ret (pe_and (pe_callB call_isi (by rfl) B.isinstance boot_isinstance (pa_cons (pv 0) (pa_cons (pe_bltn (v := .ty "tuple") (by rfl) B.tuple PyProof.Rows.boot_tuple rfl) pa_nil))) (pe_one (pe_callB (cr_all rfl) (by rfl) B.all boot_all (pa_cons (pe_lc (own := [("item", 3)]) (g := gName 3) (tt := tYes) (by rfl) sc_are_between.nd (pi_tup (pv 0)) (blkOk_by (own := [("item", 3)]) (N := nm_are_between) (sc := defScope s_are_between) (by decide +kernel)) (fun _ _ _ _ _ => pg_name (i := 3) sc_are_between.nd rfl (Or.inl rfl)) (fun _ _ _ _ _ => pts_nil) (fun _ _ _ _ _ => (pe_f F1 (hr.mono (by decide)) pass0 (pa_cons (pv 3) (pa_cons (pv 1) (pa_cons (pv 2) pa_nil)))))) pa_nil)))))), ?_⟩
    walk_at "nf"
    walk_at "sx"
    refine isi_tuple hd ⟨_, rfl, ?_⟩
    cases hd with
    | tup hs ha =>
      rename_i a xs ds
      refine iteT ?_
      have hl := ha.length
      refine ⟨_, rfl, a, rfl, ⟨_, hs⟩, fun L hL => lcS (walk_tup (K := K) (a := a) (xs := xs)) hL (by rw [hl]; exact slt (hz ds rfl)) (fun i y => y = V.bl (isBt (ds.getD i .none) lo hi)) (fun H1 e => Same.seqT e hs) (fun i x H1 H2 Q1 hi1 e y q => ?_) (fun H1 ys e hy hn hr => ?_)⟩
      · obtain ⟨rfl, hx⟩ := y
        obtain ⟨d, hd1, hd2⟩ := ha.getV hx
        walk_at "nf"
        walk_at "sx"
        refine ⟨x, d, lo, hi, rfl, hd2.to e, ?_⟩
        exact q _ _ (by simp [hd1]) (Same.refl _)
      · refine ⟨_, _, rfl, .of (by rw [hy]; exact congrArg (fun z => some (HO.lst z)) (vals_bl hn hr)), ?_⟩
        have e2 : (((List.range xs.length).map fun i => isBt (ds.getD i .none) lo hi).all id) = areB (.tuple ds) lo hi := by
          rw [hl]
          simp only [areB, List.all_map]
          rw [Bool.eq_iff_iff]
          simp only [List.all_eq_true, List.mem_range, Function.comp, id]
          constructor
          · intro h x hx
            obtain ⟨i, hi, rfl⟩ := List.mem_iff_getElem.mp hx
            have := h i hi
            simpa [hi] using this
          · intro h i hi
            have := h ds[i] (List.getElem_mem hi)
            simpa [hi] using this
        rw [e2]
        exact k _ e
    | _ => exact iteF (k _ (Same.refl _))
theorem ok_is_row (C : Cs0 mg) (F1 : Df P w K mg base CX0 1 "is_tuple_of" pr_is_tuple_of (spIsTupleOf K)) (F2 : Df P w K mg base CX0 3 "are_between" pr_are_between (spAreBetween K)) (D : Dt K mg "is_row" s_is_row pr_is_row) : Df P w K mg base CX0 4 "is_row" pr_is_row (spIsRow K) := by
  refine D.ok sc_is_row (fun vs H Q E h => ?_) (fun f cdv A outer s H vs Q E hr h => ?_)
  · obtain ⟨v, d, n, rfl, _⟩ := h
    rfl
  · obtain ⟨v, d, n, rfl, hd, hn, k⟩ := h
    refine ⟨_, (pss_one (ps_ret (pe_and (pe_f F1 (hr.mono (by decide)) pass0 (pa_cons (pv 0) (pa_cons (pv 1) pa_nil))) (pe_one (pe_f F2 (hr.mono (by decide)) pass0 (pa_cons (pv 0) (pa_cons pe_int (pa_cons (pe_glob (v := .int (10 ^ 60)) rfl C.MOST_NUMBER.choose_spec ⟨_, rfl⟩) pa_nil)))))))), ?_⟩
    walk_at "nf"
    walk_at "sx"
    refine ⟨v, d, n, rfl, hd, _, rfl, ?_⟩
    cases e : isTn d n with
    | true =>
      refine iteT ⟨v, d, 0, 10 ^ 60, rfl, hd, fun ds e2 => ?_, fun H' e3 => ?_⟩
      · subst e2
        simp only [isTn, decide_eq_true_eq] at e
        omega
      · have := k H' e3
        rw [e, Bool.true_and] at this
        exact this
    | false =>
      refine iteF ?_
      have := k H (Same.refl _)
      rw [e, Bool.false_and] at this
      exact this
end
/-! ### the defs that the laws share -/
local macro_rules | `(tactic| walk_at "nf") => `(tactic| dsimp only [tNext, tSeq, tDrop, tRet, tRetN, tIfS, tAsg, gName, gTup, gCons, gNil, tVar, tC, tOp, tUn, rI, rI0, rU, rEq, rNe, tTest, tChain, tAnd, tOr, tNot, tAndV, tOrV, tNotV, tIf, tCB, tCKw, tCons, tNil, tTup, tLst, tCa, tCallS, tB, rIxT, rIxL, rIxS, cxOf, Cx.nox, Cx.wish, Cx.blk, L2.start, tPar, tPar3, tNever, tYes, tBits, tRz, tBM, rAppend, tyV, tXf, suiteEnds, gSub, rSetL, tBreak, rMax, tDGet, sDPut, tSl, tNoPart, tPart, tDisp, tPairs, tDGet2, tDNewK])
local macro_rules | `(tactic| walk_at "sx") => `(tactic| simp only [wipe, List.cons.injEq, and_assoc, exists_and_left, and_true, List.map_cons, List.map_nil, List.length_cons, List.length_nil, List.cons_append, List.nil_append, List.append_nil, Nat.reduceAdd, Nat.reduceSub, List.replicate, List.getElem?_cons_zero, List.getElem?_cons_succ, List.set_cons_zero, List.set_cons_succ, Option.some.injEq, V.int.injEq, V.bl.injEq, V.ref.injEq, V.str.injEq, exists_eq_left', exists_eq_left, true_and, Bool.true_eq_false, Bool.false_eq_true, if_true, if_false])

def spDrawW : Sp := fun vs H Q _ => ∃ (a l c : Addr) (n : Nat) (lim : Int), vs = [.ref a, .int lim] ∧ LSt H a l c n ∧ n ≤ 1000000 ∧ 1 ≤ lim ∧ lim < 2 ^ 220 ∧ ∀ H' (r : Int), Sbt a l H H' → LSt H' a l c (n + 1) → 0 ≤ r → r < lim → Q (.int r) H'
def spOf : Sp := fun vs H Q _ => ∃ (a l c p : Addr) (n : Nat) (xs : List V), vs = [.ref a, .ref p] ∧ LSt H a l c n ∧ n ≤ 1000000 ∧ H p = some (.lst xs) ∧ p ≠ a ∧ p ≠ l ∧ 1 ≤ xs.length ∧ xs.length ≤ 1000 ∧ ∀ H' x, Sbt a l H H' → LSt H' a l c (n + 1) → x ∈ xs → Q x H'
abbrev s__law_mixed : Stmt := top 30
abbrev nm__law_mixed : List Str := ["cell", "k"]
abbrev pr__law_mixed : List Str := ["cell", "k"]
theorem sc__law_mixed : FnScope nm__law_mixed pr__law_mixed (defScope s__law_mixed) := ⟨rfl, rfl, rfl, by decide +kernel, rfl, by decide +kernel, by decide +kernel⟩
abbrev s__law_draw : Stmt := top 32
abbrev nm__law_draw : List Str := ["state", "limit", "at", "place", "left", "number"]
abbrev pr__law_draw : List Str := ["state", "limit"]
theorem sc__law_draw : FnScope nm__law_draw pr__law_draw (defScope s__law_draw) := ⟨rfl, rfl, rfl, by decide +kernel, rfl, by decide +kernel, by decide +kernel⟩
abbrev s__law_like : Stmt := top 34
abbrev nm__law_like : List Str := ["got", "due"]
abbrev pr__law_like : List Str := ["got", "due"]
theorem sc__law_like : FnScope nm__law_like pr__law_like (defScope s__law_like) := ⟨rfl, rfl, rfl, by decide +kernel, rfl, by decide +kernel, by decide +kernel⟩
abbrev s__law_begin : Stmt := top 31
abbrev nm__law_begin : List Str := ["script", "cells_so", "cell"]
abbrev pr__law_begin : List Str := ["script"]
theorem sc__law_begin : FnScope nm__law_begin pr__law_begin (defScope s__law_begin) := ⟨rfl, rfl, rfl, by decide +kernel, rfl, by decide +kernel, by decide +kernel⟩
abbrev s__law_of : Stmt := top 33
abbrev nm__law_of : List Str := ["state", "some"]
abbrev pr__law_of : List Str := ["state", "some"]
theorem sc__law_of : FnScope nm__law_of pr__law_of (defScope s__law_of) := ⟨rfl, rfl, rfl, by decide +kernel, rfl, by decide +kernel, by decide +kernel⟩
section
variable {P : Program} {w : World} {K : PySem.W.Frag} {mg : Str → Option Value} {base : Heap}
theorem ok_mixed (B : Bl mg) (D : Dt K mg "_law_mixed" s__law_mixed pr__law_mixed) : Df P w K mg base CX0 1 "_law_mixed" pr__law_mixed spMixed := by
  refine D.ok sc__law_mixed (fun vs H Q E h => ?_) (fun f cdv A outer s H vs Q E hr h => ?_)
  · obtain ⟨i, k, rfl, _⟩ := h
    rfl
  · obtain ⟨i, k, rfl, hk1, hk2, q⟩ := h
    refine ⟨_, (pss_cons (ps_set (i := 0) sc__law_mixed.nd rfl (Or.inl rfl) (pe_op op_mod (pe_callTy call_int1 (by rfl) B.int PyProof.Rows.boot_int (pa_cons (pv 0) pa_nil)) pe_int)) (pss_one (ps_ret (pe_op op_mod (pe_op op_mul (pe_op op_mod (pe_op op_add (pe_op op_add (pe_op op_mul (pv 0) (pe_op op_add pe_int (pe_op op_mul (pe_op op_mul pe_int (pv 1)) (pv 1)))) (pe_op op_mul pe_int (pv 1))) pe_int) pe_int) pe_int) pe_int)))), ?_⟩
    walk_at "nf"
    walk_at "sx"
    have m1 := Int.emod_nonneg i (show (2147483647 : Int) ≠ 0 by decide)
    have m2 := Int.emod_lt_of_pos i (show (0 : Int) < 2147483647 by decide)
    generalize hz : (i % 2147483647 * (48271 + 2 * k * k) + 69621 * k + 11) = z
    refine .inl ⟨by decide, .inl ⟨by decide, by decide⟩, .inr ⟨by omega, by omega⟩, .inl ⟨by omega, by omega⟩, .inl ⟨by decide, by decide⟩, by decide, .inr ⟨by decide, by decide⟩, by decide, q _ (Int.emod_nonneg _ (by decide)) (Int.emod_lt_of_pos _ (by decide))⟩
theorem ok_draw (B : Bl mg) (F1 : Df P w K mg base CX0 1 "_law_mixed" pr__law_mixed spMixed) (D : Dt K mg "_law_draw" s__law_draw pr__law_draw) : Df P w K mg base CX0 2 "_law_draw" pr__law_draw spDrawW := by
  refine D.ok sc__law_draw (fun vs H Q E h => ?_) (fun f cdv A outer s H vs Q E hr h => ?_)
  · obtain ⟨a, l, c, n, lim, rfl, _⟩ := h
    rfl
  · obtain ⟨a, l, c, n, lim, rfl, hs, hn, h1, h2, k⟩ := h
    refine ⟨_, (pss_cons (ps_set (i := 2) sc__law_draw.nd rfl (Or.inl rfl) (pe_dget (hu_of hr) (pv 0) pe_str (fun _ _ => rfl))) (pss_cons (ps_dput (hu_of hr) (pv 0) pe_str (pe_op op_add (pv 2) pe_int) rfl) (pss_cons (ps_set (i := 3) sc__law_draw.nd rfl (Or.inl rfl) (pe_op op_mod (pe_callTy call_int1 (by rfl) B.int PyProof.Rows.boot_int (pa_cons (pv 2) pa_nil)) (pe_callB call_len_seq (by rfl) B.len PySem.boot_len (pa_cons (pe_dget (hu_of hr) (pv 0) pe_str (fun _ _ => rfl)) pa_nil)))) (pss_cons (ps_set (i := 4) sc__law_draw.nd rfl (Or.inl rfl) (pe_ix ix_list (pe_dget (hu_of hr) (pv 0) pe_str (fun _ _ => rfl)) (pv 3) (fun _ _ => rfl))) (pss_cons (ps_if (pt_cmpR op_gt (pv 4) pe_int (nomark _)) (pss_cons (ps_asg (pe_op op_fdivW (pv 4) (pv 1)) (pg_sub (pe_dget (hu_of hr) (pv 0) pe_str (fun _ _ => rfl)) (pv 3) set_list)) (pss_one (ps_ret (pe_op op_mod (pe_callTy call_int1 (by rfl) B.int PyProof.Rows.boot_int (pa_cons (pv 4) pa_nil)) (pv 1))))) pss_nil) (pss_cons (ps_set (i := 5) sc__law_draw.nd rfl (Or.inl rfl) (pe_f F1 (hr.mono (by decide)) pass0 (pa_cons (pe_f F1 (hr.mono (by decide)) pass0 (pa_cons (pe_ix ix_list (pe_dget (hu_of hr) (pv 0) pe_str (fun _ _ => rfl)) (pv 3) (fun _ _ => rfl)) (pa_cons (pv 2) pa_nil))) (pa_cons (pe_op op_add pe_int (pv 2)) pa_nil)))) (pss_one (ps_ret (pe_op op_mod (pe_op op_fdiv (pe_callTy call_int1 (by rfl) B.int PyProof.Rows.boot_int (pa_cons (pe_op op_add (pe_op op_mul (pv 5) pe_int) (pe_f F1 (hr.mono (by decide)) pass0 (pa_cons (pv 5) (pa_cons (pe_op op_add pe_int (pv 2)) pa_nil)))) pa_nil)) pe_int) (pv 1)))))))))), ?_⟩
    walk_at "nf"
    walk_at "sx"
    obtain ⟨cs, ls, m, S⟩ := hs
    have hac : a ≠ c := ne_of S.top S.cells (by intro z; cases z)
    have hal : a ≠ l := ne_of S.top S.lefts (by intro z; cases z)
    have hq : m % cs.length < cs.length := Nat.mod_lt _ S.pos
    have hq2 : m % cs.length < ls.length := by rw [S.len]; exact hq
    have em : ((m : Nat) : Int) % (((cs.map V.int).length : Nat) : Int) = ((m % cs.length : Nat) : Int) := by
      rw [List.length_map]
      exact (Int.natCast_emod m cs.length).symm
    have top1 : upd H a (.dK (stK c l (m + 1))) a = some (.dK (stK c l (m + 1))) := upd_same
    have cells1 : upd H a (.dK (stK c l (m + 1))) c = some (.lst (cs.map V.int)) := by rw [upd_ne (Ne.symm hac)]; exact S.cells
    have lefts1 : upd H a (.dK (stK c l (m + 1))) l = some (.lst (ls.map V.int)) := by rw [upd_ne (Ne.symm hal)]; exact S.lefts
    have few := S.few
    refine ⟨_, dg_at S.top, m, rfl, _, dp_at S.top, .inl ⟨m, rfl, _, dg_cells top1, c, rfl, _, .inl (.of cells1), by rw [List.length_map]; have := S.pos; omega, _, dg_lefts top1, l, rfl, _, .of lefts1, ?_⟩⟩
    rw [em]
    refine ⟨V.int (ls.getD (m % cs.length) 0), atI_nat (by simp [hq2]), _, rfl, ?_⟩
    generalize hleft : ls.getD (m % cs.length) 0 = left
    by_cases hp : 0 < left
    · rw [decide_eq_true hp]
      refine iteT ⟨left, rfl, wide_div (b := 220) (by omega) (by omega) (by decide) (by decide), _, dg_lefts top1, l, rfl, _, lefts1, m % cs.length, ?_, .inl ⟨left, rfl, by omega, ?_⟩⟩
      · unfold ixN
        rw [if_pos (by omega), List.length_map, if_pos (by omega), Int.toNat_natCast]
      · refine k _ _ (Sbt.refl H).a.l ⟨cs, ls.set (m % cs.length) (left / lim), m + 1, ?_, ?_, ?_, by rw [List.length_set]; exact S.len, S.pos, by omega, S.apart⟩ (Int.emod_nonneg _ (by omega)) (Int.emod_lt_of_pos _ (by omega))
        · rw [upd_ne hal]
          exact top1
        · rw [upd_ne S.apart]
          exact cells1
        · rw [upd_same, List.map_set]
    · rw [decide_eq_false hp]
      have fin : ∀ r : Int, 0 ≤ r → r < lim → Q (.int r) (upd H a (.dK (stK c l (m + 1)))) := fun r r1 r2 => k _ r (Sbt.refl H).a ⟨cs, ls, m + 1, top1, cells1, lefts1, S.len, S.pos, by omega, S.apart⟩ r1 r2
      refine iteF ⟨_, dg_cells top1, c, rfl, _, .of cells1, V.int (cs.getD (m % cs.length) 0), atI_nat (by simp [hq]), _, _, rfl, by omega, by omega, fun r1 a1 b1 => ⟨m, rfl, _, _, rfl, by omega, by omega, fun r2 a2 b2 => ⟨r2, rfl, .inr ⟨by decide, by decide⟩, m, rfl, _, _, rfl, by omega, by omega, fun r3 a3 b3 => ⟨r3, rfl, .inl ⟨⟨by decide, by decide⟩, by omega, ?_⟩⟩⟩⟩⟩
      exact fin _ (Int.emod_nonneg _ (by omega)) (Int.emod_lt_of_pos _ (by omega))
theorem ok_like (B : Bl mg) (D : Dt K mg "_law_like" s__law_like pr__law_like) : DfG P w K mg base CX0 1 "_law_like" pr__law_like (spLike K) := by
  refine D.okG sc__law_like (fun vs H Q E h => ?_) (fun f cdv A outer s H vs Q E hG hr h => ?_)
  · obtain ⟨v, u, d, N, D, rfl, _⟩ := h
    rfl
  · obtain ⟨v, u, d, N, D, rfl, hv, hu, hs, hN, hD, k⟩ := h
    refine ⟨_, (pss_one (ps_ret (pe_cmpR op_eq (pe_callB (call_reprD hG hr.units) (by rfl) B.repr boot_repr (pa_cons (pv 0) pa_nil)) (pe_callB (call_reprD hG hr.units) (by rfl) B.repr boot_repr (pa_cons (pv 1) pa_nil)) (nomark _)))), ?_⟩
    walk_at "nf"
    walk_at "sx"
    refine ⟨d, hv, hs.sh, hs.nd, by have := hs.dp; omega, hs.fits hN, d, hu, hs.sh, hs.nd, by have := hs.dp; omega, hs.fits hN, rfl, ?_⟩
    rw [decide_eq_true rfl]
    exact k
theorem ok_begin (B : Bl mg) (D : Dt K mg "_law_begin" s__law_begin pr__law_begin) : Df P w K mg base CX0 1 "_law_begin" pr__law_begin (spBegin K) := by
  refine D.ok sc__law_begin (fun vs H Q E h => ?_) (fun f cdv A outer s H vs Q E hr h => ?_)
  · obtain ⟨p, is, rfl, _⟩ := h
    rfl
  · obtain ⟨p, is, rfl, hs, hl, k⟩ := h
    refine ⟨_, (pss_cons (ps_set (i := 1) sc__law_begin.nd rfl (Or.inl rfl) (pe_ifExp (pt_cmpR (op_neD hr.units) (pv 0) (pe_lst pa_nil) (nomark _)) (pe_callTy call_list_of (by rfl) B.list PyProof.Rows.boot_list (pa_cons (pv 0) pa_nil)) (pe_lst (pa_cons pe_int pa_nil)))) (pss_one (ps_ret (pe_disp (pps_cons pe_str (pv 1) (pps_cons pe_str (pe_lc (own := [("cell", 2)]) (g := gName 2) (tt := tYes) (by rfl) sc__law_begin.nd (pi_list (pv 1)) (blkOk_by (own := [("cell", 2)]) (N := nm__law_begin) (sc := defScope s__law_begin) (by decide +kernel)) (fun _ _ _ _ _ => pg_name (i := 2) sc__law_begin.nd rfl (Or.inl rfl)) (fun _ _ _ _ _ => pts_nil) (fun _ _ _ _ _ => (pe_ifExp (pt_cmpR op_ge (pv 2) (pe_op op_pow pe_int pe_int) (nomark _)) (pv 2) pe_int))) (pps_cons pe_str pe_int pps_nil))) (by rfl) (by rfl) (fun z => by cases z) (by decide))))), ?_⟩
    walk_at "nf"
    walk_at "sx"
    have fin : ∀ (G : Hp) (l : Addr) (zs : List Int), Same H G → G l = some (.lst (zs.map V.int)) → 0 < zs.length → zs.length ≤ 1000 → ∀ p2, G p2 = none →
        tLc (iList K (tVar 1)) (gName 2) tYes (tIf (tTest (tOp (rI0 fun i j => V.bl (decide (j ≤ i))) (tVar 2) (tOp (rI CPow fun i j => V.int (i ^ j.toNat)) (tC (V.int 10)) (tC (V.int 18))))) (tVar 2) (tC (V.int 0)))
          [2] [some (V.ref p), some (V.ref l), none] (upd G p2 (HO.dK [])) fun y H2 => H2 p2 = some (HO.dK []) ∧ ∃ kvs : List (Key × V),
            [(V.str (Str.ofString "cells"), V.ref l), (V.str (Str.ofString "lefts"), y), (V.str (Str.ofString "at"), V.int 0)] = List.map (fun kv => (kV kv.fst, kv.snd)) kvs ∧ kvs.length ≤ 15 ∧ Q (V.ref p2) (upd H2 p2 (HO.dK (mergeK [] kvs))) := by
      intro G l zs e hl2 hz1 hz2 p2 hp2
      have hl3 : upd G p2 (HO.dK []) l = some (.lst (zs.map V.int)) := by rw [upd_ne (ne_of_none hl2 hp2)]; exact hl2
      try walk_at "nf"
      try walk_at "sx"
      refine ⟨_, rfl, l, rfl, ⟨_, .of hl3⟩, fun D hD => lcS walk_list hD (by rw [List.length_map]; exact slt (by omega)) (fun _ y => ∃ z : Int, y = .int z) (fun H1 e1 => .of (e1 _ _ hl3)) (fun i x H1 H2 Q1 hi1 e1 y q => ?_) (fun H1 ys e1 hy hn hr => ?_)⟩
      · obtain ⟨rfl, hx⟩ := y
        obtain ⟨z, hz, rfl⟩ := List.mem_map.mp (List.mem_of_getElem? hx)
        try walk_at "nf"
        try walk_at "sx"
        refine ⟨⟨by decide, by decide, by decide⟩, ?_⟩
        refine ite2 (fun _ => q _ _ ⟨_, rfl⟩ (Same.refl _)) (fun _ => q _ _ ⟨_, rfl⟩ (Same.refl _))
      · obtain ⟨ls, rfl, hlen⟩ := ints_any hr
        have hp3 : H1 p2 = some (.dK []) := e1 _ _ upd_same
        refine ⟨hp3, [(.inr "cells", .ref l), (.inr "lefts", .ref D), (.inr "at", .int 0)], rfl, by show 3 ≤ 15; omega, ?_⟩
        have em : mergeK [] [((.inr ("cells" : Str) : Key), V.ref l), (.inr ("lefts" : Str), V.ref D), (.inr ("at" : Str), V.int 0)] = stK l D 0 := by
          have k4 : ¬ (("lefts" : Str) = "cells") := by decide +kernel
          have k5 : ¬ (("cells" : Str) = "lefts") := ks3
          simp [mergeK, putK, stK, ks1, ks2, k4, k5]
        rw [em]
        have hl4 := e1 _ _ hl3
        have hDl : D ≠ l := fun z => by rw [z, hl3] at hD; cases hD
        refine k _ p2 D l ?_ ⟨zs, ls, 0, upd_same, by rw [upd_ne (ne_of_none hl2 hp2)]; exact hl4, by rw [upd_ne (fun z => by rw [z, upd_same] at hD; cases hD)]; exact hy, by rw [hlen, hn, List.length_map], hz1, Nat.le_refl _, Ne.symm hDl⟩
        intro b o hb
        have hb2 := e _ _ hb
        have nb : b ≠ p2 := ne_of_none hb2 hp2
        rw [upd_ne nb]
        exact e1 _ _ (by rw [upd_ne nb]; exact hb2)
    refine ⟨by decide, fun p1 hp1 => ⟨.list (is.map PyData.int), .list [], .lst ((Same.new hp1).seq hs) (DpAll.ints is), .lst (.of upd_same) .nil, shaped_ints is, rfl, _, rfl, ?_⟩⟩
    cases is with
    | nil => exact iteF ⟨by decide, fun p2 hp2 => fun p3 hp3 => fin _ p2 [0] ((Same.new hp1).then_new hp2) upd_same (by decide) (by decide) p3 hp3⟩
    | cons z zs =>
      refine iteT ⟨_, .inl ((Same.new hp1).seq hs), fun p2 hp2 => fun p3 hp3 => fin _ p2 (z :: zs) ((Same.new hp1).then_new hp2) upd_same (by simp) hl p3 hp3⟩
theorem ok_of (B : Bl mg) (F1 : Df P w K mg base CX0 2 "_law_draw" pr__law_draw spDrawW) (D : Dt K mg "_law_of" s__law_of pr__law_of) : Df P w K mg base CX0 3 "_law_of" pr__law_of spOf := by
  refine D.ok sc__law_of (fun vs H Q E h => ?_) (fun f cdv A outer s H vs Q E hr h => ?_)
  · obtain ⟨a, l, c, p, n, xs, rfl, _⟩ := h
    rfl
  · obtain ⟨a, l, c, p, n, xs, rfl, hs, hn, hp, pa, pl, z1, z2, k⟩ := h
    refine ⟨_, (pss_one (ps_ret (pe_ix ix_list (pv 1) (pe_f F1 (hr.mono (by decide)) pass0 (pa_cons (pv 0) (pa_cons (pe_callB call_len_seq (by rfl) B.len PySem.boot_len (pa_cons (pv 1) pa_nil)) pa_nil))) (fun _ _ => rfl)))), ?_⟩
    walk_at "nf"
    walk_at "sx"
    refine ⟨xs, .inl (.of hp), a, l, c, n, _, rfl, hs, hn, by omega, by omega, fun H1 r e1 s1 r1 r2 => ?_⟩
    obtain ⟨r, rfl⟩ : ∃ m : Nat, r = (m : Int) := ⟨r.toNat, by omega⟩
    have hlt : r < xs.length := by omega
    exact ⟨xs, r, rfl, .of (e1 _ _ hp pa pl), xs[r], atI_nat (by simp [hlt]), k _ _ e1 s1 (by simp)⟩
end
end Ws
/-! ## C1 -/
namespace Ws
open PySem PySem.Spec PyProof.Rows L2 LamX
/-! ### data that is drawn: what an expression that draws may make -/
theorem Tabs.sbt {T : List (Addr × Str)} {a l c : Addr} {m : Nat} {H H' : Hp} (t : Tabs T H) (s : LSt H a l c m) (e : Sbt a l H H') : Tabs T H' := fun x hx => by
  obtain ⟨ps, h1, h2, h3⟩ := t x hx
  obtain ⟨cs, ls, k, S⟩ := s
  refine ⟨ps, e _ _ h1 (fun z => by rw [z, S.top] at h1; cases h1) (fun z => by rw [z, S.lefts] at h1; cases h1), h2, fun pos cv hc => ?_⟩
  obtain ⟨c, e1, e2⟩ := h3 pos cv hc
  exact ⟨c, e1, e _ _ e2 (fun z => by rw [z, S.top] at e2; cases e2) (fun z => by rw [z, S.lefts] at e2; cases e2)⟩
def GX (S : List Addr) (H H' : Hp) : Prop := ExtN (hid S H) (hid S H') ∧ ∀ T, Tabs T H → Tabs T H'
theorem GX.refl {S : List Addr} (H : Hp) : GX S H H := ⟨ExtN.refl _, fun _ t => t⟩
theorem GX.trans {S : List Addr} {H H1 H2 : Hp} (a : GX S H H1) (b : GX S H1 H2) : GX S H H2 := ⟨ExtN.trans a.1 b.1, fun T t => b.2 T (a.2 T t)⟩
theorem GX.of {S : List Addr} {H H1 : Hp} (e : Same H H1) : GX S H H1 := ⟨hid_ext (Same.extN e), fun T t => Tabs.same t e⟩
theorem GX.new {S : List Addr} {H : Hp} {p : Addr} {o : HO} (h : H p = none) : GX S H (upd H p o) := GX.of (Same.new h)
theorem gx_sbt {a l c : Addr} {m : Nat} {H H1 : Hp} (s : LSt H a l c m) (e : Sbt a l H H1) : GX [a, l] H H1 := ⟨fun b o h n => by
  unfold hid at h ⊢
  split at h
  · cases h
  · rename_i m
    rw [if_neg m]
    simp only [List.mem_cons, List.not_mem_nil, or_false, not_or] at m
    exact e b o h m.1 m.2, fun T t => Tabs.sbt t s e⟩
theorem lst_st {H : Hp} {a l c : Addr} {m : Nat} (h : LSt H a l c m) : Lsts [a, l] H := fun b hb => by
  obtain ⟨cs, ls, k, S⟩ := h
  simp only [List.mem_cons, List.not_mem_nil, or_false] at hb
  rcases hb with rfl | rfl
  · exact ⟨_, S.top, .inr ⟨_, rfl⟩⟩
  · exact ⟨_, S.lefts, .inl ⟨_, rfl⟩⟩
section
variable {K : PySem.W.Frag} {S : List Addr} {H H1 : Hp}
theorem _root_.L2.Dp.gx {v : V} {d : PyData} (h : Dp K (hid S H) v d) (e : GX S H H1) : Dp K (hid S H1) v d := Dp.ext e.1 d v h
theorem _root_.L2.DpAll.gx {v : List V} {d : List PyData} (h : DpAll K (hid S H) v d) (e : GX S H H1) : DpAll K (hid S H1) v d := Dp.exts e.1 d v h
end
section
variable (K : PySem.W.Frag) (a l c : Addr)
def DW (s : Nat) (te : TE) (σ : L2.St) (H : Hp) (P : PyData → Prop) : Prop := ∀ H1 m, GX [a, l] H H1 → LSt H1 a l c m → m + s ≤ 1000000 → ∀ Q : VK, (∀ H' v d, GX [a, l] H1 H' → LSt H' a l c (m + s) → P d → Dp K (hid [a, l] H') v d → Q v H') → te σ H1 Q
def DWs (s : Nat) (ta : TA) (σ : L2.St) (H : Hp) (P : List PyData → Prop) : Prop := ∀ H1 m, GX [a, l] H H1 → LSt H1 a l c m → m + s ≤ 1000000 → ∀ Q : List V → Hp → Prop, (∀ H' vs ds, GX [a, l] H1 H' → LSt H' a l c (m + s) → P ds → DpAll K (hid [a, l] H') vs ds → Q vs H') → ta σ H1 Q
end
def OW (to : TO) (σ : L2.St) (o : Option Int) : Prop := ∀ H Q, Q o H → to σ H Q
theorem OW.no {σ : L2.St} : OW tNoPart σ none := fun _ _ q => q
theorem OW.int {σ : L2.St} {i : Int} : OW (tPart (tC (.int i))) σ (some i) := fun _ _ q => ⟨i, rfl, q⟩
theorem OW.neg {σ : L2.St} {i : Int} : OW (tPart (tUn (rU fun i => V.int (-i)) (tC (.int i)))) σ (some (-i)) := fun _ _ q => ⟨i, rfl, -i, rfl, q⟩
theorem OW.var {σ : L2.St} {j : Nat} {i : Int} (h : σ[j]? = some (some (.int i))) : OW (tPart (tVar j)) σ (some i) := fun _ _ q => ⟨_, h, i, rfl, q⟩
theorem OW.add {σ : L2.St} {j : Nat} {i k : Int} (h : σ[j]? = some (some (.int i))) : OW (tPart (tOp (rI0 fun i j => V.int (i + j)) (tVar j) (tC (.int k)))) σ (some (i + k)) := fun _ _ q => ⟨_, h, i, k, rfl, rfl, i + k, rfl, q⟩
def cutD (xs : List PyData) (lo hi : Option Int) : List PyData := (xs.drop (HT.sIx xs.length 0 lo)).take (HT.sIx xs.length xs.length hi - HT.sIx xs.length 0 lo)
section
variable {K : PySem.W.Frag} {a l c : Addr} {s s1 s2 : Nat} {te ta tb : TE} {tas : TA} {σ : L2.St} {H : Hp} {P R : PyData → Prop} {Ps : List PyData → Prop}
theorem cut_dp {H : Hp} {xs : List V} {ds : List PyData} (h : DpAll K H xs ds) (lo hi : Option Int) : DpAll K H (cutV xs lo hi) (cutD ds lo hi) := by
  unfold cutV cutD
  rw [h.length]
  exact (h.drop _).take _
theorem DW.mono (h : DW K a l c s te σ H P) (hp : ∀ d, P d → R d) (hs : s ≤ s1 := by omega) : DW K a l c s1 te σ H R := fun H1 m g t b Q q => h H1 m g t (by omega) Q fun H' v d g2 t2 p hv => q H' v d g2 (t2.mono (by omega)) (hp d p) hv
theorem DW.int {i : Int} : DW K a l c 0 (tC (.int i)) σ H (· = .int i) := fun H1 m _ t _ Q q => q H1 _ _ (GX.refl _) t rfl (.int i)
theorem DW.str {x : Str} : DW K a l c 0 (tC (.str x)) σ H (· = .str x) := fun H1 m _ t _ Q q => q H1 _ _ (GX.refl _) t rfl (.str x)
theorem DW.bl {b : Bool} : DW K a l c 0 (tC (.bl b)) σ H (· = .bool b) := fun H1 m _ t _ Q q => q H1 _ _ (GX.refl _) t rfl (.bl b)
theorem DW.non : DW K a l c 0 (tC .non) σ H (· = .none) := fun H1 m _ t _ Q q => q H1 _ _ (GX.refl _) t rfl .non
theorem DW.var {i : Nat} {v : V} {d : PyData} (h : σ[i]? = some (some v)) (hd : Dp K (hid [a, l] H) v d) : DW K a l c 0 (tVar i) σ H (· = d) := fun H1 m g t _ Q q => ⟨v, h, q H1 v d (GX.refl _) t rfl (hd.gx g)⟩
theorem DWs.nil : DWs K a l c 0 tNil σ H (· = []) := fun H1 m _ t _ Q q => q H1 [] [] (GX.refl _) t rfl .nil
theorem DWs.cons (x : DW K a l c s1 te σ H P) (y : DWs K a l c s2 tas σ H Ps) : DWs K a l c (s1 + s2) (tCons te tas) σ H (fun ds => ∃ d es, ds = d :: es ∧ P d ∧ Ps es) := fun H1 m g t b Q q =>
  x H1 m g t (by omega) _ fun H2 v d g2 t2 p hv => y H2 _ (g.trans g2) t2 (by omega) _ fun H3 vs es g3 t3 ps hs => q H3 (v :: vs) (d :: es) (g2.trans g3) (t3.mono (by omega)) ⟨d, es, rfl, p, ps⟩ (.cons (hv.gx g3) hs)
theorem DWs.one (x : DW K a l c s te σ H P) : DWs K a l c s (tCons te tNil) σ H (fun ds => ∃ d, ds = [d] ∧ P d) := fun H1 m g t b Q q =>
  x H1 m g t b _ fun H2 v d g2 t2 p hv => q H2 [v] [d] g2 t2 ⟨d, rfl, p⟩ (.cons hv .nil)
theorem DW.tup (x : DWs K a l c s tas σ H Ps) (hl : ∀ ds, Ps ds → ds.length ≤ 100000) : DW K a l c s (tTup tas) σ H (fun d => ∃ ds, d = .tuple ds ∧ Ps ds) := fun H1 m g t b Q q =>
  x H1 m g t b _ fun H2 vs ds g2 t2 p hs => ⟨by have := hl ds p; rw [hs.length, sizeLine_eq]; omega, fun r hr => q _ _ _ (g2.trans (GX.new hr)) (t2.new hr) ⟨ds, rfl, p⟩ (.tup (seqT_hid (lst_st (t2.new hr)) (.of upd_same)) (hs.gx (GX.new hr)))⟩
theorem DW.cat (x : DW K a l c s1 ta σ H P) (y : DW K a l c s2 tb σ H R) (hp : ∀ d, P d → ∃ ds, d = .tuple ds ∧ ds.length ≤ 100000) (hr : ∀ d, R d → ∃ ds, d = .tuple ds ∧ ds.length ≤ 100000) :
    DW K a l c (s1 + s2) (tOp (rCatA K) ta tb) σ H (fun d => ∃ ds es, d = .tuple (ds ++ es) ∧ P (.tuple ds) ∧ R (.tuple es)) := fun H1 m g t b Q q =>
  x H1 m g t (by omega) _ fun H2 v d g2 t2 p hv => y H2 _ (g.trans g2) t2 (by omega) _ fun H3 u e g3 t3 r hu => by
    obtain ⟨ds, rfl, hl1⟩ := hp d p
    obtain ⟨es, rfl, hl2⟩ := hr e r
    obtain ⟨p1, xs, rfl, hs1, ha1⟩ := hv.tup_inv
    obtain ⟨p2, ys, rfl, hs2, ha2⟩ := hu.tup_inv
    refine cat_ok (seqTE hid_out (seqTE g3.1 hs1)) (seqTE hid_out hs2) (by rw [ha1.length, ha2.length, sizeLine_eq]; omega) fun r1 H4 e4 h4 => ?_
    have t4 := t3.same e4
    exact q _ _ _ ((g2.trans g3).trans (GX.of e4)) (t4.mono (by omega)) ⟨ds, es, rfl, p, r⟩ (.tup (seqT_hid (lst_st t4) h4) ((ha1.gx (g3.trans (GX.of e4))).append (ha2.gx (GX.of e4))))
theorem DW.cut {lo hi : Option Int} {to tu : TO} (x : DW K a l c s te σ H P) (h1 : OW to σ lo) (h2 : OW tu σ hi) (hp : ∀ d, P d → ∃ ds, d = .tuple ds) :
    DW K a l c s (L2.tSl (rSlA K) te to tu) σ H (fun d => ∃ ds, d = .tuple (cutD ds lo hi) ∧ P (.tuple ds)) := fun H1 m g t b Q q =>
  x H1 m g t b _ fun H2 v d g2 t2 p hv => h1 _ _ (h2 _ _ (by
    obtain ⟨ds, rfl⟩ := hp d p
    obtain ⟨p1, xs, rfl, hs1, ha1⟩ := hv.tup_inv
    refine sl_ok (seqTE hid_out hs1) fun r1 H4 e4 h4 => ?_
    have t4 := t2.same e4
    exact q _ _ _ (g2.trans (GX.of e4)) t4 ⟨ds, rfl, p⟩ (.tup (seqT_hid (lst_st t4) h4) ((cut_dp ha1 lo hi).gx (GX.of e4)))))
theorem at_dp {H : Hp} {xs : List V} {ds : List PyData} {i : Int} {d : PyData} (h : DpAll K H xs ds) (e : atI ds i = some d) : ∃ x, atI xs i = some x ∧ Dp K H x d := by
  unfold atI at e ⊢
  rw [h.length]
  cases hi : ixN ds.length i with
  | none => rw [hi] at e; cases e
  | some j =>
    rw [hi] at e
    have hj : j < ds.length := (List.getElem?_eq_some_iff.mp (show ds[j]? = some d from e)).1
    obtain ⟨x, hx, _, hd⟩ := h.at_ hj
    refine ⟨x, hx, ?_⟩
    have e2 : ds[j]? = some d := e
    have : ds.getD j .none = d := by rw [List.getD_eq_getElem?_getD, e2]; rfl
    rwa [this] at hd
theorem DW.ixv {i : Nat} {k : Int} {v : V} {ds : List PyData} {d : PyData} {ti : TE} (h : σ[i]? = some (some v)) (hd : Dp K (hid [a, l] H) v (.tuple ds)) (e : atI ds k = some d) (hti : ∀ H (Q : VK), Q (.int k) H → ti σ H Q) : DW K a l c 0 (tOp (rIxT K) (tVar i) ti) σ H (· = d) := fun H1 m g t _ Q q => by
  obtain ⟨p1, xs, rfl, hs1, ha1⟩ := (hd.gx g).tup_inv
  obtain ⟨x, hx, hdx⟩ := at_dp ha1 e
  exact ⟨_, h, hti _ _ ⟨p1, xs, k, x, rfl, rfl, seqTE hid_out hs1, hx, q H1 x d (GX.refl _) t rfl hdx⟩⟩
theorem DW.draw {i : Nat} {lim : Int} {ti : TE} (h : σ[i]? = some (some (.ref a))) (hti : ∀ H (Q : VK), Q (.int lim) H → ti σ H Q) (h1 : 1 ≤ lim) (h2 : lim < 2 ^ 220) : DW K a l c 1 (tCa spDrawW E0 (tCons (tVar i) (tCons ti tNil))) σ H (fun d => ∃ r, d = .int r ∧ 0 ≤ r ∧ r < lim) := fun H1 m g t b Q q =>
  ⟨_, h, hti _ _ ⟨a, l, c, m, lim, rfl, t, by omega, h1, h2, fun H' r e s r1 r2 => q H' _ _ (gx_sbt t e) s ⟨r, rfl, r1, r2⟩ (.int r)⟩⟩
theorem DW.of {i : Nat} (h : σ[i]? = some (some (.ref a))) (x : DWs K a l c s tas σ H Ps) (hl : ∀ ds, Ps ds → 1 ≤ ds.length ∧ ds.length ≤ 1000) : DW K a l c (s + 1) (tCa spOf E0 (tCons (tVar i) (tCons (tLst tas) tNil))) σ H (fun d => ∃ ds, Ps ds ∧ d ∈ ds) := fun H1 m g t b Q q =>
  ⟨_, h, x H1 m g t (by omega) _ fun H2 vs ds g2 t2 p hs => by
    have hl2 := hl ds p
    refine ⟨by rw [hs.length, sizeLine_eq]; omega, fun r hr => ?_⟩
    obtain ⟨ra, rl, rc⟩ := t2.off hr
    refine ⟨a, l, c, r, _, vs, rfl, t2.new hr, by omega, upd_same, ra, rl, by rw [hs.length]; omega, by rw [hs.length]; omega, fun H' y e s' hy => ?_⟩
    obtain ⟨j, hj⟩ := List.mem_iff_getElem?.mp hy
    obtain ⟨d, hd1, hd2⟩ := hs.getV hj
    exact q H' y d ((g2.trans (GX.new hr)).trans (gx_sbt (t2.new hr) e)) (s'.mono (by omega)) ⟨ds, p, List.mem_of_getElem? hd1⟩ (hd2.gx ((GX.new hr).trans (gx_sbt (t2.new hr) e)))⟩
theorem DW.list (x : DW K a l c s te σ H P) (hp : ∀ d, P d → ∃ ds, d = .tuple ds) :
    DW K a l c s (tCB (fun xs H Q => ∃ p ys, xs = [.ref p] ∧ (SqL K H p ys ∨ SqT K H p ys) ∧ ∀ l, H l = none → Q (.ref l) (upd H l (.lst ys))) (tCons te tNil)) σ H (fun d => ∃ ds, d = .list ds ∧ P (.tuple ds)) := fun H1 m g t b Q q =>
  x H1 m g t b _ fun H2 v d g2 t2 p hv => by
    obtain ⟨ds, rfl⟩ := hp d p
    obtain ⟨p1, xs, rfl, hs1, ha1⟩ := hv.tup_inv
    refine ⟨p1, xs, rfl, .inr (seqTE hid_out hs1), fun r hr => q _ _ _ (g2.trans (GX.new hr)) (t2.new hr) ⟨ds, rfl, p⟩ (.lst (.of ?_) (ha1.gx (GX.new hr)))⟩
    obtain ⟨ra, rl, rc⟩ := t2.off hr
    unfold hid
    rw [if_neg (by simp [ra, rl])]
    exact upd_same
theorem rep_dp {H : Hp} {xs : List V} {ds : List PyData} (h : DpAll K H xs ds) : ∀ n : Nat, DpAll K H (List.replicate n xs).flatten (List.replicate n ds).flatten
  | 0 => .nil
  | n + 1 => by rw [List.replicate_succ, List.replicate_succ, List.flatten_cons, List.flatten_cons]; exact h.append (rep_dp h n)
theorem DW.rep {k : Int} (x : DW K a l c s te σ H P) (hp : ∀ d, P d → ∃ ds, d = .tuple ds ∧ ds.length ≤ 1000) (h1 : 2 ≤ k := by decide) (h2 : k ≤ 1000 := by decide) :
    DW K a l c s (tOp (rRepA K) te (tC (.int k))) σ H (fun d => ∃ ds, d = .tuple (List.replicate k.toNat ds).flatten ∧ P (.tuple ds)) := fun H1 m g t b Q q =>
  x H1 m g t b _ fun H2 v d g2 t2 p hv => by
    obtain ⟨ds, rfl, hl⟩ := hp d p
    obtain ⟨p1, xs, rfl, hs1, ha1⟩ := hv.tup_inv
    have hxl := ha1.length
    refine ⟨p1, k, xs, rfl, rfl, seqTE hid_out hs1, h1, h2, by omega, fun e => ?_, fun _ r hr => ?_⟩
    · subst e
      cases ha1
      refine q _ _ _ g2 t2 ⟨[], rfl, p⟩ (.tup (xs := []) hs1 ?_)
      rw [show (List.replicate k.toNat ([] : List PyData)).flatten = [] by simp]
      exact .nil
    · refine q _ _ _ (g2.trans (GX.new hr)) (t2.new hr) ⟨ds, rfl, p⟩ (.tup (seqT_hid (lst_st (t2.new hr)) (.of upd_same)) ?_)
      exact rep_dp (ha1.gx (GX.new hr)) _
theorem DWs.consE {d : PyData} {ds : List PyData} (x : DW K a l c s1 te σ H (· = d)) (y : DWs K a l c s2 tas σ H (· = ds)) : DWs K a l c (s1 + s2) (tCons te tas) σ H (· = d :: ds) := fun H1 m g t b Q q =>
  DWs.cons x y H1 m g t b Q fun H' vs es g2 t2 ⟨d', es', e1, e2, e3⟩ hs => q H' vs es g2 t2 (by rw [e1, e2, e3]) hs
theorem DWs.consC {d : PyData} {ds : List PyData} (x : DW K a l c 0 te σ H (· = d)) (y : DWs K a l c 0 tas σ H (· = ds)) : DWs K a l c 0 (tCons te tas) σ H (· = d :: ds) := DWs.consE x y
theorem DW.neg {i : Int} : DW K a l c 0 (tUn (rU fun i => V.int (-i)) (tC (.int i))) σ H (· = .int (-i)) := fun H1 m _ t _ Q q => ⟨i, rfl, q H1 _ _ (GX.refl _) t rfl (.int (-i))⟩
theorem DW.pick {i : Nat} {ds : List PyData} (h : σ[i]? = some (some (.ref a))) (x : DWs K a l c s tas σ H (· = ds)) (h1 : 1 ≤ ds.length := by exact Nat.le_of_ble_eq_true rfl) (h2 : ds.length ≤ 1000 := by exact Nat.le_of_ble_eq_true rfl) : DW K a l c (s + 1) (tCa spOf E0 (tCons (tVar i) (tCons (tLst tas) tNil))) σ H (· ∈ ds) :=
  (DW.of h x fun es e => by rw [e]; exact ⟨h1, h2⟩).mono fun d ⟨es, e, m⟩ => by rw [← e]; exact m
theorem DW.tupE {ds : List PyData} (x : DWs K a l c s tas σ H (· = ds)) (hl : ds.length ≤ 100000 := by exact Nat.le_of_ble_eq_true rfl) : DW K a l c s (tTup tas) σ H (· = .tuple ds) :=
  (DW.tup x fun es e => by rw [e]; exact hl).mono fun d ⟨es, e, e2⟩ => by rw [e, e2]
theorem DW.listE {ds : List PyData} (x : DW K a l c s te σ H (· = .tuple ds)) :
    DW K a l c s (tCB (fun xs H Q => ∃ p ys, xs = [.ref p] ∧ (SqL K H p ys ∨ SqT K H p ys) ∧ ∀ l, H l = none → Q (.ref l) (upd H l (.lst ys))) (tCons te tNil)) σ H (· = .list ds) :=
  (DW.list x fun d e => ⟨ds, e⟩).mono fun d ⟨es, e, e2⟩ => by rw [e, PyData.tuple.inj e2]
theorem DW.ix {k : Int} {ds : List PyData} {d : PyData} {ti : TE} (x : DW K a l c s te σ H (· = .tuple ds)) (e : atI ds k = some d) (hti : ∀ H (Q : VK), Q (.int k) H → ti σ H Q) : DW K a l c s (tOp (rIxT K) te ti) σ H (· = d) := fun H1 m g t b Q q =>
  x H1 m g t b _ fun H2 v d' g2 t2 p hv => by
    subst p
    obtain ⟨p1, xs, rfl, hs1, ha1⟩ := hv.tup_inv
    obtain ⟨y, hx, hdx⟩ := at_dp ha1 e
    exact hti _ _ ⟨p1, xs, k, y, rfl, rfl, seqTE hid_out hs1, hx, q H2 y d g2 t2 rfl hdx⟩
theorem DW.addk {i k : Int} (x : DW K a l c s te σ H (· = .int i)) : DW K a l c s (tOp (rI0 fun i j => V.int (i + j)) te (tC (.int k))) σ H (· = .int (i + k)) := fun H1 m g t b Q q =>
  x H1 m g t b _ fun H2 v d' g2 t2 p hv => by
    subst p
    obtain rfl := hv.int_inv
    exact ⟨i, k, rfl, rfl, q H2 _ _ g2 t2 rfl (.int _)⟩
theorem DW.drawW {i : Nat} {lim : Int} {ti : TE} (h : σ[i]? = some (some (.ref a))) (x : DW K a l c 0 ti σ H (· = .int lim)) (h1 : 1 ≤ lim) (h2 : lim < 2 ^ 220) : DW K a l c 1 (tCa spDrawW E0 (tCons (tVar i) (tCons ti tNil))) σ H (fun d => ∃ r, d = .int r ∧ 0 ≤ r ∧ r < lim) := fun H1 m g t b Q q =>
  ⟨_, h, x H1 m g t (by omega) _ fun H2 v d g2 t2 p hv => by
    subst p
    obtain rfl := hv.int_inv
    exact ⟨a, l, c, m, lim, rfl, t2, by omega, h1, h2, fun H' r e s r1 r2 => q H' _ _ (g2.trans (gx_sbt t2 e)) s ⟨r, rfl, r1, r2⟩ (.int r)⟩⟩
theorem DW.len {ds : List PyData} (x : DW K a l c s te σ H (· = .tuple ds)) : DW K a l c s (tCB (fun xs H Q => ∃ p ys, xs = [.ref p] ∧ (SqL K H p ys ∨ SqT K H p ys) ∧ Q (.int ys.length) H) (tCons te tNil)) σ H (· = .int ds.length) := fun H1 m g t b Q q =>
  x H1 m g t b _ fun H2 v d g2 t2 p hv => by
    subst p
    obtain ⟨p1, xs, rfl, hs1, ha1⟩ := hv.tup_inv
    exact ⟨p1, xs, rfl, .inr (seqTE hid_out hs1), q H2 _ _ g2 t2 (by rw [ha1.length]) (.int _)⟩
theorem DW.repE {k : Int} {ds : List PyData} (x : DW K a l c s te σ H (· = .tuple ds)) (hl : ds.length ≤ 1000) (h1 : 2 ≤ k := by decide) (h2 : k ≤ 1000 := by decide) :
    DW K a l c s (tOp (rRepA K) te (tC (.int k))) σ H (· = .tuple (List.replicate k.toNat ds).flatten) :=
  (DW.rep x (fun d e => ⟨ds, e, hl⟩) h1 h2).mono fun d ⟨es, e, e2⟩ => by rw [e, PyData.tuple.inj e2]
theorem DW.catE {ds es : List PyData} (x : DW K a l c s1 ta σ H (· = .tuple ds)) (y : DW K a l c s2 tb σ H (· = .tuple es)) (h1 : ds.length ≤ 100000) (h2 : es.length ≤ 100000) :
    DW K a l c (s1 + s2) (tOp (rCatA K) ta tb) σ H (· = .tuple (ds ++ es)) :=
  (DW.cat x y (fun d e => ⟨ds, e, h1⟩) (fun d e => ⟨es, e, h2⟩)).mono fun d ⟨xs, ys, e, e2, e3⟩ => by rw [e, PyData.tuple.inj e2, PyData.tuple.inj e3]
theorem DW.cutE {ds : List PyData} {lo hi : Option Int} {to tu : TO} (x : DW K a l c s te σ H (· = .tuple ds)) (h1 : OW to σ lo) (h2 : OW tu σ hi) :
    DW K a l c s (L2.tSl (rSlA K) te to tu) σ H (· = .tuple (cutD ds lo hi)) := (DW.cut x h1 h2 (fun d e => ⟨_, e⟩)).mono fun d ⟨es, e, e2⟩ => by rw [e, PyData.tuple.inj e2]
theorem DW.repB {k : Int} {ds : List PyData} (x : DW K a l c s1 te σ H (· = .tuple ds)) (y : DW K a l c s2 tb σ H (· = .int k)) (hl : ds.length ≤ 1000) (h1 : 1 ≤ k) (h2 : k ≤ 1000) :
    DW K a l c (s1 + s2) (tOp (rRepB K) te tb) σ H (· = .tuple (List.replicate k.toNat ds).flatten) := fun H1 m g t b Q q =>
  x H1 m g t (by omega) _ fun H2 v d g2 t2 p hv => y H2 _ (g.trans g2) t2 (by omega) _ fun H3 u e g3 t3 r hu => by
    subst p r
    obtain rfl := hu.int_inv
    have hv3 := hv.gx g3
    obtain ⟨p1, xs, rfl, hs1, ha1⟩ := hv3.tup_inv
    have hxl := ha1.length
    refine ⟨p1, k, xs, rfl, rfl, seqTE hid_out hs1, h1, h2, by omega, fun e => ?_, fun _ _ r hr => ?_⟩
    · refine q _ _ _ (g2.trans g3) (t3.mono (by omega)) rfl (.tup (xs := xs) hs1 ?_)
      rcases e with rfl | rfl
      · cases ha1
        rw [show (List.replicate k.toNat ([] : List PyData)).flatten = [] by simp]
        exact .nil
      · rw [show (List.replicate (Int.toNat 1) ds).flatten = ds by simp]
        exact ha1
    · exact q _ _ _ ((g2.trans g3).trans (GX.new hr)) ((t3.new hr).mono (by omega)) rfl (.tup (seqT_hid (lst_st (t3.new hr)) (.of upd_same)) (rep_dp (ha1.gx (GX.new hr)) _))
theorem DW.repL {k : Int} {ds : List PyData} (x : DWs K a l c s1 tas σ H (· = ds)) (y : DW K a l c s2 tb σ H (· = .int k)) (hl : ds.length ≤ 1000) (h1 : 1 ≤ k) (h2 : k ≤ 1000) :
    DW K a l c (s1 + s2) (tOp rRep (tLst tas) tb) σ H (· = .list (List.replicate k.toNat ds).flatten) := fun H1 m g t b Q q =>
  x H1 m g t (by omega) _ fun H2 vs es g2 t2 p hs => by
    subst p
    refine ⟨by rw [hs.length, sizeLine_eq]; omega, fun r hr => y _ _ (g.trans (g2.trans (GX.new hr))) (t2.new hr) (by omega) _ fun H3 u e g3 t3 re hu => ?_⟩
    subst re
    obtain rfl := hu.int_inv
    obtain ⟨ra, rl, rc⟩ := t2.off hr
    have h0 : hid [a, l] (upd H2 r (.lst vs)) r = some (.lst vs) := by
      unfold hid
      rw [if_neg (by simp [ra, rl])]
      exact upd_same
    have h3 : H3 r = some (.lst vs) := hid_out _ _ (g3.1 _ _ h0 (fun ps z => by cases z)) (fun ps z => by cases z)
    have hk : k.toNat ≤ 1000 := by omega
    have hm : vs.length * k.toNat ≤ 1000 * 1000 := Nat.mul_le_mul (by rw [hs.length]; exact hl) hk
    refine ⟨r, k, vs, rfl, rfl, h3, by omega, by omega, by rw [sizeLine_eq]; omega, fun q1 hq1 => q _ _ _ (((g2.trans (GX.new hr)).trans g3).trans (GX.new hq1)) ((t3.new hq1).mono (by omega)) rfl (.lst (.of ?_) (rep_dp (((hs.gx (GX.new hr)).gx g3).gx (GX.new hq1)) _))⟩
    obtain ⟨qa, ql, qc⟩ := t3.off hq1
    unfold hid
    rw [if_neg (by simp [qa, ql])]
    exact upd_same
/-! statements -/
theorem sw_val {i m : Nat} {u : TS} {D : Ends} (x : DW K a l c s te σ H P) (g : LSt H a l c m) (b : m + s ≤ 1000000) (q : ∀ H' v d, GX [a, l] H H' → LSt H' a l c (m + s) → P d → Dp K (hid [a, l] H') v d → u D (σ.set i (some v)) H') : tSeq (tAsg te (gName i)) u D σ H := x H m (GX.refl _) g b _ q
theorem sw_ret {m : Nat} {D : Ends} (x : DW K a l c s te σ H P) (g : LSt H a l c m) (b : m + s ≤ 1000000) (q : ∀ H' v d, GX [a, l] H H' → LSt H' a l c (m + s) → P d → Dp K (hid [a, l] H') v d → D.rt v H') : tRet te D σ H := x H m (GX.refl _) g b _ q
theorem sw_ifk {i : Nat} {k z : Int} {t u : TS} {D : Ends} (h : σ[i]? = some (some (.int z))) (y : z = k → t { D with nx := u D } σ H) (n : z ≠ k → u D σ H) : tSeq (tIfS (tTest (tOp rEq (tVar i) (tC (.int k)))) t tNext) u D σ H := by
  refine ⟨_, h, rfl, _, rfl, ?_⟩
  by_cases e : z = k
  · rw [decide_eq_true (by rw [e])]
    exact iteT (y e)
  · rw [decide_eq_false (fun w => e (V.int.inj w))]
    exact iteF (n e)
theorem sw_ifx {i : Nat} {k z : Int} {Q : VK} (h : σ[i]? = some (some (.int z))) (y : z = k → ta σ H Q) (n : z ≠ k → tb σ H Q) : tIf (tTest (tOp rEq (tVar i) (tC (.int k)))) ta tb σ H Q := by
  refine ⟨_, h, rfl, _, rfl, ?_⟩
  by_cases e : z = k
  · rw [decide_eq_true (by rw [e])]
    exact iteT (y e)
  · rw [decide_eq_false (fun w => e (V.int.inj w))]
    exact iteF (n e)
/-! tuples of small data -/
def TI (k : Nat) (d : PyData) : Prop := ∃ ds, d = .tuple ds ∧ ds.length ≤ k ∧ ∀ x ∈ ds, Sm 40 5 x
def TH (k : Nat) (d : PyData) : Prop := ∃ x ds, d = .tuple (x :: ds) ∧ (match x with | .list _ => false | .tuple _ => false | .dict _ => false | _ => true) = true ∧ ds.length + 1 ≤ k ∧ ∀ y ∈ x :: ds, Sm 40 5 y
theorem TH.ti {k : Nat} {d : PyData} (h : TH k d) : TI k d := let ⟨x, ds, e, _, l, s⟩ := h; ⟨x :: ds, e, l, s⟩
theorem DW.catI {k1 k2 : Nat} (x : DW K a l c s1 ta σ H (TI k1)) (y : DW K a l c s2 tb σ H (TI k2)) (h1 : k1 ≤ 100000 := by decide) (h2 : k2 ≤ 100000 := by decide) : DW K a l c (s1 + s2) (tOp (rCatA K) ta tb) σ H (TI (k1 + k2)) :=
  (DW.cat x y (fun d ⟨ds, e, hl, _⟩ => ⟨ds, e, by omega⟩) (fun d ⟨ds, e, hl, _⟩ => ⟨ds, e, by omega⟩)).mono fun d ⟨ds, es, e, ⟨ds1, e1, l1, s1⟩, ⟨es1, e2, l2, s2⟩⟩ => by
    obtain rfl := PyData.tuple.inj e1
    obtain rfl := PyData.tuple.inj e2
    exact ⟨ds ++ es, e, by rw [List.length_append]; omega, fun z hz => (List.mem_append.mp hz).elim (s1 z) (s2 z)⟩
theorem DW.catH {k1 k2 : Nat} (x : DW K a l c s1 ta σ H (TH k1)) (y : DW K a l c s2 tb σ H (TI k2)) (h1 : k1 ≤ 100000 := by decide) (h2 : k2 ≤ 100000 := by decide) : DW K a l c (s1 + s2) (tOp (rCatA K) ta tb) σ H (TH (k1 + k2)) :=
  (DW.cat x y (fun d h => let ⟨ds, e, hl, _⟩ := h.ti; ⟨ds, e, by omega⟩) (fun d ⟨ds, e, hl, _⟩ => ⟨ds, e, by omega⟩)).mono fun d ⟨ds, es, e, ⟨x, ds1, e1, f, l1, s1⟩, ⟨es1, e2, l2, s2⟩⟩ => by
    obtain rfl := PyData.tuple.inj e1
    obtain rfl := PyData.tuple.inj e2
    exact ⟨x, ds1 ++ es, e, f, by rw [List.length_append]; omega, fun z hz => (List.mem_append.mp (show z ∈ (x :: ds1) ++ es from hz)).elim (s1 z) (s2 z)⟩
theorem DW.tupI {k : Nat} (x : DWs K a l c s tas σ H Ps) (h : ∀ ds, Ps ds → ds.length ≤ k ∧ ∀ x ∈ ds, Sm 40 5 x) (hk : k ≤ 100000 := by decide) : DW K a l c s (tTup tas) σ H (TI k) :=
  (DW.tup x fun ds p => by have := (h ds p).1; omega).mono fun d ⟨ds, e, p⟩ => ⟨ds, e, (h ds p).1, (h ds p).2⟩
theorem DW.tupH {k : Nat} (x : DWs K a l c s tas σ H Ps) (h : ∀ ds, Ps ds → ds.length ≤ k ∧ (∀ x ∈ ds, Sm 40 5 x) ∧ ∃ y ys, ds = y :: ys ∧ (match y with | .list _ => false | .tuple _ => false | .dict _ => false | _ => true) = true) (hk : k ≤ 100000 := by decide) : DW K a l c s (tTup tas) σ H (TH k) :=
  (DW.tup x fun ds p => by have := (h ds p).1; omega).mono fun d ⟨ds, e, p⟩ => by
    obtain ⟨h1, h2, y, ys, rfl, f⟩ := h ds p
    exact ⟨y, ys, e, f, by simpa using h1, h2⟩
end
end Ws
/-! ## Y1 -/
namespace Ws
open PySem PySem.Spec PyProof.Rows L2 RZ
local macro_rules | `(tactic| walk_at "nf") => `(tactic| dsimp only [tNext, tSeq, tDrop, tRet, tRetN, tIfS, tAsg, gName, gTup, gCons, gNil, tVar, tC, tOp, tUn, rI, rI0, rU, rEq, rNe, tTest, tChain, tAnd, tOr, tNot, tAndV, tOrV, tNotV, tIf, tCB, tCKw, tCons, tNil, tTup, tLst, tCa, tCallS, tB, rIxT, rIxL, rIxS, cxOf, Cx.nox, Cx.wish, Cx.blk, L2.start, tPar, tPar3, tNever, tYes, tBits, tRz, tBM, rAppend, tyV, tXf, suiteEnds, gSub, rSetL, tBreak, rMax, tDGet, sDPut, tSl, tNoPart, tPart, tDisp, tPairs, tDGet2, tDNewK])
local macro_rules | `(tactic| walk_at "sx") => `(tactic| simp only [wipe, List.cons.injEq, and_assoc, exists_and_left, and_true, List.map_cons, List.map_nil, List.length_cons, List.length_nil, List.cons_append, List.nil_append, List.append_nil, Nat.reduceAdd, Nat.reduceSub, List.replicate, List.getElem?_cons_zero, List.getElem?_cons_succ, List.set_cons_zero, List.set_cons_succ, Option.some.injEq, V.int.injEq, V.bl.injEq, V.ref.injEq, V.str.injEq, exists_eq_left', exists_eq_left, true_and, Bool.true_eq_false, Bool.false_eq_true, if_true, if_false])

/-! ### wholesay.squares, wholesay.conditions -/
theorem walk_zipT {K : PySem.W.Frag} {a b : Addr} {xs ys : List V} : Walk (ItzT K a b) (min xs.length ys.length) (fun H => SqT K H a xs ∧ SqT K H b ys) (YPair (fun i => xs[i]?) (fun i => ys[i]?)) := by
  refine ⟨fun i _ hi q => ⟨xs, ys, xs[i]'(by omega), ys[i]'(by omega), q.1, q.2, by rw [List.getElem?_eq_getElem], by rw [List.getElem?_eq_getElem]⟩, fun _ q => ⟨xs, ys, q.1, q.2, by omega⟩, fun i H v H' _ q y => ?_⟩
  obtain ⟨T, x, z, h1, h2, h3, h4, h5⟩ := y
  exact ⟨T, x, z, h1, h2, h3, h4 xs q.1, h5 ys q.2⟩
def intsD (xs : List Int) : PyData := .tuple (xs.map PyData.int)
inductive Cd where
  | eq (fs : List Int) (c : Int)
  | ge (fs : List Int) (c : Int)
  | md (m : Int) (fs : List Int) (c : Int)
namespace Cd
def fs : Cd → List Int
  | eq f _ => f
  | ge f _ => f
  | md _ f _ => f
def con : Cd → Int
  | eq _ c => c
  | ge _ c => c
  | md _ _ c => c
def bare : Cd → Cd
  | eq f _ => .eq f 0
  | ge f _ => .ge f 0
  | md m f _ => .md m f 0
def holds : Cd → Int → Bool
  | eq _ _, v => decide (v = 0)
  | ge _ _, v => decide (0 ≤ v)
  | md m _ _, v => decide (v % m = 0)
end Cd
def cdD : Cd → PyData
  | .eq f c => .tuple [.str "eq", intsD f, .int c]
  | .ge f c => .tuple [.str "ge", intsD f, .int c]
  | .md m f c => .tuple [.str "mod", .int m, intsD f, .int c]
def dot : List Int → List Int → Int
  | a :: as, b :: bs => a * b + dot as bs
  | _, _ => 0
def Cd.val (r : Cd) (xs : List Int) : Int := r.con + dot r.fs xs
def heldR (xs : List Int) (r : Cd) : Bool := r.holds (r.val xs)
structure CdOk (n : Nat) (r : Cd) : Prop where
  len : r.fs.length = n
  fs : ∀ f ∈ r.fs, -100 ≤ f ∧ f ≤ 100
  con : -1000 ≤ r.con ∧ r.con ≤ 1000
  md : ∀ m f c, r = .md m f c → 2 ≤ m ∧ m ≤ 1000
def condOk (n : Int) : PyData → Bool
  | .tuple [.str k, f, c] => (decide (k = "eq") || decide (k = "ge")) && isBt c (-1000) 1000 && isTn f n && areB f (-100) 100
  | .tuple [.str k, m, f, c] => decide (k = "mod") && isBt m 2 1000 && isBt c (-1000) 1000 && isTn f n && areB f (-100) 100
  | _ => false
def rowsD (rs : List Cd) : PyData := .tuple (rs.map cdD)
def spWeighed (K : PySem.W.Frag) : Sp := fun vs H Q _ => ∃ (av bv : V) (fs xs : List Int), vs = [av, bv] ∧ Dp K H av (intsD fs) ∧ Dp K H bv (intsD xs) ∧ (∀ f ∈ fs, -(2 ^ 64) < f ∧ f < 2 ^ 64) ∧ fs.length < 100000 ∧ ∀ H', Same H H' → Q (.int (dot fs xs)) H'
def spIsCond (K : PySem.W.Frag) : Sp := fun vs H Q _ => ∃ (v : V) (d : PyData) (n : Int), vs = [v, .int n] ∧ Dp K H v d ∧ n < 100000 ∧ ∀ H', Same H H' → Q (.bl (condOk n d)) H'
def spValueOf (K : PySem.W.Frag) : Sp := fun vs H Q _ => ∃ (rv nv : V) (n : Nat) (r : Cd) (xs : List Int), vs = [rv, nv] ∧ Dp K H rv (cdD r) ∧ CdOk n r ∧ n ≤ 12 ∧ Dp K H nv (intsD xs) ∧ ∀ H', Same H H' → Q (.int (r.val xs)) H'
def spIsHeld (K : PySem.W.Frag) : Sp := fun vs H Q _ => ∃ (rv : V) (n : Nat) (r : Cd) (z : Int), vs = [rv, .int z] ∧ Dp K H rv (cdD r) ∧ CdOk n r ∧ Q (.bl (r.holds z)) H
def spAreHeld (K : PySem.W.Frag) : Sp := fun vs H Q _ => ∃ (rv nv : V) (n : Nat) (rs : List Cd) (xs : List Int), vs = [rv, nv] ∧ Dp K H rv (rowsD rs) ∧ (∀ r ∈ rs, CdOk n r) ∧ n ≤ 12 ∧ rs.length ≤ 1000 ∧ Dp K H nv (intsD xs) ∧ ∀ H', Same H H' → Q (.bl (rs.all (heldR xs))) H'
def spLevel (K : PySem.W.Frag) : Sp := fun vs H Q _ => ∃ (rv : V) (rs : List Cd), vs = [rv] ∧ Dp K H rv (rowsD rs) ∧ rs.length ≤ 1000 ∧ ∀ H' u, Same H H' → Dp K H' u (rowsD (rs.map Cd.bare)) → Q u H'
theorem dot_range : ∀ (fs xs : List Int), ((List.range (min fs.length xs.length)).map fun i => fs.getD i 0 * xs.getD i 0).sum = dot fs xs
  | [], xs => by simp [dot]
  | f :: fs, [] => by simp [dot]
  | f :: fs, x :: xs => by
    rw [List.length_cons, List.length_cons, Nat.succ_min_succ, List.range_succ_eq_map, List.map_cons, List.sum_cons, List.map_map]
    show f * x + _ = f * x + dot fs xs
    rw [← dot_range fs xs]
    rfl
structure Cs1 (mg : Str → Option Value) : Prop where
  MOST_REST : ∃ t, mg "MOST_REST" = some (.int 1000 t)
  MOST_CONST : ∃ t, mg "MOST_CONST" = some (.int 1000 t)
  MOST_WEIGHT : ∃ t, mg "MOST_WEIGHT" = some (.int 100 t)
abbrev s_weighed : Stmt := top 8
abbrev nm_weighed : List Str := ["weights", "row", "weight", "number"]
abbrev pr_weighed : List Str := ["weights", "row"]
theorem sc_weighed : FnScope nm_weighed pr_weighed (defScope s_weighed) := ⟨rfl, rfl, rfl, by decide +kernel, rfl, by decide +kernel, by decide +kernel⟩
abbrev s_is_condition : Stmt := top 13
abbrev nm_is_condition : List Str := ["value", "count", "fits", "factor"]
abbrev pr_is_condition : List Str := ["value", "count"]
theorem sc_is_condition : FnScope nm_is_condition pr_is_condition (defScope s_is_condition) := ⟨rfl, rfl, rfl, by decide +kernel, rfl, by decide +kernel, by decide +kernel⟩
abbrev s_value_of : Stmt := top 14
abbrev nm_value_of : List Str := ["condition", "numbers"]
abbrev pr_value_of : List Str := ["condition", "numbers"]
theorem sc_value_of : FnScope nm_value_of pr_value_of (defScope s_value_of) := ⟨rfl, rfl, rfl, by decide +kernel, rfl, by decide +kernel, by decide +kernel⟩
abbrev s_is_held : Stmt := top 15
abbrev nm_is_held : List Str := ["condition", "value"]
abbrev pr_is_held : List Str := ["condition", "value"]
theorem sc_is_held : FnScope nm_is_held pr_is_held (defScope s_is_held) := ⟨rfl, rfl, rfl, by decide +kernel, rfl, by decide +kernel, by decide +kernel⟩
abbrev s_are_held : Stmt := top 16
abbrev nm_are_held : List Str := ["rows", "numbers", "row"]
abbrev pr_are_held : List Str := ["rows", "numbers"]
theorem sc_are_held : FnScope nm_are_held pr_are_held (defScope s_are_held) := ⟨rfl, rfl, rfl, by decide +kernel, rfl, by decide +kernel, by decide +kernel⟩
abbrev s_level_rows : Stmt := top 17
abbrev nm_level_rows : List Str := ["rows", "row"]
abbrev pr_level_rows : List Str := ["rows"]
theorem sc_level_rows : FnScope nm_level_rows pr_level_rows (defScope s_level_rows) := ⟨rfl, rfl, rfl, by decide +kernel, rfl, by decide +kernel, by decide +kernel⟩
section
variable {P : Program} {w : World} {K : PySem.W.Frag} {mg : Str → Option Value} {base : Heap}
theorem ok_weighed (B : Bl mg) (D : Dt K mg "weighed" s_weighed pr_weighed) : Df P w K mg base CX0 1 "weighed" pr_weighed (spWeighed K) := by
  refine D.ok sc_weighed (fun vs H Q E h => ?_) (fun f cdv A outer s H vs Q E hr h => ?_)
  · obtain ⟨av, bv, fs, xs, rfl, _⟩ := h
    rfl
  · obtain ⟨av, bv, fs, xs, rfl, ha, hb, hf, hz, k⟩ := h
    obtain ⟨p, rfl, hp⟩ := ha.ints_tup
    obtain ⟨q, rfl, hq⟩ := hb.ints_tup
    refine ⟨_, (pss_one (ps_ret (pe_callB (cr_sum rfl) (by rfl) B.sum boot_sum (pa_cons (pe_lc (own := [("weight", 2), ("number", 3)]) (g := gTup K 2 (gCons (gName 2) (gCons (gName 3) gNil))) (tt := tYes) (by rfl) sc_weighed.nd (pi_zipA (by rfl) B.zip (pa_cons (pv 0) (pa_cons (pv 1) pa_nil))) (blkOk_by (own := [("weight", 2), ("number", 3)]) (N := nm_weighed) (sc := defScope s_weighed) (by decide +kernel)) (fun _ _ _ _ _ => pg_tup rfl (pgs_cons (pg_name (i := 2) sc_weighed.nd rfl (Or.inl rfl)) (pgs_cons (pg_name (i := 3) sc_weighed.nd rfl (Or.inl rfl)) pgs_nil))) (fun _ _ _ _ _ => pts_nil) (fun _ _ _ _ _ => (pe_op op_mul (pv 2) (pv 3)))) pa_nil)))), ?_⟩
    walk_at "nf"
    walk_at "sx"
    refine ⟨_, rfl, _, rfl, p, q, _, _, rfl, .inr ⟨hp, hq, fun D hD => lcS walk_zipT hD (by simp only [List.length_map]; exact slt (by omega)) (fun i y => y = .int (fs.getD i 0 * xs.getD i 0)) (fun H1 e => ⟨e.seqT hp, e.seqT hq⟩) (fun i x H1 H2 Q1 hi e y q1 => ?_) (fun H1 ys e hD1 hn hr => ?_)⟩⟩
    · obtain ⟨T, x1, x2, rfl, hT, rfl, h1, h2⟩ := y
      simp only [List.length_map] at hi
      have i1 : i < fs.length := by omega
      have i2 : i < xs.length := by omega
      have f1 : x1 = V.int (fs.getD i 0) := by
        have : (fs.map V.int)[i]? = some (V.int (fs.getD i 0)) := by simp [i1]
        exact Option.some.inj (h1.symm.trans this)
      have f2 : x2 = V.int (xs.getD i 0) := by
        have : (xs.map V.int)[i]? = some (V.int (xs.getD i 0)) := by simp [i2]
        exact Option.some.inj (h2.symm.trans this)
      subst f1 f2
      obtain ⟨b1, b2⟩ := hf (fs.getD i 0) (by simp [i1])
      walk_at "nf"
      refine ⟨T, _, rfl, .of upd_same, rfl, ?_⟩
      walk_at "sx"
      exact ⟨.inl ⟨b1, b2⟩, q1 _ _ rfl (Same.new hT)⟩
    · have ev := vals_int (f := fun i => fs.getD i 0 * xs.getD i 0) hn hr
      simp only [List.length_map] at ev
      refine ⟨D, _, rfl, .of (by rw [hD1, ev]), ?_⟩
      rw [dot_range]
      exact k _ e
def isS : PyData → Bool
  | .str _ => true
  | _ => false
theorem kit_str : ∀ d : PyData, PySem.W.kitOne K (.type (tyName d)) (.type "str") = some (isS d)
  | .none => kit_ty (by decide +kernel)
  | .bool _ => kit_ty (by show kitB "bool" "str" = some false; decide +kernel)
  | .int _ => kit_ty (by show kitB "int" "str" = some false; decide +kernel)
  | .str _ => kit_ty (by show kitB "str" "str" = some true; decide +kernel)
  | .list _ => kit_ty (by show kitB "list" "str" = some false; decide +kernel)
  | .tuple _ => kit_ty (by show kitB "tuple" "str" = some false; decide +kernel)
  | .dict _ => kit_ty (by show kitB "dict" "str" = some false; decide +kernel)
theorem isi_str {H : Hp} {v : V} {d : PyData} {Q : VK} (h : Dp K H v d) (q : Q (.bl (isS d)) H) : rIsi K [v, .ty "str"] H Q := ⟨v, _, _, _, _, rfl, .ty _, dp_ty h, kit_str d, q⟩
theorem cond_tail {Q : VK} {H : Hp} {p a : Addr} {xs zs : List V} {fs : List PyData} {n : V} {b : Option V} (hs : SqT K H p xs) (hat : atI xs (-2) = some (.ref a)) (hz : SqT K H a zs) (hf : DpAll K H zs fs) (hl : fs.length < 100000) (k : ∀ H', Same H H' → Q (.bl (areB (.tuple fs) (-100) 100)) H') :
    tLc (iTup K (tOp (rIxT K) (tVar 0) (tUn (rU fun i => V.int (-i)) (tC (V.int 2))))) (gName 3) tYes (tCa (spIsBetween K) E0 (tCons (tVar 3) (tCons (tUn (rU fun i => V.int (-i)) (tC (V.int 100))) (tCons (tC (V.int 100)) tNil)))) [3] [some (.ref p), some n, b, none] H fun x H1 => rAll K [x] H1 Q := by
  have hlz := hf.length
  refine ⟨_, rfl, 2, rfl, p, _, -2, _, rfl, rfl, hs, hat, a, rfl, ⟨_, hz⟩, fun L hL => lcS (walk_tup (K := K) (a := a) (xs := zs)) hL (by rw [hlz]; exact slt hl) (fun i y => y = V.bl (isBt (fs.getD i .none) (-100) 100)) (fun H1 e => Same.seqT e hz) (fun i x H1 H2 Q1 hi1 e y q => ?_) (fun H1 ys e hy hn hr => ?_)⟩
  · obtain ⟨rfl, hx⟩ := y
    obtain ⟨d, hd1, hd2⟩ := hf.getV hx
    walk_at "nf"
    walk_at "sx"
    refine ⟨x, d, -100, 100, rfl, hd2.to e, ?_⟩
    exact q _ _ (by simp [hd1]) (Same.refl _)
  · refine ⟨_, _, rfl, .of (by rw [hy]; exact congrArg (fun z => some (HO.lst z)) (vals_bl hn hr)), ?_⟩
    have e2 : (((List.range zs.length).map fun i => isBt (fs.getD i .none) (-100) 100).all id) = areB (.tuple fs) (-100) 100 := by
      rw [hlz]
      simp only [areB, List.all_map]
      rw [Bool.eq_iff_iff]
      simp only [List.all_eq_true, List.mem_range, Function.comp, id]
      constructor
      · intro h x hx
        obtain ⟨i, hi, rfl⟩ := List.mem_iff_getElem.mp hx
        have := h i hi
        simpa [hi] using this
      · intro h i hi
        have := h (fs.getD i .none) (by simp [hi])
        exact this
    rw [e2]
    exact k _ e
theorem beq_dec {a s : Str} : (a == s) = decide (s = a) := by
  by_cases h : s = a
  · subst h
    simp
  · rw [decide_eq_false h]
    exact beq_false_of_ne (Ne.symm h)
theorem in2 {s a b : Str} : inV (.str s) [.str a, .str b] = (decide (s = a) || decide (s = b)) := by
  simp only [inV, eqV, List.any_cons, List.any_nil, Bool.or_false, beq_dec]
theorem ms_eg : ¬(("mod" : Str) = "eq") ∧ ¬(("mod" : Str) = "ge") := by decide +kernel
theorem at0 {x : V} {xs : List V} : atI (x :: xs) 0 = some x := atI_nat (j := 0) rfl
theorem tn_tup {d : PyData} {n : Int} (h : isTn d n = true) : ∃ ds, d = .tuple ds ∧ (ds.length : Int) = n := isTn_tup h
theorem ok_is_condition (B : Bl mg) (C : Cs1 mg) (F1 : Df P w K mg base CX0 2 "is_between" pr_is_between (spIsBetween K)) (F2 : Df P w K mg base CX0 1 "is_tuple_of" pr_is_tuple_of (spIsTupleOf K)) (D : Dt K mg "is_condition" s_is_condition pr_is_condition) : Df P w K mg base CX0 3 "is_condition" pr_is_condition (spIsCond K) := by
  refine D.ok sc_is_condition (fun vs H Q E h => ?_) (fun f cdv A outer s H vs Q E hr h => ?_)
  · obtain ⟨v, d, n, rfl, _⟩ := h
    rfl
  · obtain ⟨v, d, n, rfl, hd, hn, k⟩ := h
    refine ⟨_, (pss_cons (ps_if (PW.pt (pw_or (pt_not (pt_val (pe_callB call_isi (by rfl) B.isinstance boot_isinstance (pa_cons (pv 0) (pa_cons (pe_bltn (v := .ty "tuple") (by rfl) B.tuple PyProof.Rows.boot_tuple rfl) pa_nil))))) (pw_or (pt_not (pt_truth (pv 0) (by intro _; rfl))) (pw_or1 (pt_not (pt_val (pe_callB call_isi (by rfl) B.isinstance boot_isinstance (pa_cons (pe_ix ix_tup (pv 0) pe_int (fun _ _ => rfl)) (pa_cons (pe_bltn (v := .ty "str") (by rfl) B.str PyProof.Rows.boot_str rfl) pa_nil))))))))) (pss_one (ps_ret pe_bl)) pss_nil) (pss_cons (ps_if (pt_cmpR op_eq (pe_ix ix_tup (pv 0) pe_int (fun _ _ => rfl)) pe_str (nomark _)) (pss_one (ps_set (i := 2) sc_is_condition.nd rfl (Or.inl rfl) (pe_and (pe_cmpR op_eq (pe_callB call_len_seq (by rfl) B.len PySem.boot_len (pa_cons (pv 0) pa_nil)) pe_int (nomark _)) (pe_one (pe_f F1 (hr.mono (by decide)) pass0 (pa_cons (pe_ix ix_tup (pv 0) pe_int (fun _ _ => rfl)) (pa_cons pe_int (pa_cons (pe_glob (v := .int 1000) rfl C.MOST_REST.choose_spec ⟨_, rfl⟩) pa_nil)))))))) (pss_one (ps_set (i := 2) sc_is_condition.nd rfl (Or.inl rfl) (pe_and (pe_cmpR op_in_seq (pe_ix ix_tup (pv 0) pe_int (fun _ _ => rfl)) (pe_tup (pa_cons pe_str (pa_cons pe_str pa_nil))) (by rfl)) (pe_one (pe_cmpR op_eq (pe_callB call_len_seq (by rfl) B.len PySem.boot_len (pa_cons (pv 0) pa_nil)) pe_int (nomark _))))))) (pss_cons (ps_if (PW.pt (pw_or (pt_not (pt_val (pv 2))) (pw_or (pt_not (pt_val (pe_f F1 (hr.mono (by decide)) pass0 (pa_cons (pe_ix ix_tup (pv 0) (pe_un un_neg pe_int) (fun _ _ => rfl)) (pa_cons (pe_un un_neg (pe_glob (v := .int 1000) rfl C.MOST_CONST.choose_spec ⟨_, rfl⟩)) (pa_cons (pe_glob (v := .int 1000) rfl C.MOST_CONST.choose_spec ⟨_, rfl⟩) pa_nil)))))) (pw_or1 (pt_not (pt_val (pe_f F2 (hr.mono (by decide)) pass0 (pa_cons (pe_ix ix_tup (pv 0) (pe_un un_neg pe_int) (fun _ _ => rfl)) (pa_cons (pv 1) pa_nil))))))))) (pss_one (ps_ret pe_bl)) pss_nil) (pss_one (ps_ret (pe_callB (cr_all rfl) (by rfl) B.all boot_all (pa_cons (pe_lc (own := [("factor", 3)]) (g := gName 3) (tt := tYes) (by rfl) sc_is_condition.nd (pi_tup (pe_ix ix_tup (pv 0) (pe_un un_neg pe_int) (fun _ _ => rfl))) (blkOk_by (own := [("factor", 3)]) (N := nm_is_condition) (sc := defScope s_is_condition) (by decide +kernel)) (fun _ _ _ _ _ => pg_name (i := 3) sc_is_condition.nd rfl (Or.inl rfl)) (fun _ _ _ _ _ => pts_nil) (fun _ _ _ _ _ => (pe_f F1 (hr.mono (by decide)) pass0 (pa_cons (pv 3) (pa_cons (pe_un un_neg (pe_glob (v := .int 100) rfl C.MOST_WEIGHT.choose_spec ⟨_, rfl⟩)) (pa_cons (pe_glob (v := .int 100) rfl C.MOST_WEIGHT.choose_spec ⟨_, rfl⟩) pa_nil)))))) pa_nil))))))), ?_⟩
    walk_at "nf"
    walk_at "sx"
    have no : (condOk n d = false) → Q (.bl false) H := fun e => by
      have := k H (Same.refl _)
      rwa [e] at this
    refine isi_tuple hd ⟨_, rfl, ?_⟩
    cases hd with
    | tup hs ha =>
      rename_i p xs ds
      refine iteF ?_
      cases ha with
      | nil => exact ⟨_, .inr (.inl ⟨_, hs, rfl⟩), iteT (no rfl)⟩
      | cons hx hr =>
        rename_i x0 xr d0 dr
        refine ⟨_, .inr (.inl ⟨_, hs, rfl⟩), iteF ⟨p, rfl, _, hs, x0, at0, isi_str hx ⟨_, rfl, ?_⟩⟩⟩
        have lr := hr.length
        cases hx with
        | str s =>
          refine iteF ⟨p, rfl, _, hs, _, at0, rfl, ?_⟩
          by_cases c : s = "mod"
          · subst c
            refine iteT ⟨p, rfl, _, .inr hs, rfl, ?_⟩
            by_cases c4 : dr.length = 3
            · match dr, c4 with
              | [dm, df, dc], _ =>
              obtain ⟨m, f, c, rfl, hm, hf, hc⟩ := hr.three
              refine iteT ⟨p, rfl, _, hs, _, rfl, m, dm, 2, 1000, rfl, hm, _, rfl, ?_⟩
              cases e1 : isBt dm 2 1000 with
              | false => exact iteT (no (by simp [condOk, e1]))
              | true =>
                refine iteF ⟨p, rfl, _, hs, _, rfl, c, dc, -1000, 1000, rfl, hc, _, rfl, ?_⟩
                cases e2 : isBt dc (-1000) 1000 with
                | false => exact iteT (no (by simp [condOk, e1, e2]))
                | true =>
                  refine iteF ⟨p, rfl, _, hs, _, rfl, f, df, n, rfl, hf, _, rfl, ?_⟩
                  cases e3 : isTn df n with
                  | false => exact iteT (no (by simp [condOk, e1, e2, e3]))
                  | true =>
                    refine iteF ?_
                    obtain ⟨fs, rfl, hfl⟩ := isTn_tup e3
                    obtain ⟨a, zs, rfl, hz, hza⟩ := hf.tup_inv
                    refine cond_tail hs rfl hz hza (by omega) fun H' e => ?_
                    have := k H' e
                    simp only [condOk, e1, e2, e3, Bool.and_true, decide_true, Bool.true_and] at this
                    exact this
            · rw [decide_eq_false (by simp only [List.length_cons, lr]; omega)]
              refine iteF (iteT (no ?_))
              match dr, c4 with
              | [], _ => rfl
              | [_], _ => rfl
              | [_, _], _ => simp [condOk, ms_eg.1, ms_eg.2]
              | [_, _, _], h => exact absurd rfl h
              | _ :: _ :: _ :: _ :: _, _ => rfl
          · rw [decide_eq_false (fun z => c (V.str.inj z))]
            refine iteF ⟨p, rfl, _, hs, _, at0, by decide, fun t ht => ⟨t, _, rfl, .inr (.of upd_same), rfl, rfl, _, rfl, ?_⟩⟩
            have ei : (if false = true then !inV (V.str s) [V.str "eq", V.str "ge"] else inV (V.str s) [V.str "eq", V.str "ge"]) = (decide (s = "eq") || decide (s = "ge")) := in2
            rw [ei]
            have s1 : Same H (upd H t (.tup [V.str (Str.ofString "eq"), V.str (Str.ofString "ge")])) := Same.new ht
            have no2 : condOk n (PyData.tuple (PyData.str s :: dr)) = false → Q (V.bl false) (upd H t (.tup [V.str (Str.ofString "eq"), V.str (Str.ofString "ge")])) := fun e => by
              have := k _ s1
              rwa [e] at this
            cases cc : (decide (s = "eq") || decide (s = "ge")) with
            | false =>
              refine iteF (iteT (no2 ?_))
              match dr with
              | [] => rfl
              | [_] => rfl
              | [_, _] => simp only [condOk, cc, Bool.false_and]
              | [_, _, _] => simp [condOk, c]
              | _ :: _ :: _ :: _ :: _ => rfl
            | true =>
              refine iteT ⟨p, rfl, _, .inr (s1.seqT hs), rfl, ?_⟩
              by_cases c4 : dr.length = 2
              · match dr, c4 with
                | [df, dc], _ =>
                obtain ⟨f, c, rfl, hf, hc⟩ := (hr.to s1).two
                refine iteF ⟨p, rfl, _, s1.seqT hs, _, rfl, c, dc, -1000, 1000, rfl, hc, _, rfl, ?_⟩
                cases e2 : isBt dc (-1000) 1000 with
                | false => exact iteT (no2 (by simp [condOk, e2]))
                | true =>
                  refine iteF ⟨p, rfl, _, s1.seqT hs, _, rfl, f, df, n, rfl, hf, _, rfl, ?_⟩
                  cases e3 : isTn df n with
                  | false => exact iteT (no2 (by simp [condOk, e2, e3]))
                  | true =>
                    refine iteF ?_
                    obtain ⟨fs, rfl, hfl⟩ := isTn_tup e3
                    obtain ⟨a, zs, rfl, hz, hza⟩ := hf.tup_inv
                    refine cond_tail (s1.seqT hs) rfl hz hza (by omega) fun H' e => ?_
                    have := k H' (s1.trans e)
                    simp only [condOk, cc, e2, e3, Bool.and_true, Bool.true_and] at this
                    exact this
              · rw [decide_eq_false (by simp only [List.length_cons, lr]; omega)]
                refine iteT (no2 ?_)
                match dr, c4 with
                | [], _ => rfl
                | [_], _ => rfl
                | [_, _], h => exact absurd rfl h
                | [_, _, _], _ => simp [condOk, c]
                | _ :: _ :: _ :: _ :: _, _ => rfl
        | _ => exact iteT (no (by simp [condOk]))
    | _ => exact iteT (no rfl)
end
end Ws
/-! ## Y2 -/
namespace Ws
open PySem PySem.Spec PyProof.Rows L2 RZ
local macro_rules | `(tactic| walk_at "nf") => `(tactic| dsimp only [tNext, tSeq, tDrop, tRet, tRetN, tIfS, tAsg, gName, gTup, gCons, gNil, tVar, tC, tOp, tUn, rI, rI0, rU, rEq, rNe, tTest, tChain, tAnd, tOr, tNot, tAndV, tOrV, tNotV, tIf, tCB, tCKw, tCons, tNil, tTup, tLst, tCa, tCallS, tB, rIxT, rIxL, rIxS, cxOf, Cx.nox, Cx.wish, Cx.blk, L2.start, tPar, tPar3, tNever, tYes, tBits, tRz, tBM, rAppend, tyV, tXf, suiteEnds, gSub, rSetL, tBreak, rMax, tDGet, sDPut, tSl, tNoPart, tPart, tDisp, tPairs, tDGet2, tDNewK])
local macro_rules | `(tactic| walk_at "sx") => `(tactic| simp only [wipe, List.cons.injEq, and_assoc, exists_and_left, and_true, List.map_cons, List.map_nil, List.length_cons, List.length_nil, List.cons_append, List.nil_append, List.append_nil, Nat.reduceAdd, Nat.reduceSub, List.replicate, List.getElem?_cons_zero, List.getElem?_cons_succ, List.set_cons_zero, List.set_cons_succ, Option.some.injEq, V.int.injEq, V.bl.injEq, V.ref.injEq, V.str.injEq, exists_eq_left', exists_eq_left, true_and, Bool.true_eq_false, Bool.false_eq_true, if_true, if_false])

/-! ### conditions worked -/
def Cd.kd : Cd → Str
  | .eq _ _ => "eq"
  | .ge _ _ => "ge"
  | .md _ _ _ => "mod"
structure CdV (K : PySem.W.Frag) (H : Hp) (r : Cd) (p : Addr) (xs : List V) (a : Addr) : Prop where
  seq : SqT K H p xs
  last : atI xs (-1) = some (.int r.con)
  prev : atI xs (-2) = some (.ref a)
  fs : Dp K H (.ref a) (intsD r.fs)
  kind : atI xs 0 = some (.str r.kd)
  md : ∀ m f c, r = .md m f c → atI xs 1 = some (.int m)
  cut : ∃ ys, cutV xs none (some (-1)) = ys ∧ xs = ys ++ [.int r.con] ∧ ∃ ds, DpAll K H ys ds ∧ cdD r = .tuple (ds ++ [.int r.con]) ∧ cdD r.bare = .tuple (ds ++ [.int 0])
theorem cd_v {K : PySem.W.Frag} {H : Hp} {v : V} {r : Cd} (h : Dp K H v (cdD r)) : ∃ p xs a, v = .ref p ∧ CdV K H r p xs a := by
  cases r with
  | eq f c =>
    obtain ⟨p, xs, rfl, hs, ha⟩ := h.tup_inv
    obtain ⟨x, y, z, rfl, h1, h2, h3⟩ := ha.three
    obtain ⟨a, rfl, _⟩ := h2.ints_tup
    cases h1
    cases h3
    exact ⟨p, _, a, rfl, hs, rfl, rfl, h2, rfl, (fun _ _ _ z => by cases z), ⟨_, rfl, rfl, _, .cons (.str _) (.cons h2 .nil), rfl, rfl⟩⟩
  | ge f c =>
    obtain ⟨p, xs, rfl, hs, ha⟩ := h.tup_inv
    obtain ⟨x, y, z, rfl, h1, h2, h3⟩ := ha.three
    obtain ⟨a, rfl, _⟩ := h2.ints_tup
    cases h1
    cases h3
    exact ⟨p, _, a, rfl, hs, rfl, rfl, h2, rfl, (fun _ _ _ z => by cases z), ⟨_, rfl, rfl, _, .cons (.str _) (.cons h2 .nil), rfl, rfl⟩⟩
  | md m f c =>
    obtain ⟨p, xs, rfl, hs, ha⟩ := h.tup_inv
    cases ha with
    | cons h0 ha =>
      obtain ⟨x, y, z, rfl, h1, h2, h3⟩ := ha.three
      obtain ⟨a, rfl, _⟩ := h2.ints_tup
      cases h0
      cases h1
      cases h3
      exact ⟨p, _, a, rfl, hs, rfl, rfl, h2, rfl, (fun _ _ _ z => by cases z; rfl), ⟨_, rfl, rfl, _, .cons (.str _) (.cons (.int _) (.cons h2 .nil)), rfl, rfl⟩⟩
theorem noList_ints (xs : List Int) : noList (intsD xs) = true := noListAll_of fun x hx => by
  obtain ⟨i, _, rfl⟩ := List.mem_map.mp hx
  rfl
theorem noList_cd : ∀ r : Cd, noList (cdD r) = true
  | .eq f c => by show (true && (noList (intsD f) && (true && true))) = true; rw [noList_ints]; rfl
  | .ge f c => by show (true && (noList (intsD f) && (true && true))) = true; rw [noList_ints]; rfl
  | .md m f c => by show (true && (true && (noList (intsD f) && (true && true)))) = true; rw [noList_ints]; rfl
theorem ks_ge : ¬(("eq" : Str) = "ge") ∧ ¬(("mod" : Str) = "ge") ∧ ¬(("mod" : Str) = "eq") := by decide +kernel
theorem rows_v {K : PySem.W.Frag} {H : Hp} {v : V} {rs : List Cd} (h : Dp K H v (rowsD rs)) : ∃ p zs, v = .ref p ∧ SqT K H p zs ∧ zs.length = rs.length ∧ ∀ i x, zs[i]? = some x → Dp K H x (cdD (rs.getD i (.eq [] 0))) := by
  obtain ⟨p, zs, rfl, hs, ha⟩ := h.tup_inv
  have hl := ha.length
  rw [List.length_map] at hl
  refine ⟨p, zs, rfl, hs, hl, fun i x hx => ?_⟩
  have hi : i < rs.length := by rw [← hl]; exact (List.getElem?_eq_some_iff.mp hx).1
  obtain ⟨d, hd1, hd2⟩ := ha.getV hx
  have : d = cdD (rs.getD i (.eq [] 0)) := by
    rw [List.getElem?_map] at hd1
    simp [hi] at hd1 ⊢
    exact hd1.symm
  rw [← this]
  exact hd2
section
variable {P : Program} {w : World} {K : PySem.W.Frag} {mg : Str → Option Value} {base : Heap}
theorem ok_value_of (F1 : Df P w K mg base CX0 1 "weighed" pr_weighed (spWeighed K)) (D : Dt K mg "value_of" s_value_of pr_value_of) : Df P w K mg base CX0 2 "value_of" pr_value_of (spValueOf K) := by
  refine D.ok sc_value_of (fun vs H Q E h => ?_) (fun f cdv A outer s H vs Q E hr h => ?_)
  · obtain ⟨rv, nv, n, r, xs, rfl, _⟩ := h
    rfl
  · obtain ⟨rv, nv, n, r, xs, rfl, hd, ok, hn, hx, k⟩ := h
    obtain ⟨p, ys, a, rfl, c⟩ := cd_v hd
    refine ⟨_, (pss_one (ps_ret (pe_op op_add (pe_ix ix_tup (pv 0) (pe_un un_neg pe_int) (fun _ _ => rfl)) (pe_f F1 (hr.mono (by decide)) pass0 (pa_cons (pe_ix ix_tup (pv 0) (pe_un un_neg pe_int) (fun _ _ => rfl)) (pa_cons (pv 1) pa_nil)))))), ?_⟩
    walk_at "nf"
    walk_at "sx"
    refine ⟨_, c.seq, _, c.last, _, c.seq, _, c.prev, _, nv, r.fs, xs, rfl, c.fs, hx, fun f hf => ?_, by rw [ok.len]; omega, fun H' e => ⟨_, rfl, _, rfl, k H' e⟩⟩
    have := ok.fs f hf
    omega
theorem ok_is_held (D : Dt K mg "is_held" s_is_held pr_is_held) : Df P w K mg base CX0 1 "is_held" pr_is_held (spIsHeld K) := by
  refine D.ok sc_is_held (fun vs H Q E h => ?_) (fun f cdv A outer s H vs Q E hr h => ?_)
  · obtain ⟨rv, n, r, z, rfl, _⟩ := h
    rfl
  · obtain ⟨rv, n, r, z, rfl, hd, ok, k⟩ := h
    obtain ⟨p, ys, a, rfl, c⟩ := cd_v hd
    refine ⟨_, (pss_cons (ps_if (pt_cmpR op_eq (pe_ix ix_tup (pv 0) pe_int (fun _ _ => rfl)) pe_str (nomark _)) (pss_one (ps_ret (pe_cmpR op_ge (pv 1) pe_int (nomark _)))) pss_nil) (pss_one (ps_ret (pe_ifExp (pt_cmpR op_eq (pe_ix ix_tup (pv 0) pe_int (fun _ _ => rfl)) pe_str (nomark _)) (pe_cmpR op_eq (pv 1) pe_int (nomark _)) (pe_cmpR op_eq (pe_op op_mod (pv 1) (pe_ix ix_tup (pv 0) pe_int (fun _ _ => rfl))) pe_int (nomark _)))))), ?_⟩
    walk_at "nf"
    walk_at "sx"
    cases r with
    | ge f0 c0 =>
      have k0 : atI ys 0 = some (.str "ge") := c.kind
      exact ⟨_, c.seq, _, k0, rfl, iteT k⟩
    | eq f0 c0 =>
      have k0 : atI ys 0 = some (.str "eq") := c.kind
      refine ⟨_, c.seq, _, k0, rfl, ?_⟩
      rw [decide_eq_false (fun z => ks_ge.1 (V.str.inj z))]
      exact iteF ⟨_, c.seq, _, k0, rfl, iteT ⟨rfl, k⟩⟩
    | md m f0 c0 =>
      have k0 : atI ys 0 = some (.str "mod") := c.kind
      refine ⟨_, c.seq, _, k0, rfl, ?_⟩
      rw [decide_eq_false (fun z => ks_ge.2.1 (V.str.inj z))]
      refine iteF ⟨_, c.seq, _, k0, rfl, ?_⟩
      rw [decide_eq_false (fun z => ks_ge.2.2 (V.str.inj z))]
      have hm := ok.md m f0 c0 rfl
      exact iteF ⟨_, c.seq, _, c.md m f0 c0 rfl, _, rfl, by omega, rfl, k⟩
theorem ok_are_held (B : Bl mg) (F1 : Df P w K mg base CX0 1 "is_held" pr_is_held (spIsHeld K)) (F2 : Df P w K mg base CX0 2 "value_of" pr_value_of (spValueOf K)) (D : Dt K mg "are_held" s_are_held pr_are_held) : Df P w K mg base CX0 3 "are_held" pr_are_held (spAreHeld K) := by
  refine D.ok sc_are_held (fun vs H Q E h => ?_) (fun f cdv A outer s H vs Q E hr h => ?_)
  · obtain ⟨rv, nv, n, rs, xs, rfl, _⟩ := h
    rfl
  · obtain ⟨rv, nv, n, rs, xs, rfl, hd, ok, hn, hz, hx, k⟩ := h
    obtain ⟨p, zs, rfl, hs, hl, hat⟩ := rows_v hd
    refine ⟨_, (pss_one (ps_ret (pe_callB (cr_all rfl) (by rfl) B.all boot_all (pa_cons (pe_lc (own := [("row", 2)]) (g := gName 2) (tt := tYes) (by rfl) sc_are_held.nd (pi_tup (pv 0)) (blkOk_by (own := [("row", 2)]) (N := nm_are_held) (sc := defScope s_are_held) (by decide +kernel)) (fun _ _ _ _ _ => pg_name (i := 2) sc_are_held.nd rfl (Or.inl rfl)) (fun _ _ _ _ _ => pts_nil) (fun _ _ _ _ _ => (pe_f F1 (hr.mono (by decide)) pass0 (pa_cons (pv 2) (pa_cons (pe_f F2 (hr.mono (by decide)) pass0 (pa_cons (pv 2) (pa_cons (pv 1) pa_nil))) pa_nil))))) pa_nil)))), ?_⟩
    walk_at "nf"
    walk_at "sx"
    refine ⟨_, rfl, p, rfl, ⟨_, hs⟩, fun L hL => lcS (walk_tup (K := K) (a := p) (xs := zs)) hL (by rw [hl]; exact slt (by omega)) (fun i y => y = V.bl (heldR xs (rs.getD i (.eq [] 0)))) (fun H1 e => Same.seqT e hs) (fun i x H1 H2 Q1 hi1 e y q => ?_) (fun H1 ys e hy hn hr => ?_)⟩
    · obtain ⟨rfl, hx1⟩ := y
      have hd2 := (hat i x hx1).to e
      have hi : i < rs.length := by rw [← hl]; exact hi1
      have o := ok (rs.getD i (.eq [] 0)) (by simp [hi])
      walk_at "nf"
      walk_at "sx"
      exact ⟨x, nv, n, _, xs, rfl, hd2, o, hn, hx.to e, fun H4 e4 => ⟨x, n, _, _, rfl, hd2.to e4, o, q _ _ rfl e4⟩⟩
    · refine ⟨_, _, rfl, .of (by rw [hy]; exact congrArg (fun z => some (HO.lst z)) (vals_bl hn hr)), ?_⟩
      have e2 : (((List.range zs.length).map fun i => heldR xs (rs.getD i (.eq [] 0))).all id) = rs.all (heldR xs) := by
        rw [hl, Bool.eq_iff_iff]
        simp only [List.all_map, List.all_eq_true, List.mem_range, Function.comp, id]
        constructor
        · intro h x hx
          obtain ⟨i, hi, rfl⟩ := List.mem_iff_getElem.mp hx
          have := h i hi
          simpa [hi] using this
        · intro h i hi
          have := h rs[i] (List.getElem_mem hi)
          simpa [hi] using this
      rw [e2]
      exact k _ e
theorem ok_level (B : Bl mg) (D : Dt K mg "level_rows" s_level_rows pr_level_rows) : Df P w K mg base CX0 1 "level_rows" pr_level_rows (spLevel K) := by
  refine D.ok sc_level_rows (fun vs H Q E h => ?_) (fun f cdv A outer s H vs Q E hr h => ?_)
  · obtain ⟨rv, rs, rfl, _⟩ := h
    rfl
  · obtain ⟨rv, rs, rfl, hd, hz, k⟩ := h
    obtain ⟨p, zs, rfl, hs, hl, hat⟩ := rows_v hd
    refine ⟨_, (pss_one (ps_ret (pe_callTy call_tuple_of (by rfl) B.tuple PyProof.Rows.boot_tuple (pa_cons (pe_lc (own := [("row", 1)]) (g := gName 1) (tt := tYes) (by rfl) sc_level_rows.nd (pi_tup (pv 0)) (blkOk_by (own := [("row", 1)]) (N := nm_level_rows) (sc := defScope s_level_rows) (by decide +kernel)) (fun _ _ _ _ _ => pg_name (i := 1) sc_level_rows.nd rfl (Or.inl rfl)) (fun _ _ _ _ _ => pts_nil) (fun _ _ _ _ _ => (pe_op (show OpR _ _ (rCatA K) from op_catA) (pe_slice (show SlR _ (rSlA K) from sl_tupA) (pv 1) po_none (po_some (pe_un un_neg pe_int))) (pe_tup (pa_cons pe_int pa_nil))))) pa_nil)))), ?_⟩
    walk_at "nf"
    walk_at "sx"
    refine ⟨_, rfl, p, rfl, ⟨_, hs⟩, fun D hD => lcF (walk_tup (K := K) (a := p) (xs := zs)) hD (by rw [hl]; exact slt (by omega)) (fun _ => true) (fun i y H => Dp K H y (cdD (rs.getD i (.eq [] 0)).bare)) (fun i y H H' e n r => keepN e n n _ _ (noList_cd _) r) (fun H1 e => Same.seqT e hs) (fun i x H1 H2 Q1 Q0 hi e y q1 q0 => ?_) (fun H1 ys e hD1 g => ?_)⟩
    · obtain ⟨rfl, hx1⟩ := y
      obtain ⟨p1, xs1, a1, rfl, c1⟩ := cd_v ((hat i x hx1).to e)
      obtain ⟨us, c2, c3, ds, c4, c5, c6⟩ := c1.cut
      walk_at "nf"
      refine ⟨rfl, _, rfl, 1, rfl, -1, rfl, sl_ok c1.seq fun r1 H3 e3 h3 => ?_⟩
      walk_at "sx"
      refine ⟨by decide, fun t ht => ?_⟩
      have lx : us.length ≤ 3 := by
        have l1 := c4.length
        have : ds.length ≤ 3 := by
          generalize rs.getD i (Cd.eq [] 0) = r at c5
          cases r with
          | eq f0 c0 =>
            have := congrArg List.length (PyData.tuple.inj c5)
            simp at this
            omega
          | ge f0 c0 =>
            have := congrArg List.length (PyData.tuple.inj c5)
            simp at this
            omega
          | md m f0 c0 =>
            have := congrArg List.length (PyData.tuple.inj c5)
            simp at this
            omega
        omega
      rw [c2] at h3
      refine cat_ok ((Same.new ht).seqT h3) (.of upd_same) (by rw [sizeLine_eq]; show us.length + 1 ≤ _; omega) fun r2 H4 e4 h4 => q1 rfl _ _ ?_ ((e3.trans (Same.new ht)).trans e4)
      rw [c6]
      exact .tup h4 ((((c4.to e3).to (Same.new ht)).to e4).append (.cons (.int 0) .nil))
    · have ha := g.dp (K := K) (fun i => cdD (rs.getD i (.eq [] 0)).bare) (fun i y h => h)
      have e2 : ((List.range zs.length).filter fun _ => true).map (fun i => cdD (rs.getD i (.eq [] 0)).bare) = (rs.map Cd.bare).map cdD := by
        rw [hl, all_kept, List.map_map]
        exact by_places rs (.eq [] 0) (fun r => cdD r.bare)
      rw [e2] at ha
      exact ⟨D, rfl, ys, .inl ⟨.of hD1, fun t ht => k _ _ (e.then_new ht) (.tup (.of upd_same) (ha.to (Same.new ht)))⟩⟩
end
end Ws
/-! ## Y3 -/
namespace Ws
open PySem PySem.Spec PyProof.Rows L2 RZ
local macro_rules | `(tactic| walk_at "nf") => `(tactic| dsimp only [tNext, tSeq, tDrop, tRet, tRetN, tIfS, tAsg, gName, gTup, gCons, gNil, tVar, tC, tOp, tUn, rI, rI0, rU, rEq, rNe, tTest, tChain, tAnd, tOr, tNot, tAndV, tOrV, tNotV, tIf, tCB, tCKw, tCons, tNil, tTup, tLst, tCa, tCallS, tB, rIxT, rIxL, rIxS, cxOf, Cx.nox, Cx.wish, Cx.blk, L2.start, tPar, tPar3, tNever, tYes, tBits, tRz, tBM, rAppend, tyV, tXf, suiteEnds, gSub, rSetL, tBreak, rMax, tDGet, sDPut, tSl, tNoPart, tPart, tDisp, tPairs, tDGet2, tDNewK])
local macro_rules | `(tactic| walk_at "sx") => `(tactic| simp only [wipe, List.cons.injEq, and_assoc, exists_and_left, and_true, List.map_cons, List.map_nil, List.length_cons, List.length_nil, List.cons_append, List.nil_append, List.append_nil, Nat.reduceAdd, Nat.reduceSub, List.replicate, List.getElem?_cons_zero, List.getElem?_cons_succ, List.set_cons_zero, List.set_cons_succ, Option.some.injEq, V.int.injEq, V.bl.injEq, V.ref.injEq, V.str.injEq, exists_eq_left', exists_eq_left, true_and, Bool.true_eq_false, Bool.false_eq_true, if_true, if_false])

/-! ### wholesay.equations -/
structure ErQ (P : Program) (w : World) (K : PySem.W.Frag) (mg : Str → Option Value) (base : Heap) (BR BQ : Addr) : Prop where
  BadRow : ErC P w K mg base "BadRow" "value" BR
  BadEquations : ErC P w K mg base "BadEquations" "place" BQ
/-- an error of the class at C with a field f of the data d is handed on -/
def OutF (K : PySem.W.Frag) (C : Addr) (f : Str) (d : PyData) (H : Hp) (E : XK) : Prop := ∀ H' dd u, Same H H' → Dp K H' u d → H' dd = some (.xd [(f, u)]) → E (.ref C) (some dd) H'
theorem OutF.to {K : PySem.W.Frag} {C : Addr} {f : Str} {d : PyData} {H H1 : Hp} {E : XK} (h : OutF K C f d H E) (e : Same H H1) : OutF K C f d H1 E := fun H' dd u e' => h H' dd u (e.trans e')
theorem rz_f {K : PySem.W.Frag} {C : Addr} {f : Str} {d : PyData} {H H1 : Hp} {E : XK} {v : V} {σ : L2.St} (h : OutF K C f d H E) (e : Same H H1) (hv : Dp K H1 v d) : rzQ C f (fun cls d _ H => E cls d H) σ v H1 := rz_ok fun dd hd => h _ dd v (e.then_new hd) (hv.to (Same.new hd)) upd_same
def OutW (C : Addr) (f : Str) (v : V) (H : Hp) (E : XK) : Prop := ∀ H' dd, Same H H' → H' dd = some (.xd [(f, v)]) → E (.ref C) (some dd) H'
theorem rz_w {C : Addr} {f : Str} {H H1 : Hp} {E : XK} {v : V} {σ : L2.St} (h : OutW C f v H E) (e : Same H H1) : rzQ C f (fun cls d _ H => E cls d H) σ v H1 := rz_ok fun dd hd => h _ dd (e.then_new hd) upd_same
/-- the first of the rows, from the place i on, that is no condition -/
def firstBad (n : Int) : Nat → List PyData → Option Nat
  | _, [] => none
  | i, d :: ds => if condOk n d then firstBad n (i + 1) ds else some i
def eqFault : PyData → Option PyData
  | .tuple [c, rows] => if isBt c 1 12 then (match rows with
      | .tuple ds => if ds.length ≤ 12 then (firstBad (iOf c) 0 ds).map fun i => .tuple [.int 1, .int (i : Nat)] else some (.tuple [.int 1])
      | _ => some (.tuple [.int 1])) else some (.tuple [.int 0])
  | _ => some (.tuple [])
def eqD (n : Nat) (rs : List Cd) : PyData := .tuple [.int n, rowsD rs]
structure EqOk (n : Nat) (rs : List Cd) : Prop where
  n1 : 1 ≤ n
  n2 : n ≤ 12
  len : rs.length ≤ 12
  rows : ∀ r ∈ rs, CdOk n r
theorem str_in {k a b : Str} (h : (decide (k = a) || decide (k = b)) = true) : k = a ∨ k = b := by simpa using h
theorem ints_of_areB {d : PyData} {n lo hi : Int} (h1 : isTn d n = true) (h2 : areB d lo hi = true) : ∃ xs : List Int, d = intsD xs ∧ (xs.length : Int) = n ∧ ∀ x ∈ xs, lo ≤ x ∧ x ≤ hi := by
  obtain ⟨ds, rfl, hl⟩ := isTn_tup h1
  clear h1
  simp only [areB, List.all_eq_true] at h2
  have : ∃ xs : List Int, ds = xs.map PyData.int ∧ ∀ x ∈ xs, lo ≤ x ∧ x ≤ hi := by
    clear hl
    induction ds with
    | nil => exact ⟨[], rfl, by simp⟩
    | cons d ds ih =>
      obtain ⟨xs, rfl, hx⟩ := ih fun y hy => h2 y (List.mem_cons_of_mem _ hy)
      have hd := h2 d (List.mem_cons_self ..)
      cases d with
      | int i =>
        refine ⟨i :: xs, rfl, fun x hx' => ?_⟩
        rcases List.mem_cons.mp hx' with rfl | hx'
        · simpa [isBt] using hd
        · exact hx x hx'
      | _ => cases hd
  obtain ⟨xs, rfl, hx⟩ := this
  exact ⟨xs, rfl, by simpa using hl, hx⟩
theorem cd_of {n : Nat} {d : PyData} (h : condOk n d = true) : ∃ r, d = cdD r ∧ CdOk n r := by
  unfold condOk at h
  split at h
  · rename_i k f c
    simp only [Bool.and_eq_true] at h
    obtain ⟨⟨⟨h1, h2⟩, h3⟩, h4⟩ := h
    obtain ⟨xs, rfl, hl, hx⟩ := ints_of_areB h3 h4
    cases c with
    | int c =>
      have hc : -1000 ≤ c ∧ c ≤ 1000 := by simpa [isBt] using h2
      rcases str_in h1 with rfl | rfl
      · exact ⟨.eq xs c, rfl, ⟨by show xs.length = n; omega, hx, hc, fun _ _ _ z => by cases z⟩⟩
      · exact ⟨.ge xs c, rfl, ⟨by show xs.length = n; omega, hx, hc, fun _ _ _ z => by cases z⟩⟩
    | _ => cases h2
  · rename_i k m f c
    simp only [Bool.and_eq_true] at h
    obtain ⟨⟨⟨⟨h1, h0⟩, h2⟩, h3⟩, h4⟩ := h
    obtain ⟨xs, rfl, hl, hx⟩ := ints_of_areB h3 h4
    obtain rfl := of_decide_eq_true h1
    cases c with
    | int c =>
      cases m with
      | int m =>
        have hc : -1000 ≤ c ∧ c ≤ 1000 := by simpa [isBt] using h2
        have hm : 2 ≤ m ∧ m ≤ 1000 := by simpa [isBt] using h0
        exact ⟨.md m xs c, rfl, ⟨by show xs.length = n; omega, hx, hc, fun _ _ _ z => by cases z; exact hm⟩⟩
      | _ => cases h0
    | _ => cases h2
  · cases h
theorem firstBad_none {n : Int} : ∀ {ds : List PyData} {i : Nat}, firstBad n i ds = none → ∀ d ∈ ds, condOk n d = true
  | [], _, _, _, h => by cases h
  | d :: ds, i, h, x, hx => by
    unfold firstBad at h
    split at h
    · rename_i c
      rcases List.mem_cons.mp hx with rfl | hx
      · exact c
      · exact firstBad_none h x hx
    · cases h
theorem eq_of {d : PyData} (h : eqFault d = none) : ∃ n rs, d = eqD n rs ∧ EqOk n rs := by
  unfold eqFault at h
  split at h
  · rename_i c rows
    split at h
    · rename_i hc
      cases c with
      | int c =>
        have hc2 : 1 ≤ c ∧ c ≤ 12 := by simpa [isBt] using hc
        split at h
        · rename_i ds
          split at h
          · rename_i hl
            have hn : firstBad c 0 ds = none := by
              cases e : firstBad c 0 ds with
              | none => rfl
              | some i =>
                have : firstBad (iOf (.int c)) 0 ds = some i := e
                rw [this] at h
                cases h
            have ha := firstBad_none hn
            obtain ⟨m, rfl⟩ : ∃ m : Nat, c = m := ⟨c.toNat, by omega⟩
            have : ∃ rs : List Cd, ds = rs.map cdD ∧ ∀ r ∈ rs, CdOk m r := by
              clear hn h hl
              induction ds with
              | nil => exact ⟨[], rfl, by simp⟩
              | cons d ds ih =>
                obtain ⟨rs, rfl, hr⟩ := ih fun y hy => ha y (List.mem_cons_of_mem _ hy)
                obtain ⟨r, rfl, ho⟩ := cd_of (ha d (List.mem_cons_self ..))
                refine ⟨r :: rs, rfl, fun x hx => ?_⟩
                rcases List.mem_cons.mp hx with rfl | hx
                · exact ho
                · exact hr x hx
            obtain ⟨rs, rfl, hr⟩ := this
            exact ⟨m, rs, rfl, ⟨by omega, by omega, by simpa using hl, hr⟩⟩
          · cases h
        · cases h
      | _ => cases hc
    · cases h
  · cases h
def spNeedEq (K : PySem.W.Frag) (BQ : Addr) : Sp := fun vs H Q E => ∃ (v : V) (d : PyData), vs = [v] ∧ Dp K H v d ∧ (eqFault d = none → ∀ H', Same H H' → Q v H') ∧ ∀ p, eqFault d = some p → OutF K BQ "place" p H E
def spNeedNums (K : PySem.W.Frag) (BR BQ : Addr) : Sp := fun vs H Q E => ∃ (v u : V) (d e : PyData), vs = [v, u] ∧ Dp K H v d ∧ Dp K H u e ∧ (∀ p, eqFault d = some p → OutF K BQ "place" p H E) ∧
  ∀ n rs, d = eqD n rs → EqOk n rs → ((isTn e n && areB e 0 (10 ^ 60)) = true → ∀ H', Same H H' → Q .non H') ∧ ((isTn e n && areB e 0 (10 ^ 60)) = false → OutW BR "value" u H E)
def spHomog (K : PySem.W.Frag) (BQ : Addr) : Sp := fun vs H Q E => ∃ (v : V) (d : PyData), vs = [v] ∧ Dp K H v d ∧ (∀ p, eqFault d = some p → OutF K BQ "place" p H E) ∧ ∀ n rs, d = eqD n rs → EqOk n rs → ∀ H' u, Same H H' → Dp K H' u (eqD n (rs.map Cd.bare)) → Q u H'
def spSolves (K : PySem.W.Frag) (BR BQ : Addr) : Sp := fun vs H Q E => ∃ (v u : V) (d e : PyData), vs = [v, u] ∧ Dp K H v d ∧ Dp K H u e ∧ (∀ p, eqFault d = some p → OutF K BQ "place" p H E) ∧
  ∀ n rs, d = eqD n rs → EqOk n rs → (∀ xs, e = intsD xs → (isTn e n && areB e 0 (10 ^ 60)) = true → ∀ H', Same H H' → Q (.bl (rs.all (heldR xs))) H') ∧ ((isTn e n && areB e 0 (10 ^ 60)) = false → OutW BR "value" u H E)
structure Cs2 (mg : Str → Option Value) : Prop where
  MOST_UNKNOWNS : ∃ t, mg "MOST_UNKNOWNS" = some (.int 12 t)
  MOST_CONDITIONS : ∃ t, mg "MOST_CONDITIONS" = some (.int 12 t)
abbrev s_need_equations : Stmt := top 25
abbrev nm_need_equations : List Str := ["value", "count", "rows", "at", "row"]
abbrev pr_need_equations : List Str := ["value"]
theorem sc_need_equations : FnScope nm_need_equations pr_need_equations (defScope s_need_equations) := ⟨rfl, rfl, rfl, by decide +kernel, rfl, by decide +kernel, by decide +kernel⟩
abbrev s_need_numbers_for : Stmt := top 26
abbrev nm_need_numbers_for : List Str := ["equations", "numbers"]
abbrev pr_need_numbers_for : List Str := ["equations", "numbers"]
theorem sc_need_numbers_for : FnScope nm_need_numbers_for pr_need_numbers_for (defScope s_need_numbers_for) := ⟨rfl, rfl, rfl, by decide +kernel, rfl, by decide +kernel, by decide +kernel⟩
abbrev s_homogeneous : Stmt := top 27
abbrev nm_homogeneous : List Str := ["equations"]
abbrev pr_homogeneous : List Str := ["equations"]
theorem sc_homogeneous : FnScope nm_homogeneous pr_homogeneous (defScope s_homogeneous) := ⟨rfl, rfl, rfl, by decide +kernel, rfl, by decide +kernel, by decide +kernel⟩
abbrev s_solves : Stmt := top 28
abbrev nm_solves : List Str := ["equations", "numbers"]
abbrev pr_solves : List Str := ["equations", "numbers"]
theorem sc_solves : FnScope nm_solves pr_solves (defScope s_solves) := ⟨rfl, rfl, rfl, by decide +kernel, rfl, by decide +kernel, by decide +kernel⟩
section
variable {P : Program} {w : World} {K : PySem.W.Frag} {mg : Str → Option Value} {base : Heap} {BR BQ : Addr}
theorem ok_need_eq (B : Bl mg) (C : Cs2 mg) (T : ErQ P w K mg base BR BQ) (F1 : Df P w K mg base CX0 2 "is_between" pr_is_between (spIsBetween K)) (F2 : Df P w K mg base CX0 1 "is_tuple_of" pr_is_tuple_of (spIsTupleOf K)) (F3 : Df P w K mg base CX0 3 "is_condition" pr_is_condition (spIsCond K))
    (D : Dt K mg "need_equations" s_need_equations pr_need_equations) : Df P w K mg base (L2.CX P w) 4 "need_equations" pr_need_equations (spNeedEq K BQ) := by
  refine D.okX sc_need_equations (fun vs H Q E h => ?_) (fun f cdv A outer s H vs Q E hr h => ?_)
  · obtain ⟨v, d, rfl, _⟩ := h
    rfl
  · obtain ⟨v, d, rfl, hd, k1, k2⟩ := h
    refine ⟨_, (pss_cons (ps_if (pt_not (pt_val (pe_f F2 (hr.mono (by decide)) pass0 (pa_cons (pv 0) (pa_cons pe_int pa_nil))))) (pss_one (ps_rz rfl T.BadEquations (hr.mono (by decide)) (takes_of rfl rfl rfl rfl) (by rfl) (pe_tup pa_nil))) pss_nil) (pss_cons (ps_asg (pv 0) (pg_tup rfl (pgs_cons (pg_name (i := 1) sc_need_equations.nd rfl (Or.inl rfl)) (pgs_cons (pg_name (i := 2) sc_need_equations.nd rfl (Or.inl rfl)) pgs_nil)))) (pss_cons (ps_if (pt_not (pt_val (pe_f F1 (hr.mono (by decide)) pass0 (pa_cons (pv 1) (pa_cons pe_int (pa_cons (pe_glob (v := .int 12) rfl C.MOST_UNKNOWNS.choose_spec ⟨_, rfl⟩) pa_nil)))))) (pss_one (ps_rz rfl T.BadEquations (hr.mono (by decide)) (takes_of rfl rfl rfl rfl) (by rfl) (pe_tup (pa_cons pe_int pa_nil)))) pss_nil) (pss_cons (ps_if (PW.pt (pw_or (pt_not (pt_val (pe_callB call_isi (by rfl) B.isinstance boot_isinstance (pa_cons (pv 2) (pa_cons (pe_bltn (v := .ty "tuple") (by rfl) B.tuple PyProof.Rows.boot_tuple rfl) pa_nil))))) (pw_or1 (pt_cmpR op_gt (pe_callB call_len_seq (by rfl) B.len PySem.boot_len (pa_cons (pv 2) pa_nil)) (pe_glob (v := .int 12) rfl C.MOST_CONDITIONS.choose_spec ⟨_, rfl⟩) (nomark _))))) (pss_one (ps_rz rfl T.BadEquations (hr.mono (by decide)) (takes_of rfl rfl rfl rfl) (by rfl) (pe_tup (pa_cons pe_int pa_nil)))) pss_nil) (pss_cons (ps_for (passes_of rfl) rfl (pi_enumT (by rfl) B.enumerate (pa_cons (pv 2) pa_nil)) (pg_tup rfl (pgs_cons (pg_name (i := 3) sc_need_equations.nd rfl (Or.inl rfl)) (pgs_cons (pg_name (i := 4) sc_need_equations.nd rfl (Or.inl rfl)) pgs_nil))) (pss_one (ps_if (pt_not (pt_val (pe_f F3 (hr.mono (by decide)) pass0 (pa_cons (pv 4) (pa_cons (pv 1) pa_nil))))) (pss_one (ps_rz rfl T.BadEquations (hr.mono (by decide)) (takes_of rfl rfl rfl rfl) (by rfl) (pe_tup (pa_cons pe_int (pa_cons (pv 3) pa_nil))))) pss_nil))) (pss_one (ps_ret (pv 0)))))))), ?_⟩
    walk_at "nf"
    walk_at "sx"
    have out : ∀ (p : PyData), eqFault d = some p → ∀ {σ : L2.St} {H1 : Hp} {u : V}, Same H H1 → Dp K H1 u p → rzQ BQ "place" (fun cls d x H => E cls d H) σ u H1 := fun p e _ _ _ s1 hu => rz_f (k2 p e) s1 hu
    have bad : ∀ (xs : List Int), eqFault d = some (intsD xs) → ∀ {σ : L2.St} {H1 : Hp} {p : Addr}, Same H H1 → H1 p = none → rzQ BQ "place" (fun cls d x H => E cls d H) σ (V.ref p) (upd H1 p (.tup (xs.map V.int))) := fun xs e _ _ _ s1 hp =>
      out _ e (s1.then_new hp) (.tup (.of upd_same) (DpAll.ints xs))
    refine ⟨v, d, 2, rfl, hd, _, rfl, ?_⟩
    cases e0 : isTn d 2 with
    | false =>
      have ef : eqFault d = some (intsD []) := by
        unfold eqFault
        split
        · simp [isTn] at e0
        · rfl
      exact iteT ⟨by decide, fun p hp => bad [] ef (Same.refl _) hp⟩
    | true =>
      obtain ⟨ds, rfl, hl⟩ := isTn_tup e0
      match ds, hl with
      | [c, rows], _ =>
      obtain ⟨a, xs, rfl, hs, ha⟩ := hd.tup_inv
      obtain ⟨cv, rv, rfl, hc, hrw⟩ := ha.two
      refine iteF ⟨a, rfl, _, hs, rfl, cv, [rv], rfl, rv, [], rfl, rfl, cv, c, 1, 12, rfl, hc, _, rfl, ?_⟩
      cases e1 : isBt c 1 12 with
      | false =>
        have ef : eqFault (.tuple [c, rows]) = some (intsD [0]) := by simp [eqFault, e1, intsD]
        exact iteT ⟨by decide, fun p hp => bad [0] ef (Same.refl _) hp⟩
      | true =>
        refine iteF (isi_tuple hrw ⟨_, rfl, ?_⟩)
        cases rows with
        | tuple ds =>
          obtain ⟨b, zs, rfl, hs2, ha2⟩ := hrw.tup_inv
          have hl2 := ha2.length
          refine iteF ⟨b, rfl, _, .inr hs2, ?_⟩
          by_cases c12 : ds.length ≤ 12
          · rw [decide_eq_false (by rw [hl2]; omega)]
            have ef : eqFault (.tuple [c, .tuple ds]) = (firstBad (iOf c) 0 ds).map fun i => intsD [1, (i : Nat)] := by
              simp [eqFault, e1, c12, intsD]
            obtain ⟨n, rfl⟩ : ∃ n, c = .int n := by
              cases c with
              | int n => exact ⟨n, rfl⟩
              | _ => cases e1
            have hc2 := hc.int_inv
            subst hc2
            have hn : 1 ≤ n ∧ n ≤ 12 := by simpa [isBt] using e1
            have ef2 : eqFault (.tuple [.int n, .tuple ds]) = (firstBad n 0 ds).map fun i => intsD [1, (i : Nat)] := ef
            refine iteF ⟨_, rfl, b, zs, rfl, hs2, for_it (walk_enumT (xs := zs)) (fun i σ H' => Same H H' ∧ (∃ v4 v5, σ = [some (.ref a), some (.int n), some (.ref b), v4, v5]) ∧ firstBad n 0 ds = firstBad n i (ds.drop i)) ⟨Same.refl _, ⟨_, _, rfl⟩, rfl⟩ (fun i σ H' _ p => p.1.seqT hs2) (fun i x σ H1 H2 hi p y => ?_) (fun σ H1 p => ?_)⟩
            · obtain ⟨s1, ⟨v4, v5, rfl⟩, fb⟩ := p
              obtain ⟨T, x1, x2, rfl, hT, rfl, h1, h2⟩ := y
              obtain rfl : V.int (i : Nat) = x1 := Option.some.inj h1
              obtain ⟨d2, hd1, hd2⟩ := ha2.getV h2
              have s2 : Same H1 (upd H1 T (.tup [V.int (i : Nat), x2])) := Same.new hT
              have hi2 : i < ds.length := by rw [← hl2]; exact hi
              have dr : ds.drop i = d2 :: ds.drop (i + 1) := by
                rw [List.drop_eq_getElem_cons hi2]
                rw [List.getElem?_eq_getElem hi2] at hd1
                rw [Option.some.inj hd1]
              walk_at "nf"
              refine ⟨T, _, rfl, .of upd_same, rfl, ?_⟩
              walk_at "sx"
              refine ⟨x2, d2, n, rfl, (hd2.to s1).to s2, by omega, fun H3 s3 => ⟨_, rfl, ?_⟩⟩
              have s4 := (s1.trans s2).trans s3
              cases e5 : condOk n d2 with
              | false =>
                refine iteT ⟨by decide, fun p hp => bad [1, (i : Nat)] ?_ s4 hp⟩
                rw [ef2, fb, dr]
                simp [firstBad, e5]
              | true =>
                refine iteF ⟨s4, ⟨_, rfl⟩, ?_⟩
                rw [fb, dr]
                simp [firstBad, e5]
            · obtain ⟨s1, ⟨v4, v5, rfl⟩, fb⟩ := p
              walk_at "nf"
              refine ⟨_, rfl, k1 ?_ _ s1⟩
              rw [ef2, fb, hl2, List.drop_length]
              rfl
          · rw [decide_eq_true (by rw [hl2]; omega)]
            have ef : eqFault (.tuple [c, .tuple ds]) = some (intsD [1]) := by simp [eqFault, e1, c12, intsD]
            exact iteT ⟨by decide, fun p hp => bad [1] ef (Same.refl _) hp⟩
        | _ =>
          refine iteT ⟨by decide, fun p hp => bad [1] ?_ (Same.refl _) hp⟩
          simp [eqFault, e1, intsD]
theorem eqD_ok {n : Nat} {rs : List Cd} (o : EqOk n rs) : eqFault (eqD n rs) = none := by
  have h1 : isBt (.int (n : Int)) 1 12 = true := by have := o.n1; have := o.n2; simp [isBt]; omega
  have hc : ∀ r, CdOk n r → condOk n (cdD r) = true := fun r ok => by
    have ha : areB (intsD r.fs) (-100) 100 = true := by
      simp only [areB, intsD, List.all_eq_true]
      intro x hx
      obtain ⟨i, hi, rfl⟩ := List.mem_map.mp hx
      have := ok.fs i hi
      simp [isBt, this.1, this.2]
    have hl : isTn (intsD r.fs) n = true := by simp [isTn, intsD, ok.len]
    have hb : isBt (.int r.con) (-1000) 1000 = true := by simp [isBt, ok.con.1, ok.con.2]
    cases r with
    | eq f c =>
      show ((decide (("eq" : Str) = "eq") || _) && _ && _ && _) = true
      rw [show isBt (.int c) (-1000) 1000 = true from hb, show isTn (intsD f) n = true from hl, show areB (intsD f) (-100) 100 = true from ha]
      simp
    | ge f c =>
      show ((_ || decide (("ge" : Str) = "ge")) && _ && _ && _) = true
      rw [show isBt (.int c) (-1000) 1000 = true from hb, show isTn (intsD f) n = true from hl, show areB (intsD f) (-100) 100 = true from ha]
      simp
    | md m f c =>
      have hm := ok.md m f c rfl
      have hm2 : isBt (.int m) 2 1000 = true := by simp [isBt, hm.1, hm.2]
      show (decide (("mod" : Str) = "mod") && _ && _ && _ && _) = true
      rw [hm2, show isBt (.int c) (-1000) 1000 = true from hb, show isTn (intsD f) n = true from hl, show areB (intsD f) (-100) 100 = true from ha]
      simp
  have hf : ∀ (l : List Cd) (i : Nat), (∀ r ∈ l, CdOk n r) → firstBad n i (l.map cdD) = none := fun l => by
    induction l with
    | nil => intros; rfl
    | cons r l ih =>
      intro i h
      rw [List.map_cons]
      unfold firstBad
      rw [if_pos (hc r (h r (List.mem_cons_self ..)))]
      exact ih (i + 1) fun x hx => h x (List.mem_cons_of_mem _ hx)
  show (if isBt (.int (n : Int)) 1 12 then (if (rs.map cdD).length ≤ 12 then (firstBad n 0 (rs.map cdD)).map _ else _) else _) = none
  rw [if_pos h1, if_pos (by rw [List.length_map]; exact o.len), hf rs 0 o.rows]
  rfl
theorem eqD_inj {n m : Nat} {rs ss : List Cd} (h : eqD n rs = eqD m ss) : n = m ∧ rs = ss := by
  have e := PyData.tuple.inj h
  injection e with e1 e2
  injection e2 with e3 e4
  have e5 := PyData.tuple.inj e3
  refine ⟨by have := PyData.int.inj e1; omega, List.map_inj_right (f := cdD) (fun x y e => ?_) |>.mp e5⟩
  have ii : ∀ {a b : List Int}, intsD a = intsD b → a = b := fun {a b} e => List.map_inj_right (fun x y z => PyData.int.inj z) |>.mp (PyData.tuple.inj e)
  cases x <;> cases y <;> first
    | (simp only [cdD, PyData.tuple.injEq, List.cons.injEq, PyData.str.injEq, PyData.int.injEq, and_true, true_and] at e
       obtain ⟨a, b⟩ := e
       rw [ii a, b])
    | (simp only [cdD, PyData.tuple.injEq, List.cons.injEq, PyData.str.injEq, PyData.int.injEq, and_true, true_and] at e
       obtain ⟨z, a, b⟩ := e
       rw [z, ii a, b])
    | (exfalso; simp [cdD] at e; done)
    | (exfalso; simp [cdD] at e; exact absurd e.1 (by decide +kernel))
theorem eq_two {H : Hp} {v : V} {n : Nat} {rs : List Cd} (h : Dp K H v (eqD n rs)) : ∃ p u, v = .ref p ∧ SqT K H p [.int n, u] ∧ Dp K H u (rowsD rs) := by
  obtain ⟨p, xs, rfl, hs, ha⟩ := h.tup_inv
  obtain ⟨c, u, rfl, hc, hu⟩ := ha.two
  obtain rfl := hc.int_inv
  exact ⟨p, u, rfl, hs, hu⟩
theorem ok_need_nums (T : ErQ P w K mg base BR BQ) (F1 : Df P w K mg base (L2.CX P w) 4 "need_equations" pr_need_equations (spNeedEq K BQ)) (F2 : Df P w K mg base CX0 4 "is_row" pr_is_row (spIsRow K))
    (D : Dt K mg "need_numbers_for" s_need_numbers_for pr_need_numbers_for) : Df P w K mg base (L2.CX P w) 5 "need_numbers_for" pr_need_numbers_for (spNeedNums K BR BQ) := by
  refine D.okX sc_need_numbers_for (fun vs H Q E h => ?_) (fun f cdv A outer s H vs Q E hr h => ?_)
  · obtain ⟨v, u, d, e, rfl, _⟩ := h
    rfl
  · obtain ⟨v, u, d, e, rfl, hd, he, k1, k2⟩ := h
    refine ⟨_, (pss_cons (ps_expr (pe_f (E := E) F1 (hr.mono (by decide)) (passes_call (takes_of rfl rfl rfl rfl) fun _ _ _ _ h => h) (pa_cons (pv 0) pa_nil))) (pss_one (ps_if (pt_not (pt_val (pe_f F2 (hr.mono (by decide)) pass0 (pa_cons (pv 1) (pa_cons (pe_ix ix_tup (pv 0) pe_int (fun _ _ => rfl)) pa_nil))))) (pss_one (ps_rz rfl T.BadRow (hr.mono (by decide)) (takes_of rfl rfl rfl rfl) (by rfl) (pv 1))) pss_nil))), ?_⟩
    walk_at "nf"
    walk_at "sx"
    refine ⟨v, d, rfl, hd, fun ef H1 s1 => ?_, k1⟩
    obtain ⟨n, rs, rfl, o⟩ := eq_of ef
    obtain ⟨p, r, rfl, hs, _⟩ := eq_two (hd.to s1)
    obtain ⟨k3, k4⟩ := k2 n rs rfl o
    refine ⟨p, rfl, _, hs, _, rfl, u, e, n, rfl, he.to s1, by have := o.n2; omega, fun H2 s2 => ⟨_, rfl, ?_⟩⟩
    cases c : (isTn e n && areB e 0 (10 ^ 60)) with
    | false => exact iteT (rz_w (k4 c) (s1.trans s2))
    | true => exact iteF (k3 c _ (s1.trans s2))
theorem ok_homog (F1 : Df P w K mg base (L2.CX P w) 4 "need_equations" pr_need_equations (spNeedEq K BQ)) (F2 : Df P w K mg base CX0 1 "level_rows" pr_level_rows (spLevel K))
    (D : Dt K mg "homogeneous" s_homogeneous pr_homogeneous) : Df P w K mg base (L2.CX P w) 5 "homogeneous" pr_homogeneous (spHomog K BQ) := by
  refine D.okX sc_homogeneous (fun vs H Q E h => ?_) (fun f cdv A outer s H vs Q E hr h => ?_)
  · obtain ⟨v, d, rfl, _⟩ := h
    rfl
  · obtain ⟨v, d, rfl, hd, k1, k2⟩ := h
    refine ⟨_, (pss_cons (ps_expr (pe_f (E := E) F1 (hr.mono (by decide)) (passes_call (takes_of rfl rfl rfl rfl) fun _ _ _ _ h => h) (pa_cons (pv 0) pa_nil))) (pss_one (ps_ret (pe_tup (pa_cons (pe_ix ix_tup (pv 0) pe_int (fun _ _ => rfl)) (pa_cons (pe_f F2 (hr.mono (by decide)) pass0 (pa_cons (pe_ix ix_tup (pv 0) pe_int (fun _ _ => rfl)) pa_nil)) pa_nil)))))), ?_⟩
    walk_at "nf"
    walk_at "sx"
    refine ⟨v, d, rfl, hd, fun ef H1 s1 => ?_, k1⟩
    obtain ⟨n, rs, rfl, o⟩ := eq_of ef
    obtain ⟨p, r, rfl, hs, hr1⟩ := eq_two (hd.to s1)
    refine ⟨p, rfl, _, hs, _, rfl, p, rfl, _, hs, _, rfl, r, rs, rfl, hr1, by have := o.len; omega, fun H2 u s2 hu => ⟨by decide, fun t ht => k2 n rs rfl o _ _ ((s1.trans s2).then_new ht) ?_⟩⟩
    exact .tup (.of upd_same) (.cons (.int _) (.cons (hu.to (Same.new ht)) .nil))
theorem ok_solves (F1 : Df P w K mg base (L2.CX P w) 5 "need_numbers_for" pr_need_numbers_for (spNeedNums K BR BQ)) (F2 : Df P w K mg base CX0 3 "are_held" pr_are_held (spAreHeld K))
    (D : Dt K mg "solves" s_solves pr_solves) : Df P w K mg base (L2.CX P w) 6 "solves" pr_solves (spSolves K BR BQ) := by
  refine D.okX sc_solves (fun vs H Q E h => ?_) (fun f cdv A outer s H vs Q E hr h => ?_)
  · obtain ⟨v, u, d, e, rfl, _⟩ := h
    rfl
  · obtain ⟨v, u, d, e, rfl, hd, he, k1, k2⟩ := h
    refine ⟨_, (pss_cons (ps_expr (pe_f (E := E) F1 (hr.mono (by decide)) (passes_call (takes_of rfl rfl rfl rfl) fun _ _ _ _ h => h) (pa_cons (pv 0) (pa_cons (pv 1) pa_nil)))) (pss_one (ps_ret (pe_f F2 (hr.mono (by decide)) pass0 (pa_cons (pe_ix ix_tup (pv 0) pe_int (fun _ _ => rfl)) (pa_cons (pv 1) pa_nil)))))), ?_⟩
    walk_at "nf"
    walk_at "sx"
    refine ⟨v, u, d, e, rfl, hd, he, k1, fun n rs ed o => ⟨fun c H1 s1 => ?_, (k2 n rs ed o).2⟩⟩
    subst ed
    obtain ⟨p, r, rfl, hs, hr1⟩ := eq_two (hd.to s1)
    have c2 := Bool.and_eq_true_iff.mp c
    obtain ⟨xs, rfl, _, _⟩ := ints_of_areB c2.1 c2.2
    exact ⟨p, rfl, _, hs, _, rfl, r, u, n, rs, xs, rfl, hr1, o.rows, o.n2, by have := o.len; omega, he.to s1, fun H2 s2 => (k2 n rs rfl o).1 xs rfl c H2 (s1.trans s2)⟩
end
end Ws
/-! ## Y4 -/
namespace Ws
open PySem PySem.Spec PyProof.Rows L2 RZ LamX
local macro_rules | `(tactic| walk_at "nf") => `(tactic| dsimp only [tNext, tSeq, tDrop, tRet, tRetN, tIfS, tAsg, gName, gTup, gCons, gNil, tVar, tC, tOp, tUn, rI, rI0, rU, rEq, rNe, tTest, tChain, tAnd, tOr, tNot, tAndV, tOrV, tNotV, tIf, tCB, tCKw, tCons, tNil, tTup, tLst, tCa, tCallS, tB, rIxT, rIxL, rIxS, cxOf, Cx.nox, Cx.wish, Cx.blk, L2.start, tPar, tPar3, tNever, tYes, tBits, tRz, tBM, rAppend, tyV, tXf, suiteEnds, gSub, rSetL, tBreak, rMax, tDGet, sDPut, tSl, tNoPart, tPart, tDisp, tPairs, tDGet2, tDNewK])
local macro_rules | `(tactic| walk_at "sx") => `(tactic| simp only [wipe, List.cons.injEq, and_assoc, exists_and_left, and_true, List.map_cons, List.map_nil, List.length_cons, List.length_nil, List.cons_append, List.nil_append, List.append_nil, Nat.reduceAdd, Nat.reduceSub, List.replicate, List.getElem?_cons_zero, List.getElem?_cons_succ, List.set_cons_zero, List.set_cons_succ, Option.some.injEq, V.int.injEq, V.bl.injEq, V.ref.injEq, V.str.injEq, exists_eq_left', exists_eq_left, true_and, Bool.true_eq_false, Bool.false_eq_true, if_true, if_false])

/-! ### what a call told or raised -/
structure Ex2 (K : PySem.W.Frag) (mg : Str → Option Value) (SE BR BQ : Addr) : Prop where
  say : mg "SayError" = some (.ref SE)
  ex : ∀ i : Nat, i < 2 → ExcC K ([BQ, BR].getD i 0)
  sub : ∀ i : Nat, i < 2 → PySem.W.kitOne K (.ref ([BQ, BR].getD i 0)) (.ref SE) = some true
  exm : ∀ i j : Nat, j ≤ i → i < 2 → PySem.W.exmOne K (.ref ([BQ, BR].getD i 0)) (.ref ([BQ, BR].getD j 0)) = some (decide (i = j))
def CaughtE (BR BQ : Addr) (Q : VK) : XK := fun cls d H =>
  ∃ (i : Nat) (v : V) (dd : Addr), i < 2 ∧ cls = .ref ([BQ, BR].getD i 0) ∧ d = some dd ∧ H dd = some (.xd [(["place", "value"].getD i "", v)]) ∧ ∀ t, H t = none → Q (.ref t) (upd H t (.tup [.str (["equations", "row"].getD i ""), v, .bl true]))
def TTc (BR BQ : Addr) : (XK → Hp → VK → Prop) → Hp → VK → Prop := fun tl H Q => tl (CaughtE BR BQ Q) H fun v H1 => ∀ t, H1 t = none → Q (.ref t) (upd H1 t (.tup [.str "is", v]))
def tTold (f c' : Addr) (q : Str) (n : Nat) (tl : XK → Hp → VK → Prop) (W : WX) : TS := fun D σ H => ∃ Ech : XK, (∀ cls d σ' H', Ech cls d H' → σ'.length = n → W cls d σ' H') ∧ σ[0]? = some (some (.ref f)) ∧ H c' = some (CodeO c' q) ∧ tl Ech H (fun v H1 => ∀ t, H1 t = none → D.nx (σ.set 1 (some (.ref t))) (upd H1 t (.tup [.str "is", v])))
theorem takes_len {X : Cx} {W : WX} (t : Takes X W) : Takes X (fun cls d σ H => σ.length = X.N.length → W cls d σ H) := fun u s' ⟨a, B, sI, pins, σ, H, cls, d, e, I, nb, up, sky, na, os, ag, w⟩ =>
  t u s' ⟨a, B, sI, pins, σ, H, cls, d, e, I, nb, up, sky, na, os, ag, w I.len⟩
abbrev s__law_caught : Stmt := top 41
abbrev nm__law_caught : List Str := ["call", "answer", "error_so"]
abbrev pr__law_caught : List Str := ["call"]
theorem sc__law_caught : FnScope nm__law_caught pr__law_caught (defScope s__law_caught) := ⟨rfl, rfl, rfl, by decide +kernel, rfl, by decide +kernel, by decide +kernel⟩
section
variable {X : Cx} {SE BR BQ : Addr}
theorem caught_gives {P : Program} {w : World} {q : Str} {g : Addr} {cdg : Value} (B : Bl X.mg) (T : ErQ X.prog X.w X.K X.mg X.base BR BQ) (S : Ex2 X.K X.mg SE BR BQ) :
    GivesTo X nm__law_caught "_law_caught" (defScope s__law_caught) g cdg (defBody s__law_caught) "call" q (TTc BR BQ) := by
  intro f c' s H Q tl act hc h
  have told : ∀ (W : WX) (pn : List (Addr × Obj)) (xe : Value → Shared → Prop) (p1 p2 p3 p4 p5 p6 : Pos) (j k : Nat), Takes ((cxOf C8.CX0 X.prog X.w X.K X.mg X.base nm__law_caught "_law_caught" (defScope s__law_caught) g cdg X.A X.stack s H C8.E0).nox.tr pn xe) W →
      PS ((cxOf C8.CX0 X.prog X.w X.K X.mg X.base nm__law_caught "_law_caught" (defScope s__law_caught) g cdg X.A X.stack s H C8.E0).nox.tr pn xe) (.Assign [.Name "answer" p3] (.Tuple [.Constant (.str "is") j p4, .Call (.Name "call" p1) [] [] p2] k p5) p6) (tTold f c' q 3 tl W) := by
    intro W pn xe p1 p2 p3 p4 p5 p6 j k tk
    refine ⟨fun pins s' σ H' D I h' => ?_⟩
    obtain ⟨Ech, hW, h1, h2, h3⟩ := h'
    have hp := act (fun cls d σ H => σ.length = 3 → W cls d σ H) pn xe Ech p1 p2 (takes_len tk) hW
    exact (ps_set (i := 1) sc__law_caught.nd rfl (Or.inl rfl) (pe_tup (pa_cons (pe_str) (pa_cons hp pa_nil)))).run pins s' σ H' D I (by
      try walk_at "nf"
      try walk_at "sx"
      simp only [show (2 ≤ sizeLine) = True from eq_true (by decide), true_and]
      exact ⟨h1, h2, h3⟩)
  refine ⟨_, (pss_cons (ps_set (i := 1) sc__law_caught.nd rfl (Or.inl rfl) pe_non) (pss_cons (ps_try_manyA (i := 2) (tb := _) (Wout := _) rfl rfl sc__law_caught.nd rfl rfl L2.takes0 (fun W pn xe tk _ => (pss_one (told W pn xe _ _ _ _ _ _ _ _ tk))) (.cons ⟨rfl, by decide, Or.inl T.BadEquations.mgC⟩ (fun a oe cls d pn hz hf => (pss_one (ps_set (i := 1) sc__law_caught.nd rfl (Or.inl rfl) (pe_tup (pa_cons pe_str (pa_cons (pe_xf T.BadEquations.xf T.BadEquations.no hz hf (pv 2)) (pa_cons (pe_callB (call_isX hz hf) (by rfl) B.isinstance boot_isinstance (pa_cons (pv 2) (pa_cons (pe_glob (v := .ref SE) rfl S.say rfl) pa_nil))) pa_nil))))))) (.cons ⟨rfl, by decide, Or.inl T.BadRow.mgC⟩ (fun a oe cls d pn hz hf => (pss_one (ps_set (i := 1) sc__law_caught.nd rfl (Or.inl rfl) (pe_tup (pa_cons pe_str (pa_cons (pe_xf T.BadRow.xf T.BadRow.no hz hf (pv 2)) (pa_cons (pe_callB (call_isX hz hf) (by rfl) B.isinstance boot_isinstance (pa_cons (pv 2) (pa_cons (pe_glob (v := .ref SE) rfl S.say rfl) pa_nil))) pa_nil))))))) .nil))) (pss_one (ps_ret (pv 1))))), ?_⟩
  refine ⟨CaughtE BR BQ Q, fun cls d σ' H' hE hl => ?_, rfl, hc, ?_⟩
  rotate_left
  · unfold TTc at h
    try walk_at "nf"
    try walk_at "sx"
    exact h
  match σ', hl with
  | [x, y, z], _ =>
  obtain ⟨i, v, dd, hi, rfl, rfl, hd, hq⟩ := hE
  · have : i = 0 ∨ i = 1 := by omega
    rcases this with rfl | rfl
    · refine ⟨true, S.exm 0 0 (by decide) (by decide), fun _ a ha => ?_, fun z => by cases z⟩
      try walk_at "nf"
      try walk_at "sx"
      exact ⟨rfl, _, hd, v, rfl, ⟨_, .ref SE, true, BQ, dd, _, rfl, rfl, S.ex 0 (by decide), rfl, hd, fun u hu => hu, S.sub 0 (by decide), by decide, hq⟩⟩
    · refine ⟨false, S.exm 1 0 (by decide) (by decide), (fun z => by cases z), fun _ => ⟨true, S.exm 1 1 (by decide) (by decide), fun _ a ha => ?_, fun z => by cases z⟩⟩
      try walk_at "nf"
      try walk_at "sx"
      exact ⟨rfl, _, hd, v, rfl, ⟨_, .ref SE, true, BR, dd, _, rfl, rfl, S.ex 1 (by decide), rfl, hd, fun u hu => hu, S.sub 1 (by decide), by decide, hq⟩⟩
end
section
variable {X : Cx} {SE BR BQ : Addr}
theorem pe_caught {TB : List (Addr × Str)} {c P : Addr} {k : Nat} {params : Arguments} {body : Expr} {scope : Scope} {t : XK → TE} {p lpos pos : Pos} (D : Dt X.K X.mg "_law_caught" s__law_caught pr__law_caught) (B : Bl X.mg) (T : ErQ X.prog X.w X.K X.mg X.base BR BQ) (S : Ex2 X.K X.mg SE BR BQ)
    (hTB : TabB X.base X.mg c P) (hcode : X.env.code = .ref c) {q : Str} (hq : X.env.qual = q) (hmT : (P, q ++ "<lambda>") ∈ TB) (hu : ∀ p ∈ TB, p.1 = P → p.2 = q ++ "<lambda>") (hr : Room (k + 2) X.A) (L : LamS X.env.scope scope)
    (hbody : ∀ (A : Around) (outer : List Env) (s : Shared) (H : Hp) (E : XK) (f c' : Addr), Room k (A.deeper (lamEnv X scope s.heap.objs.size f c')) → PE (lamCx X A outer s H E scope f c') body (t E))
    (hdef : defaultsOf params X.env = ([], []) := by rfl)
    (hbind : ∀ (q : Str) (cl : List (Str × Addr)) (pm cv ctv : Value), bindArgs (PySem.W.kla_fn "<lambda>" q params body scope cl pm cv ctv) ⟨[], []⟩ = pure [] := by intros; rfl) (hg : Gl X "_law_caught" := by rfl) :
    PE X (.Call (.Name "_law_caught" p) [.Lambda params body scope lpos] [] pos) (tLam TB (TTc BR BQ) t) := by
  subst hq
  obtain ⟨g, fd, F, m, b⟩ := D.ex
  have kp := F.kp
  obtain ⟨oc, od, kV, doc, pm, an, cdv, ct, osl, rfl, lk, hcd⟩ := F.ex
  exact pe_lamcall hg m kp lk hcd b sc__law_caught rfl (Or.inl rfl) (caught_gives (P := X.prog) (w := X.w) B T S) hTB hcode hmT hu hr L hdef hbind hbody
end
def errD (s : Str) (d : PyData) : PyData := .tuple [.str s, d, .bool true]
def isD (d : PyData) : PyData := .tuple [.str "is", d]
section
variable {K : PySem.W.Frag} {S : List Addr} {T : List (Addr × Str)} {tas : TA} {σ : L2.St} {H : Hp} {ds : List PyData} {d : PyData} {BR BQ : Addr}
theorem DE.caught {sp : Sp} (a : DEs K S T tas σ H ds) (h : ∀ H1, Lsts S H1 → Tabs T H1 → ∀ vs, DpAll K (hid S H1) vs ds → ∀ Q : VK, (∀ H' v, Ev T H1 H' → Dp K (hid S H') v d → Q v H') → sp vs H1 (fun v H2 => ∀ t, H2 t = none → Q (.ref t) (upd H2 t (.tup [.str "is", v]))) (CaughtE BR BQ Q)) :
    DE K S T (tLam T (TTc BR BQ) (fun E => tCa sp E tas)) σ H d := fun H1 e l t Q q =>
  ⟨t, fun H2 e2 t2 => a H2 (e.trans ⟨e2, fun _ => t2⟩) (Ev.lsts (T := T) ⟨e2, fun _ => t2⟩ l) t2 _ fun H3 vs e3 hs => h H3 (e3.lsts (Ev.lsts (T := T) ⟨e2, fun _ => t2⟩ l)) (e3.2 t2) vs hs Q fun H' v e' hv => q H' v ((Ev.trans (T := T) ⟨e2, fun _ => t2⟩ e3).trans e') hv⟩
/-- an error whose value is data of the part that is not put aside -/
theorem out_err {Q : VK} (i : Nat) (hi : i < 2) (l : Lsts S H) (nl : noList d = true) (q : ∀ H' v, Ev T H H' → Dp K (hid S H') v (errD (["equations", "row"].getD i "") d) → Q v H') : OutF K ([BQ, BR].getD i 0) (["place", "value"].getD i "") d H (CaughtE BR BQ Q) := fun H' dd u e hu hd =>
  ⟨i, u, dd, hi, rfl, rfl, hd, fun t ht => q _ _ ((Ev.of e).trans (Ev.new ht)) (by
    have l1 := (Ev.of (T := T) e).lsts l
    have l2 := ((Ev.of (T := T) e).trans (Ev.new (o := .tup [.str (["equations", "row"].getD i ""), u, .bl true]) ht)).lsts l
    exact .tup (seqT_hid l2 (.of upd_same)) (.cons (.str _) (.cons ((Dp.hid l1 d u nl hu).ev (Ev.new (T := T) ht)) (.cons (.bl _) .nil))))⟩
theorem out_errV {Q : VK} {v : V} (i : Nat) (hi : i < 2) (l : Lsts S H) (hv : Dp K (hid S H) v d) (q : ∀ H' v, Ev T H H' → Dp K (hid S H') v (errD (["equations", "row"].getD i "") d) → Q v H') : OutW ([BQ, BR].getD i 0) (["place", "value"].getD i "") v H (CaughtE BR BQ Q) := fun H' dd e hd =>
  ⟨i, v, dd, hi, rfl, rfl, hd, fun t ht => q _ _ ((Ev.of e).trans (Ev.new ht)) (by
    have l2 := ((Ev.of (T := T) e).trans (Ev.new (o := .tup [.str (["equations", "row"].getD i ""), v, .bl true]) ht)).lsts l
    exact .tup (seqT_hid l2 (.of upd_same)) (.cons (.str _) (.cons (hv.ev ((Ev.of (T := T) e).trans (Ev.new ht))) (.cons (.bl _) .nil))))⟩
theorem told_is {Q : VK} {H' : Hp} {v : V} {t : Addr} (e : Ev T H H') (l : Lsts S H) (hv : Dp K (hid S H') v d) (ht : H' t = none) (q : ∀ H' v, Ev T H H' → Dp K (hid S H') v (isD d) → Q v H') : Q (.ref t) (upd H' t (.tup [.str "is", v])) := by
  have l2 := (e.trans (Ev.new (o := .tup [.str "is", v]) ht)).lsts l
  exact q _ _ (e.trans (Ev.new ht)) (.tup (seqT_hid l2 (.of upd_same)) (.cons (.str _) (.cons (hv.ev (Ev.new (T := T) ht)) .nil)))
end
end Ws
/-! ## Y5 -/
namespace Ws
open PySem PySem.Spec PyProof.Rows L2 RZ
local macro_rules | `(tactic| walk_at "nf") => `(tactic| dsimp only [tNext, tSeq, tDrop, tRet, tRetN, tIfS, tAsg, gName, gTup, gCons, gNil, tVar, tC, tOp, tUn, rI, rI0, rU, rEq, rNe, tTest, tChain, tAnd, tOr, tNot, tAndV, tOrV, tNotV, tIf, tCB, tCKw, tCons, tNil, tTup, tLst, tCa, tCallS, tB, rIxT, rIxL, rIxS, cxOf, Cx.nox, Cx.wish, Cx.blk, L2.start, tPar, tPar3, tNever, tYes, tBits, tRz, tBM, rAppend, tyV, tXf, suiteEnds, gSub, rSetL, tBreak, rMax, tDGet, sDPut, tSl, tNoPart, tPart, tDisp, tPairs, tDGet2, tDNewK])
local macro_rules | `(tactic| walk_at "sx") => `(tactic| simp only [wipe, List.cons.injEq, and_assoc, exists_and_left, and_true, List.map_cons, List.map_nil, List.length_cons, List.length_nil, List.cons_append, List.nil_append, List.append_nil, Nat.reduceAdd, Nat.reduceSub, List.replicate, List.getElem?_cons_zero, List.getElem?_cons_succ, List.set_cons_zero, List.set_cons_succ, Option.some.injEq, V.int.injEq, V.bl.injEq, V.ref.injEq, V.str.injEq, exists_eq_left', exists_eq_left, true_and, Bool.true_eq_false, Bool.false_eq_true, if_true, if_false])

/-! ### the law's own look at equations -/
def spLawWorth (K : PySem.W.Frag) : Sp := fun vs H Q _ => ∃ (rv nv : V) (n : Nat) (r : Cd) (xs : List Int), vs = [rv, nv] ∧ Dp K H rv (cdD r) ∧ CdOk n r ∧ n ≤ 12 ∧ xs.length = n ∧ Dp K H nv (intsD xs) ∧ ∀ H', Same H H' → Q (.int (r.val xs)) H'
def spLawHeld (K : PySem.W.Frag) : Sp := fun vs H Q _ => ∃ (rv nv : V) (n : Nat) (rs : List Cd) (xs : List Int), vs = [rv, nv] ∧ Dp K H rv (rowsD rs) ∧ (∀ r ∈ rs, CdOk n r) ∧ n ≤ 12 ∧ xs.length = n ∧ rs.length ≤ 1000 ∧ Dp K H nv (intsD xs) ∧ ∀ H', Same H H' → Q (.bl (rs.all (heldR xs))) H'
def spLawNum (K : PySem.W.Frag) : Sp := fun vs H Q _ => ∃ v d lo hi, vs = [v, .int lo, .int hi] ∧ Dp K H v d ∧ Q (.bl (isBt d lo hi)) H
def flatD : PyData → Bool
  | .list _ => false
  | .tuple _ => false
  | .dict _ => false
  | _ => true
def headFlat : PyData → Bool
  | .tuple (x :: _) => flatD x
  | _ => true
def spLawCond (K : PySem.W.Frag) : Sp := fun vs H Q _ => ∃ (v : V) (d : PyData) (n : Int), vs = [.int n, v] ∧ Dp K H v d ∧ headFlat d = true ∧ n < 100000 ∧ ∀ H', Same H H' → Q (.bl (condOk n d)) H'
def spLawFault (K : PySem.W.Frag) : Sp := fun vs H Q _ => ∃ (v : V) (d : PyData), vs = [v] ∧ Dp K H v d ∧ (∀ c ds, d = .tuple [c, .tuple ds] → ∀ x ∈ ds, headFlat x = true) ∧ ∀ H' u, Same H H' → Dp K H' u ((eqFault d).getD .none) → Q u H'
theorem ks_md : ¬(("eq" : Str) = "mod") ∧ ¬(("ge" : Str) = "mod") ∧ ¬(("ge" : Str) = "eq") := by decide +kernel
theorem dot_take (fs xs : List Int) : ∀ i : Nat, i < fs.length → i < xs.length → dot (fs.take (i + 1)) (xs.take (i + 1)) = dot (fs.take i) (xs.take i) + fs.getD i 0 * xs.getD i 0 := by
  induction fs generalizing xs with
  | nil => intro i h; simp at h
  | cons f fs ih =>
    intro i h1 h2
    cases xs with
    | nil => simp at h2
    | cons x xs =>
      cases i with
      | zero => simp [dot]
      | succ i =>
        simp only [List.take_succ_cons, dot]
        rw [ih xs i (by simpa using h1) (by simpa using h2)]
        simp
        omega
abbrev s__law_worth : Stmt := top 35
abbrev nm__law_worth : List Str := ["row", "numbers", "found", "factor", "number"]
abbrev pr__law_worth : List Str := ["row", "numbers"]
theorem sc__law_worth : FnScope nm__law_worth pr__law_worth (defScope s__law_worth) := ⟨rfl, rfl, rfl, by decide +kernel, rfl, by decide +kernel, by decide +kernel⟩
abbrev s__law_held : Stmt := top 36
abbrev nm__law_held : List Str := ["rows", "numbers", "row", "worth"]
abbrev pr__law_held : List Str := ["rows", "numbers"]
theorem sc__law_held : FnScope nm__law_held pr__law_held (defScope s__law_held) := ⟨rfl, rfl, rfl, by decide +kernel, rfl, by decide +kernel, by decide +kernel⟩
abbrev s__law_bare : Stmt := top 37
abbrev nm__law_bare : List Str := ["rows", "row"]
abbrev pr__law_bare : List Str := ["rows"]
theorem sc__law_bare : FnScope nm__law_bare pr__law_bare (defScope s__law_bare) := ⟨rfl, rfl, rfl, by decide +kernel, rfl, by decide +kernel, by decide +kernel⟩
abbrev s__law_is_number : Stmt := top 42
abbrev nm__law_is_number : List Str := ["value", "least", "most"]
abbrev pr__law_is_number : List Str := ["value", "least", "most"]
theorem sc__law_is_number : FnScope nm__law_is_number pr__law_is_number (defScope s__law_is_number) := ⟨rfl, rfl, rfl, by decide +kernel, rfl, by decide +kernel, by decide +kernel⟩
abbrev s__law_is_condition : Stmt := top 43
abbrev nm__law_is_condition : List Str := ["count_so", "row", "wrong", "factor"]
abbrev pr__law_is_condition : List Str := ["count_so", "row"]
theorem sc__law_is_condition : FnScope nm__law_is_condition pr__law_is_condition (defScope s__law_is_condition) := ⟨rfl, rfl, rfl, by decide +kernel, rfl, by decide +kernel, by decide +kernel⟩
abbrev s__law_fault : Stmt := top 44
abbrev nm__law_fault : List Str := ["value", "index", "row"]
abbrev pr__law_fault : List Str := ["value"]
theorem sc__law_fault : FnScope nm__law_fault pr__law_fault (defScope s__law_fault) := ⟨rfl, rfl, rfl, by decide +kernel, rfl, by decide +kernel, by decide +kernel⟩
section
variable {P : Program} {w : World} {K : PySem.W.Frag} {mg : Str → Option Value} {base : Heap}
theorem ok_law_worth (B : Bl mg) (D : Dt K mg "_law_worth" s__law_worth pr__law_worth) : Df P w K mg base CX0 1 "_law_worth" pr__law_worth (spLawWorth K) := by
  refine D.ok sc__law_worth (fun vs H Q E h => ?_) (fun f cdv A outer s H vs Q E hr h => ?_)
  · obtain ⟨rv, nv, n, r, xs, rfl, _⟩ := h
    rfl
  · obtain ⟨rv, nv, n, r, xs, rfl, hd, ok, hn, hl, hx, k⟩ := h
    obtain ⟨p, ys, a, rfl, c⟩ := cd_v hd
    obtain ⟨a1, e1, hs1⟩ := c.fs.ints_tup
    obtain rfl := V.ref.inj e1
    obtain ⟨b, rfl, hs2⟩ := hx.ints_tup
    refine ⟨_, (pss_cons (ps_set (i := 2) sc__law_worth.nd rfl (Or.inl rfl) (pe_ix ix_tup (pv 0) (pe_un un_neg pe_int) (fun _ _ => rfl))) (pss_cons (ps_for PassesOwn.never rfl (pi_zipA (by rfl) B.zip (pa_cons (pe_ix ix_tup (pv 0) (pe_un un_neg pe_int) (fun _ _ => rfl)) (pa_cons (pv 1) pa_nil))) (pg_tup rfl (pgs_cons (pg_name (i := 3) sc__law_worth.nd rfl (Or.inl rfl)) (pgs_cons (pg_name (i := 4) sc__law_worth.nd rfl (Or.inl rfl)) pgs_nil))) (pss_one (ps_set (i := 2) sc__law_worth.nd rfl (Or.inl rfl) (pe_op op_add (pv 2) (pe_op op_mul (pv 3) (pv 4)))))) (pss_one (ps_ret (pv 2))))), ?_⟩
    walk_at "nf"
    walk_at "sx"
    refine ⟨_, c.seq, _, c.last, _, rfl, 2, rfl, p, _, -2, _, rfl, rfl, c.seq, c.prev, _, rfl, a, b, _, _, rfl, .inr ⟨hs1, hs2, for_zipT (by simp only [List.length_map]; rw [ok.len, hl]) (fun i σ H' => Same H H' ∧ ∃ v3 v4, σ = [some (.ref p), some (.ref b), some (.int (r.con + dot (r.fs.take i) (xs.take i))), v3, v4]) ?_ (fun i σ H' p => ⟨p.1.seqT hs1, p.1.seqT hs2⟩) (fun i x y T σ H' h1 h2 p hT => ?_) (fun σ H' p => ?_)⟩⟩
    · exact ⟨Same.refl _, none, none, by simp [dot]⟩
    · obtain ⟨s1, v3, v4, rfl⟩ := p
      have i1 : i < r.fs.length := by have := (List.getElem?_eq_some_iff.mp h1).1; simpa using this
      have i2 : i < xs.length := by have := (List.getElem?_eq_some_iff.mp h2).1; simpa using this
      obtain rfl : x = V.int (r.fs.getD i 0) := by
        rw [List.getElem?_map] at h1
        simp [i1] at h1
        simp [i1, h1]
      obtain rfl : y = V.int (xs.getD i 0) := by
        rw [List.getElem?_map] at h2
        simp [i2] at h2
        simp [i2, h2]
      have hf := ok.fs (r.fs.getD i 0) (by simp [i1])
      walk_at "nf"
      refine ⟨T, _, rfl, .of upd_same, rfl, ?_⟩
      walk_at "sx"
      refine ⟨.inl ⟨by omega, by omega⟩, s1.then_new hT, ?_⟩
      simp [dot_take r.fs xs i i1 i2, Int.add_assoc]
    · obtain ⟨s1, v3, v4, rfl⟩ := p
      walk_at "nf"
      refine ⟨_, rfl, ?_⟩
      have := k _ s1
      unfold Cd.val at this
      rw [List.length_map, List.take_length, show xs.take r.fs.length = xs by rw [ok.len, ← hl, List.take_length]]
      exact this
theorem ok_law_held (F1 : Df P w K mg base CX0 1 "_law_worth" pr__law_worth (spLawWorth K)) (B : Bl mg) (D : Dt K mg "_law_held" s__law_held pr__law_held) : Df P w K mg base CX0 2 "_law_held" pr__law_held (spLawHeld K) := by
  refine D.ok sc__law_held (fun vs H Q E h => ?_) (fun f cdv A outer s H vs Q E hr h => ?_)
  · obtain ⟨rv, nv, n, rs, xs, rfl, _⟩ := h
    rfl
  · obtain ⟨rv, nv, n, rs, xs, rfl, hd, ok, hn, hl, hz, hx, k⟩ := h
    obtain ⟨p, zs, rfl, hs, hlz, hat⟩ := rows_v hd
    refine ⟨_, (pss_cons (ps_for PassesOwn.never rfl (pi_tup (pv 0)) (pg_name (i := 2) sc__law_held.nd rfl (Or.inl rfl)) (pss_cons (ps_set (i := 3) sc__law_held.nd rfl (Or.inl rfl) (pe_f F1 (hr.mono (by decide)) pass0 (pa_cons (pv 2) (pa_cons (pv 1) pa_nil)))) (pss_cons (ps_if (PW.pt (pw_and (pt_cmpR op_eq (pe_ix ix_tup (pv 2) pe_int (fun _ _ => rfl)) pe_str (nomark _)) (pw_and1 (pt_cmpR op_ne (pe_op op_mod (pe_callTy call_int1 (by rfl) B.int PyProof.Rows.boot_int (pa_cons (pv 3) pa_nil)) (pe_ix ix_tup (pv 2) pe_int (fun _ _ => rfl))) pe_int (nomark _))))) (pss_one (ps_ret pe_bl)) pss_nil) (pss_one (ps_if (PW.pt (pw_or (PW.pt (pw_and (pt_cmpR op_eq (pe_ix ix_tup (pv 2) pe_int (fun _ _ => rfl)) pe_str (nomark _)) (pw_and1 (pt_cmpR op_lt (pv 3) pe_int (nomark _))))) (pw_or1 (PW.pt (pw_and (pt_cmpR op_eq (pe_ix ix_tup (pv 2) pe_int (fun _ _ => rfl)) pe_str (nomark _)) (pw_and1 (pt_cmpR op_ne (pv 3) pe_int (nomark _)))))))) (pss_one (ps_ret pe_bl)) pss_nil))))) (pss_one (ps_ret pe_bl))), ?_⟩
    walk_at "nf"
    walk_at "sx"
    refine ⟨_, rfl, p, rfl, ⟨_, hs⟩, for_tup (xs := zs) (fun i σ H' => Same H H' ∧ (∃ v3 v4, σ = [some (.ref p), some nv, v3, v4]) ∧ (rs.take i).all (heldR xs) = true) ⟨Same.refl _, ⟨_, _, rfl⟩, rfl⟩ (fun i σ H' _ p => p.1.seqT hs) (fun i x σ H' hx1 p => ?_) (fun σ H' p => ?_)⟩
    · obtain ⟨s1, ⟨v3, v4, rfl⟩, al⟩ := p
      have hi : i < rs.length := by rw [← hlz]; exact (List.getElem?_eq_some_iff.mp hx1).1
      have hd2 := (hat i x hx1).to s1
      have o := ok (rs.getD i (.eq [] 0)) (by simp [hi])
      have tk : rs.take (i + 1) = rs.take i ++ [rs.getD i (.eq [] 0)] := by
        rw [List.take_succ_eq_append_getElem hi]
        simp [hi]
      have no : heldR xs (rs.getD i (.eq [] 0)) = false → ∀ H2, Same H H2 → Q (.bl false) H2 := fun e H2 s2 => by
        have := k H2 s2
        have ea : rs.all (heldR xs) = false := by
          rw [Bool.eq_false_iff]
          intro z
          have := (List.all_eq_true.mp z) (rs.getD i (.eq [] 0)) (by simp [hi])
          rw [e] at this
          cases this
        rwa [ea] at this
      generalize hr0 : rs.getD i (.eq [] 0) = r at hd2 o tk no
      walk_at "nf"
      walk_at "sx"
      refine ⟨x, nv, n, r, xs, rfl, hd2, o, hn, hl, hx.to s1, fun H2 s2 => ?_⟩
      obtain ⟨p2, ys, a2, rfl, c⟩ := cd_v (hd2.to s2)
      have s3 := s1.trans s2
      have yes : heldR xs r = true → (Same H H2 ∧ (∃ x, some (V.int (r.val xs)) = x) ∧ (rs.take (i + 1)).all (heldR xs) = true) := fun e => ⟨s3, ⟨_, rfl⟩, by rw [tk, List.all_append, al]; simp [e]⟩
      cases r with
      | md m f0 c0 =>
        have k0 : atI ys 0 = some (.str "mod") := c.kind
        have hm := o.md m f0 c0 rfl
        refine ⟨p2, rfl, _, c.seq, _, k0, rfl, iteT (.inl ⟨_, rfl, p2, rfl, _, c.seq, _, c.md m f0 c0 rfl, m, rfl, by omega, rfl, ?_⟩)⟩
        by_cases e : (Cd.md m f0 c0).val xs % m = 0
        · rw [decide_eq_true e]
          refine iteF ⟨p2, rfl, _, c.seq, _, k0, rfl, ?_⟩
          rw [decide_eq_false (fun z => ks_ge.2.1 (V.str.inj z))]
          refine iteF ⟨p2, rfl, _, c.seq, _, k0, rfl, ?_⟩
          rw [decide_eq_false (fun z => ks_ge.2.2 (V.str.inj z))]
          exact iteF (yes (decide_eq_true e))
        · rw [decide_eq_false e]
          exact iteT (no (decide_eq_false e) _ s3)
      | eq f0 c0 =>
        have k0 : atI ys 0 = some (.str "eq") := c.kind
        refine ⟨p2, rfl, _, c.seq, _, k0, rfl, ?_⟩
        rw [decide_eq_false (fun z => ks_md.1 (V.str.inj z))]
        refine iteF ⟨p2, rfl, _, c.seq, _, k0, rfl, ?_⟩
        rw [decide_eq_false (fun z => ks_ge.1 (V.str.inj z))]
        refine iteF ⟨p2, rfl, _, c.seq, _, k0, rfl, iteT ⟨rfl, ?_⟩⟩
        by_cases e : (Cd.eq f0 c0).val xs = 0
        · rw [decide_eq_true (by rw [e])]
          exact iteF (yes (decide_eq_true e))
        · rw [decide_eq_false (fun z => e (V.int.inj z))]
          exact iteT (no (decide_eq_false e) _ s3)
      | ge f0 c0 =>
        have k0 : atI ys 0 = some (.str "ge") := c.kind
        refine ⟨p2, rfl, _, c.seq, _, k0, rfl, ?_⟩
        rw [decide_eq_false (fun z => ks_md.2.1 (V.str.inj z))]
        refine iteF ⟨p2, rfl, _, c.seq, _, k0, rfl, iteT ⟨_, rfl, ?_⟩⟩
        by_cases e : (Cd.ge f0 c0).val xs < 0
        · rw [decide_eq_true e]
          exact iteT (no (decide_eq_false (by omega)) _ s3)
        · rw [decide_eq_false e]
          refine iteF ⟨p2, rfl, _, c.seq, _, k0, rfl, ?_⟩
          rw [decide_eq_false (fun z => ks_md.2.2 (V.str.inj z))]
          exact iteF (yes (decide_eq_true (by omega)))
    · obtain ⟨s1, ⟨v3, v4, rfl⟩, al⟩ := p
      walk_at "nf"
      have := k _ s1
      rw [hlz, List.take_length] at al
      rwa [al] at this
theorem ok_law_bare (B : Bl mg) (D : Dt K mg "_law_bare" s__law_bare pr__law_bare) : Df P w K mg base CX0 1 "_law_bare" pr__law_bare (spLevel K) := by
  refine D.ok sc__law_bare (fun vs H Q E h => ?_) (fun f cdv A outer s H vs Q E hr h => ?_)
  · obtain ⟨rv, rs, rfl, _⟩ := h
    rfl
  · obtain ⟨rv, rs, rfl, hd, hz, k⟩ := h
    obtain ⟨p, zs, rfl, hs, hl, hat⟩ := rows_v hd
    refine ⟨_, (pss_one (ps_ret (pe_callTy call_tuple_of (by rfl) B.tuple PyProof.Rows.boot_tuple (pa_cons (pe_lc (own := [("row", 1)]) (g := gName 1) (tt := tYes) (by rfl) sc__law_bare.nd (pi_tup (pv 0)) (blkOk_by (own := [("row", 1)]) (N := nm__law_bare) (sc := defScope s__law_bare) (by decide +kernel)) (fun _ _ _ _ _ => pg_name (i := 1) sc__law_bare.nd rfl (Or.inl rfl)) (fun _ _ _ _ _ => pts_nil) (fun _ _ _ _ _ => (pe_op (show OpR _ _ (rCatA K) from op_catA) (pe_slice (show SlR _ (rSlA K) from sl_tupA) (pv 1) po_none (po_some (pe_un un_neg pe_int))) (pe_tup (pa_cons pe_int pa_nil))))) pa_nil)))), ?_⟩
    walk_at "nf"
    walk_at "sx"
    refine ⟨_, rfl, p, rfl, ⟨_, hs⟩, fun D hD => lcF (walk_tup (K := K) (a := p) (xs := zs)) hD (by rw [hl]; exact slt (by omega)) (fun _ => true) (fun i y H => Dp K H y (cdD (rs.getD i (.eq [] 0)).bare)) (fun i y H H' e n r => keepN e n n _ _ (noList_cd _) r) (fun H1 e => Same.seqT e hs) (fun i x H1 H2 Q1 Q0 hi e y q1 q0 => ?_) (fun H1 ys e hD1 g => ?_)⟩
    · obtain ⟨rfl, hx1⟩ := y
      obtain ⟨p1, xs1, a1, rfl, c1⟩ := cd_v ((hat i x hx1).to e)
      obtain ⟨us, c2, c3, ds, c4, c5, c6⟩ := c1.cut
      walk_at "nf"
      refine ⟨rfl, _, rfl, 1, rfl, -1, rfl, sl_ok c1.seq fun r1 H3 e3 h3 => ?_⟩
      walk_at "sx"
      refine ⟨by decide, fun t ht => ?_⟩
      have lx : us.length ≤ 3 := by
        have l1 := c4.length
        have : ds.length ≤ 3 := by
          generalize rs.getD i (Cd.eq [] 0) = r at c5
          cases r with
          | eq f0 c0 =>
            have := congrArg List.length (PyData.tuple.inj c5)
            simp at this
            omega
          | ge f0 c0 =>
            have := congrArg List.length (PyData.tuple.inj c5)
            simp at this
            omega
          | md m f0 c0 =>
            have := congrArg List.length (PyData.tuple.inj c5)
            simp at this
            omega
        omega
      rw [c2] at h3
      refine cat_ok ((Same.new ht).seqT h3) (.of upd_same) (by rw [sizeLine_eq]; show us.length + 1 ≤ _; omega) fun r2 H4 e4 h4 => q1 rfl _ _ ?_ ((e3.trans (Same.new ht)).trans e4)
      rw [c6]
      exact .tup h4 ((((c4.to e3).to (Same.new ht)).to e4).append (.cons (.int 0) .nil))
    · have ha := g.dp (K := K) (fun i => cdD (rs.getD i (.eq [] 0)).bare) (fun i y h => h)
      have e2 : ((List.range zs.length).filter fun _ => true).map (fun i => cdD (rs.getD i (.eq [] 0)).bare) = (rs.map Cd.bare).map cdD := by
        rw [hl, all_kept, List.map_map]
        exact by_places rs (.eq [] 0) (fun r => cdD r.bare)
      rw [e2] at ha
      exact ⟨D, rfl, ys, .inl ⟨.of hD1, fun t ht => k _ _ (e.then_new ht) (.tup (.of upd_same) (ha.to (Same.new ht)))⟩⟩
theorem ok_law_num (B : Bl mg) (D : Dt K mg "_law_is_number" s__law_is_number pr__law_is_number) : Df P w K mg base CX0 1 "_law_is_number" pr__law_is_number (spLawNum K) := by
  refine D.ok sc__law_is_number (fun vs H Q E h => ?_) (fun f cdv A outer s H vs Q E hr h => ?_)
  · obtain ⟨v, d, lo, hi, rfl, _⟩ := h
    rfl
  · obtain ⟨v, d, lo, hi, rfl, hd, k⟩ := h
    refine ⟨_, (pss_one (ps_ret (pe_and (pe_callB call_isi (by rfl) B.isinstance boot_isinstance (pa_cons (pv 0) (pa_cons (pe_bltn (v := .ty "int") (by rfl) B.int PyProof.Rows.boot_int rfl) pa_nil))) (pe_and (pe_not (pe_callB call_isi (by rfl) B.isinstance boot_isinstance (pa_cons (pv 0) (pa_cons (pe_bltn (v := .ty "bool") (by rfl) B.bool PyProof.Rows.boot_bool rfl) pa_nil)))) (pe_one (pe_chain op_le op_le (pv 1) (pv 0) (pv 2))))))), ?_⟩
    walk_at "nf"
    walk_at "sx"
    refine isi_int hd ⟨_, rfl, ?_⟩
    cases hd with
    | int i =>
      refine iteT (isi_bool (.int i) ⟨_, rfl, iteT ⟨i, rfl, ?_⟩⟩)
      by_cases c : lo ≤ i
      · rw [decide_eq_true c]
        refine iteT ⟨i, rfl, ?_⟩
        have e : isBt (.int i) lo hi = decide (i ≤ hi) := by simp [isBt, c]
        rw [← e]
        exact k
      · rw [decide_eq_false c]
        refine iteF ?_
        have e : isBt (.int i) lo hi = false := by simp [isBt, c]
        rw [← e]
        exact k
    | bl b => exact iteT (isi_bool (.bl b) ⟨_, rfl, iteF k⟩)
    | _ => exact iteF k
theorem law_tail {Q : VK} {H : Hp} {p a : Addr} {xs zs : List V} {fs : List PyData} {n lv : V} {dc : PyData} (hs : SqT K H p xs) (hat : atI xs (-2) = some (.ref a)) (hla : atI xs (-1) = some lv) (hz : SqT K H a zs) (hf : DpAll K H zs fs) (hc : Dp K H lv dc) (hl : fs.length < 100000) (k : ∀ H', Same H H' → Q (.bl (areB (.tuple fs) (-100) 100 && isBt dc (-1000) 1000)) H') :
    tLc (iTup K (tOp (rIxT K) (tVar 1) (tUn (rU fun i => V.int (-i)) (tC (V.int 2))))) (gName 3) (tNot (tB (tCa (spLawNum K) E0 (tCons (tVar 3) (tCons (tUn (rU fun i => V.int (-i)) (tC (V.int 100))) (tCons (tC (V.int 100)) tNil)))))) (tC (V.int 1)) [3] [some n, some (.ref p), none, none] H
      fun x H1 => 0 ≤ sizeLine ∧ ∀ q : Addr, H1 q = none → rEqD K x (V.ref q) (upd H1 q (HO.lst [])) fun x H1 => ∃ c, x = V.bl c ∧ if c = true then ∃ p13, V.ref p = V.ref p13 ∧ ∃ x, SqT K H1 p13 x ∧ ∃ x8, atI x (-1) = some x8 ∧ spLawNum K [x8, V.int (-1000), V.int 1000] H1 Q E0 else Q (V.bl false) H1 := by
  have hlz := hf.length
  refine ⟨_, rfl, 2, rfl, p, _, -2, _, rfl, rfl, hs, hat, a, rfl, ⟨_, hz⟩, fun L hL => lcF (walk_tup (K := K) (a := a) (xs := zs)) hL (by rw [hlz]; exact slt hl) (fun i => !isBt (fs.getD i .none) (-100) 100) (fun i y _ => y = V.int 1) (fun _ _ _ _ _ _ h => h) (fun H1 e => Same.seqT e hz) (fun i x H1 H2 Q1 Q0 hi1 e y q1 q0 => ?_) (fun H1 ys e hy g => ?_)⟩
  · obtain ⟨rfl, hx⟩ := y
    obtain ⟨d, hd1, hd2⟩ := hf.getV hx
    have ed : fs.getD i .none = d := by simp [hd1]
    rw [ed] at q1 q0
    walk_at "nf"
    walk_at "sx"
    refine ⟨x, d, -100, 100, rfl, hd2.to e, _, rfl, ?_⟩
    cases c : isBt d (-100) 100 with
    | false => exact iteT (q1 (by rw [c]; rfl) _ _ rfl (Same.refl _))
    | true => exact iteF (q0 (by rw [c]; rfl) _ (Same.refl _))
  · have hv := g.vals (fun _ => .int 1) (fun i y h => h)
    have ev : ys = (((List.range zs.length).filter fun i => !isBt (fs.getD i .none) (-100) 100).map fun _ => (1 : Int)).map V.int := by
      rw [hv, List.map_map]
      rfl
    have e2 : (((List.range zs.length).filter fun i => !isBt (fs.getD i .none) (-100) 100).map fun _ => (1 : Int)).isEmpty = areB (.tuple fs) (-100) 100 := by
      rw [hlz, Bool.eq_iff_iff, List.isEmpty_map, List.isEmpty_iff, List.filter_eq_nil_iff]
      simp only [areB, List.all_eq_true, List.mem_range, Bool.not_eq_true', Bool.not_eq_false]
      constructor
      · intro h x hx
        obtain ⟨i, hi, rfl⟩ := List.mem_iff_getElem.mp hx
        have := h i hi
        simpa [hi] using this
      · intro h i hi
        exact h (fs.getD i .none) (by simp [hi])
    generalize (((List.range zs.length).filter fun i => !isBt (fs.getD i .none) (-100) 100).map fun _ => (1 : Int)) = is at ev e2
    subst ev
    refine ⟨Nat.zero_le _, fun q hq => ⟨.list (is.map PyData.int), .list [], .lst ((Same.new hq).seq (.of hy)) (DpAll.ints is), .lst (.of upd_same) .nil, shaped_ints is, rfl, _, rfl, ?_⟩⟩
    have s1 := e.then_new (o := HO.lst []) hq
    have ee : PyData.eqv (.list (is.map PyData.int)) (.list []) = is.isEmpty := by cases is <;> rfl
    rw [ee, e2]
    cases c : areB (.tuple fs) (-100) 100 with
    | false =>
      have := k _ s1
      rw [c, Bool.false_and] at this
      exact iteF this
    | true =>
      have := k _ s1
      rw [c, Bool.true_and] at this
      exact iteT ⟨p, rfl, _, s1.seqT hs, lv, hla, lv, dc, -1000, 1000, rfl, hc.to s1, this⟩
theorem cond_len {n : Int} {ds : List PyData} (h : ¬(ds.length = 3 ∨ ds.length = 4)) : condOk n (.tuple ds) = false := by
  unfold condOk
  split
  · rename_i e
    exact absurd (.inl (by rw [PyData.tuple.inj e]; rfl)) h
  · rename_i e
    exact absurd (.inr (by rw [PyData.tuple.inj e]; rfl)) h
  · rfl
theorem flat_v {H : Hp} {v : V} {d : PyData} (h : Dp K H v d) (f : flatD d = true) : flatV v = true := by
  cases h <;> first | rfl | cases f
theorem in3 {s a b c : Str} : inV (.str s) [.str a, .str b, .str c] = (decide (s = a) || (decide (s = b) || decide (s = c))) := by
  simp only [inV, eqV, List.any_cons, List.any_nil, Bool.or_false, beq_dec]
theorem in3n {H : Hp} {v : V} {d : PyData} {a b c : Str} (h : Dp K H v d) (n : isS d = false) : inV v [.str a, .str b, .str c] = false := by
  cases h <;> first | rfl | cases n
theorem in34 {n : Nat} : inV (.int (n : Int)) [.int 3, .int 4] = (decide (n = 3) || decide (n = 4)) := by
  simp only [inV, eqV, List.any_cons, List.any_nil, Bool.or_false]
  have h : ∀ k : Nat, ((k : Int) == (n : Int)) = decide (n = k) := fun k => by
    by_cases e : n = k
    · subst e
      simp
    · rw [decide_eq_false e, beq_eq_false_iff_ne]
      omega
  exact congr (congrArg _ (h 3)) (h 4)
theorem ok_law_cond (B : Bl mg) (F1 : Df P w K mg base CX0 1 "_law_is_number" pr__law_is_number (spLawNum K)) (D : Dt K mg "_law_is_condition" s__law_is_condition pr__law_is_condition) : Df P w K mg base CX0 2 "_law_is_condition" pr__law_is_condition (spLawCond K) := by
  refine D.ok sc__law_is_condition (fun vs H Q E h => ?_) (fun f cdv A outer s H vs Q E hr h => ?_)
  · obtain ⟨v, d, n, rfl, _⟩ := h
    rfl
  · obtain ⟨v, d, n, rfl, hd, hf, hn, k⟩ := h
    refine ⟨_, (pss_cons (ps_if (PW.pt (pw_or (pt_not (pt_val (pe_callB call_isi (by rfl) B.isinstance boot_isinstance (pa_cons (pv 1) (pa_cons (pe_bltn (v := .ty "tuple") (by rfl) B.tuple PyProof.Rows.boot_tuple rfl) pa_nil))))) (pw_or (pt_cmpR op_notIn_seq (pe_callB call_len_seq (by rfl) B.len PySem.boot_len (pa_cons (pv 1) pa_nil)) (pe_tup (pa_cons pe_int (pa_cons pe_int pa_nil))) (by rfl)) (pw_or1 (pt_cmpR op_notIn_seq (pe_ix ix_tup (pv 1) pe_int (fun _ _ => rfl)) (pe_tup (pa_cons pe_str (pa_cons pe_str (pa_cons pe_str pa_nil)))) (by rfl)))))) (pss_one (ps_ret pe_bl)) pss_nil) (pss_cons (ps_if (pt_cmpR op_ne (pe_callB call_len_seq (by rfl) B.len PySem.boot_len (pa_cons (pv 1) pa_nil)) (pe_ifExp (pt_cmpR op_eq (pe_ix ix_tup (pv 1) pe_int (fun _ _ => rfl)) pe_str (nomark _)) pe_int pe_int) (nomark _)) (pss_one (ps_ret pe_bl)) pss_nil) (pss_cons (ps_if (PW.pt (pw_and (pt_cmpR op_eq (pe_ix ix_tup (pv 1) pe_int (fun _ _ => rfl)) pe_str (nomark _)) (pw_and1 (pt_not (pt_val (pe_f F1 (hr.mono (by decide)) pass0 (pa_cons (pe_ix ix_tup (pv 1) pe_int (fun _ _ => rfl)) (pa_cons pe_int (pa_cons pe_int pa_nil))))))))) (pss_one (ps_ret pe_bl)) pss_nil) (pss_cons (ps_if (PW.pt (pw_or (pt_not (pt_val (pe_callB call_isi (by rfl) B.isinstance boot_isinstance (pa_cons (pe_ix ix_tup (pv 1) (pe_un un_neg pe_int) (fun _ _ => rfl)) (pa_cons (pe_bltn (v := .ty "tuple") (by rfl) B.tuple PyProof.Rows.boot_tuple rfl) pa_nil))))) (pw_or1 (pt_cmpR op_ne (pe_callB call_len_seq (by rfl) B.len PySem.boot_len (pa_cons (pe_ix ix_tup (pv 1) (pe_un un_neg pe_int) (fun _ _ => rfl)) pa_nil)) (pv 0) (nomark _))))) (pss_one (ps_ret pe_bl)) pss_nil) (pss_cons (ps_setLc (i := 2) (own := [("factor", 3)]) (g := gName 3) (tt := _) rfl sc__law_is_condition.nd rfl rfl (sw_true rfl rfl rfl (by decide +kernel)) (pi_tup (pe_ix ix_tup (pv 1) (pe_un un_neg pe_int) (fun _ _ => rfl))) (blkOk_by (own := [("factor", 3)]) (N := nm__law_is_condition) (sc := defScope s__law_is_condition) (by decide +kernel)) (fun _ _ _ _ _ => pg_name (i := 3) sc__law_is_condition.nd rfl (Or.inl rfl)) (fun _ _ _ _ _ => (pts_one (pt_not (pt_val (pe_f F1 (hr.mono (by decide)) pass0 (pa_cons (pv 3) (pa_cons (pe_un un_neg pe_int) (pa_cons pe_int pa_nil)))))))) (fun _ _ _ _ _ => pe_int)) (pss_one (ps_ret (pe_and (pe_cmpR (op_eqD hr.units) (pv 2) (pe_lst pa_nil) (nomark _)) (pe_one (pe_f F1 (hr.mono (by decide)) pass0 (pa_cons (pe_ix ix_tup (pv 1) (pe_un un_neg pe_int) (fun _ _ => rfl)) (pa_cons (pe_un un_neg pe_int) (pa_cons pe_int pa_nil))))))))))))), ?_⟩
    walk_at "nf"
    walk_at "sx"
    have no : (condOk n d = false) → ∀ H', Same H H' → Q (.bl false) H' := fun e H' s => by
      have := k H' s
      rwa [e] at this
    refine isi_tuple hd ⟨_, rfl, ?_⟩
    cases d with
    | tuple ds =>
      obtain ⟨p, xs, rfl, hs, ha⟩ := hd.tup_inv
      have hl := ha.length
      refine iteF ⟨p, rfl, _, .inr hs, by decide, fun t ht => ⟨t, _, rfl, .inr (.of upd_same), rfl, rfl, _, rfl, ?_⟩⟩
      rw [show (if true = true then !inV (V.int (xs.length : Int)) [V.int 3, V.int 4] else inV (V.int (xs.length : Int)) [V.int 3, V.int 4]) = !(decide (xs.length = 3) || decide (xs.length = 4)) by rw [if_pos rfl, in34]]
      have s1 : Same H (upd H t (.tup [V.int 3, V.int 4])) := Same.new ht
      by_cases c34 : ds.length = 3 ∨ ds.length = 4
      · have e34 : (decide (xs.length = 3) || decide (xs.length = 4)) = true := by
          rw [hl]
          rcases c34 with h | h <;> simp [h]
        rw [e34]
        match ds, c34 with
        | d0 :: dr, _ =>
        cases ha with
        | cons h0 hr1 =>
        rename_i x0 xr
        have hfl : flatD d0 = true := hf
        refine iteF ⟨p, rfl, _, s1.seqT hs, _, at0, by decide, fun t2 ht2 => ⟨t2, _, rfl, .inr (.of upd_same), flat_v h0 hfl, rfl, _, rfl, ?_⟩⟩
        have s2 := s1.then_new (o := HO.tup [V.str (Str.ofString "eq"), V.str (Str.ofString "ge"), V.str (Str.ofString "mod")]) ht2
        generalize upd (upd H t (.tup [V.int 3, V.int 4])) t2 (HO.tup [V.str (Str.ofString "eq"), V.str (Str.ofString "ge"), V.str (Str.ofString "mod")]) = H2 at s2 ⊢
        cases hS : isS d0 with
        | false =>
          rw [show (if true = true then !inV x0 [V.str (Str.ofString "eq"), V.str (Str.ofString "ge"), V.str (Str.ofString "mod")] else inV x0 [V.str (Str.ofString "eq"), V.str (Str.ofString "ge"), V.str (Str.ofString "mod")]) = true by rw [if_pos rfl, in3n h0 hS]; rfl]
          refine iteT (no ?_ _ s2)
          cases d0 <;> first | (cases hS; done) | (match dr with
            | [] => rfl
            | [_] => rfl
            | [_, _] => rfl
            | [_, _, _] => rfl
            | _ :: _ :: _ :: _ :: _ => rfl)
        | true =>
          cases h0 with
          | str s0 =>
            rw [show (if true = true then !inV (.str s0) [V.str (Str.ofString "eq"), V.str (Str.ofString "ge"), V.str (Str.ofString "mod")] else inV (.str s0) [V.str (Str.ofString "eq"), V.str (Str.ofString "ge"), V.str (Str.ofString "mod")]) = !(decide (s0 = "eq") || (decide (s0 = "ge") || decide (s0 = "mod"))) by rw [if_pos rfl, in3]]
            have hb := hr1.to s2
            have sq := s2.seqT hs
            have lr := hr1.length
            by_cases cm : s0 = "mod"
            · subst cm
              rw [show (!(decide (("mod" : Str) = "eq") || (decide (("mod" : Str) = "ge") || decide (("mod" : Str) = "mod")))) = false by simp]
              refine iteF ⟨p, rfl, _, .inr sq, p, rfl, _, sq, _, at0, rfl, iteT ⟨rfl, ?_⟩⟩
              match dr, c34 with
              | [_, _], _ =>
                rw [decide_eq_false (by rw [List.length_cons, lr]; simp)]
                exact iteT (no (by simp [condOk, ms_eg.1, ms_eg.2]) _ s2)
              | [d1, d2, d3], _ =>
                obtain ⟨x1, x2, x3, rfl, h1, h2, h3⟩ := hb.three
                refine iteF ⟨p, rfl, _, sq, _, rfl, rfl, iteT ⟨p, rfl, _, sq, _, rfl, x1, d1, 2, 1000, rfl, h1, _, rfl, ?_⟩⟩
                cases e1 : isBt d1 2 1000 with
                | false => exact iteT (no (by simp [condOk, e1]) _ s2)
                | true =>
                  refine iteF ⟨p, rfl, _, sq, _, rfl, isi_tuple h2 ⟨_, rfl, ?_⟩⟩
                  cases d2 with
                  | tuple fs =>
                    obtain ⟨a, zs, rfl, hz, hza⟩ := h2.tup_inv
                    have lz := hza.length
                    refine iteF ⟨p, rfl, _, sq, _, rfl, a, rfl, _, .inr hz, rfl, ?_⟩
                    by_cases c4 : (fs.length : Int) = n
                    · rw [decide_eq_true (by rw [lz]; exact c4)]
                      refine iteF (law_tail sq rfl rfl hz hza h3 (by omega) fun H' e => ?_)
                      have := k H' (s2.trans e)
                      have e5 : isTn (.tuple fs) n = true := by simp [isTn, c4]
                      simp only [condOk, e1, e5, Bool.and_true, decide_true, Bool.true_and] at this
                      rw [Bool.and_comm]
                      exact this
                    · rw [decide_eq_false (by rw [lz]; exact c4)]
                      have e5 : isTn (.tuple fs) n = false := by simp [isTn, c4]
                      exact iteT (no (by simp [condOk, e5]) _ s2)
                  | _ => exact iteT (no (by simp [condOk, isTn]) _ s2)
            · cases ce : (decide (s0 = "eq") || decide (s0 = "ge")) with
              | false =>
                rw [show (!(decide (s0 = "eq") || (decide (s0 = "ge") || decide (s0 = "mod")))) = true by rw [← Bool.or_assoc, ce, decide_eq_false cm]; rfl]
                refine iteT (no ?_ _ s2)
                match dr with
                | [] => rfl
                | [_] => rfl
                | [_, _] => simp only [condOk, ce, Bool.false_and]
                | [_, _, _] => simp [condOk, cm]
                | _ :: _ :: _ :: _ :: _ => rfl
              | true =>
                rw [show (!(decide (s0 = "eq") || (decide (s0 = "ge") || decide (s0 = "mod")))) = false by rw [← Bool.or_assoc, ce]; rfl]
                refine iteF ⟨p, rfl, _, .inr sq, p, rfl, _, sq, _, at0, rfl, ?_⟩
                rw [decide_eq_false (fun z => cm (V.str.inj z))]
                refine iteF ⟨rfl, ?_⟩
                match dr, c34 with
                | [d1, d2], _ =>
                  obtain ⟨x1, x2, rfl, h1, h2⟩ := hb.two
                  refine iteF ⟨p, rfl, _, sq, _, rfl, rfl, ?_⟩
                  rw [decide_eq_false (fun z => cm (V.str.inj z))]
                  refine iteF ⟨p, rfl, _, sq, _, rfl, isi_tuple h1 ⟨_, rfl, ?_⟩⟩
                  cases d1 with
                  | tuple fs =>
                    obtain ⟨a, zs, rfl, hz, hza⟩ := h1.tup_inv
                    have lz := hza.length
                    refine iteF ⟨p, rfl, _, sq, _, rfl, a, rfl, _, .inr hz, rfl, ?_⟩
                    by_cases c4 : (fs.length : Int) = n
                    · rw [decide_eq_true (by rw [lz]; exact c4)]
                      refine iteF (law_tail sq rfl rfl hz hza h2 (by omega) fun H' e => ?_)
                      have := k H' (s2.trans e)
                      have e5 : isTn (.tuple fs) n = true := by simp [isTn, c4]
                      simp only [condOk, ce, e5, Bool.and_true, Bool.true_and] at this
                      rw [Bool.and_comm]
                      exact this
                    · rw [decide_eq_false (by rw [lz]; exact c4)]
                      have e5 : isTn (.tuple fs) n = false := by simp [isTn, c4]
                      exact iteT (no (by simp [condOk, e5]) _ s2)
                  | _ => exact iteT (no (by simp [condOk, isTn]) _ s2)
                | [_, _, _], _ =>
                  rw [decide_eq_false (by rw [List.length_cons, lr]; simp)]
                  exact iteT (no (by simp [condOk, cm]) _ s2)
          | _ => cases hS
      · have e34 : (decide (xs.length = 3) || decide (xs.length = 4)) = false := by
          rw [hl]
          simp only [not_or] at c34
          simp [c34.1, c34.2]
        rw [e34]
        exact iteT (no (cond_len c34) _ s1)
    | _ => exact iteT (no rfl _ (Same.refl _))
end
end Ws
/-! ## Y6 -/
namespace Ws
open PySem PySem.Spec PyProof.Rows L2 RZ
local macro_rules | `(tactic| walk_at "nf") => `(tactic| dsimp only [tNext, tSeq, tDrop, tRet, tRetN, tIfS, tAsg, gName, gTup, gCons, gNil, tVar, tC, tOp, tUn, rI, rI0, rU, rEq, rNe, tTest, tChain, tAnd, tOr, tNot, tAndV, tOrV, tNotV, tIf, tCB, tCKw, tCons, tNil, tTup, tLst, tCa, tCallS, tB, rIxT, rIxL, rIxS, cxOf, Cx.nox, Cx.wish, Cx.blk, L2.start, tPar, tPar3, tNever, tYes, tBits, tRz, tBM, rAppend, tyV, tXf, suiteEnds, gSub, rSetL, tBreak, rMax, tDGet, sDPut, tSl, tNoPart, tPart, tDisp, tPairs, tDGet2, tDNewK])
local macro_rules | `(tactic| walk_at "sx") => `(tactic| simp only [wipe, List.cons.injEq, and_assoc, exists_and_left, and_true, List.map_cons, List.map_nil, List.length_cons, List.length_nil, List.cons_append, List.nil_append, List.append_nil, Nat.reduceAdd, Nat.reduceSub, List.replicate, List.getElem?_cons_zero, List.getElem?_cons_succ, List.set_cons_zero, List.set_cons_succ, Option.some.injEq, V.int.injEq, V.bl.injEq, V.ref.injEq, V.str.injEq, exists_eq_left', exists_eq_left, true_and, Bool.true_eq_false, Bool.false_eq_true, if_true, if_false])

abbrev s__law_condition : Stmt := top 38
abbrev nm__law_condition : List Str := ["state", "count_so", "factors", "const", "pick", "place"]
abbrev pr__law_condition : List Str := ["state", "count_so"]
theorem sc__law_condition : FnScope nm__law_condition pr__law_condition (defScope s__law_condition) := ⟨rfl, rfl, rfl, by decide +kernel, rfl, by decide +kernel, by decide +kernel⟩
abbrev s__law_equations : Stmt := top 39
abbrev nm__law_equations : List Str := ["state", "most", "count_so", "rows", "step"]
abbrev pr__law_equations : List Str := ["state", "most"]
theorem sc__law_equations : FnScope nm__law_equations pr__law_equations (defScope s__law_equations) := ⟨rfl, rfl, rfl, by decide +kernel, rfl, by decide +kernel, by decide +kernel⟩
abbrev s__law_onto : Stmt := top 40
abbrev nm__law_onto : List Str := ["one", "other", "often", "number", "more"]
abbrev pr__law_onto : List Str := ["one", "other", "often"]
theorem sc__law_onto : FnScope nm__law_onto pr__law_onto (defScope s__law_onto) := ⟨rfl, rfl, rfl, by decide +kernel, rfl, by decide +kernel, by decide +kernel⟩
abbrev s__law_numbers : Stmt := top 48
abbrev nm__law_numbers : List Str := ["state", "count_so", "limit", "place"]
abbrev pr__law_numbers : List Str := ["state", "count_so"]
theorem sc__law_numbers : FnScope nm__law_numbers pr__law_numbers (defScope s__law_numbers) := ⟨rfl, rfl, rfl, by decide +kernel, rfl, by decide +kernel, by decide +kernel⟩
theorem ints_bd {ys : List V} {lo hi : Int} (h : ∀ (i : Nat) (y : V), ys[i]? = some y → ∃ z : Int, y = V.int z ∧ lo ≤ z ∧ z ≤ hi) : ∃ zs : List Int, ys = zs.map V.int ∧ zs.length = ys.length ∧ ∀ z ∈ zs, lo ≤ z ∧ z ≤ hi := by
  induction ys with
  | nil => exact ⟨[], rfl, rfl, fun c hc => absurd hc (by simp)⟩
  | cons y ys ih =>
    obtain ⟨zs, rfl, hl, hz⟩ := ih fun i z hi => h (i + 1) z (by simpa using hi)
    obtain ⟨z, rfl, h1, h2⟩ := h 0 y rfl
    refine ⟨z :: zs, rfl, by simp, fun x hx => ?_⟩
    rcases List.mem_cons.mp hx with rfl | hx
    · exact ⟨h1, h2⟩
    · exact hz x hx
def CdS (r : Cd) : Prop := ∀ f ∈ r.fs, -2 ≤ f ∧ f ≤ 2
def spCondition (K : PySem.W.Frag) : Sp := fun vs H Q _ => ∃ (a l c : Addr) (m n : Nat), vs = [.ref a, .int n] ∧ LSt H a l c m ∧ m ≤ 900000 ∧ n ≤ 12 ∧ ∀ H' u r, Sbt a l H H' → LSt H' a l c (m + 20) → CdOk n r → Dp K H' u (cdD r) → Q u H'
def spEquations (K : PySem.W.Frag) : Sp := fun vs H Q _ => ∃ (a l c : Addr) (m : Nat), vs = [.ref a, .int 3] ∧ LSt H a l c m ∧ m ≤ 800000 ∧ ∀ H' u n rs, Sbt a l H H' → LSt H' a l c (m + 100) → EqOk n rs → n ≤ 3 → rs.length ≤ 3 → Dp K H' u (eqD n rs) → Q u H'
def spOnto (K : PySem.W.Frag) : Sp := fun vs H Q _ => ∃ (ov tv : V) (xs ys : List Int) (z : Int), vs = [ov, tv, .int z] ∧ Dp K H ov (intsD xs) ∧ Dp K H tv (intsD ys) ∧ xs.length = ys.length ∧ xs.length ≤ 12 ∧ 0 ≤ z ∧ z < 10 ^ 21 ∧ (∀ y ∈ ys, 0 ≤ y ∧ y ≤ 10 ^ 31) ∧ ∀ H' u, Same H H' → Dp K H' u (intsD ((List.range xs.length).map fun i => xs.getD i 0 + z * ys.getD i 0)) → Q u H'
def spNumbers (K : PySem.W.Frag) : Sp := fun vs H Q _ => ∃ (a l c : Addr) (m n : Nat), vs = [.ref a, .int n] ∧ LSt H a l c m ∧ m ≤ 900000 ∧ n ≤ 12 ∧ ∀ H' u xs, Sbt a l H H' → LSt H' a l c (m + 20) → xs.length = n → (∀ x ∈ xs, 0 ≤ x ∧ x < 10 ^ 30) → Dp K H' u (intsD xs) → Q u H'
section
variable {P : Program} {w : World} {K : PySem.W.Frag} {mg : Str → Option Value} {base : Heap}
theorem ok_law_fault (B : Bl mg) (F1 : Df P w K mg base CX0 1 "_law_is_number" pr__law_is_number (spLawNum K)) (F2 : Df P w K mg base CX0 2 "_law_is_condition" pr__law_is_condition (spLawCond K)) (D : Dt K mg "_law_fault" s__law_fault pr__law_fault) : Df P w K mg base CX0 3 "_law_fault" pr__law_fault (spLawFault K) := by
  refine D.ok sc__law_fault (fun vs H Q E h => ?_) (fun f cdv A outer s H vs Q E hr h => ?_)
  · obtain ⟨v, d, rfl, _⟩ := h
    rfl
  · obtain ⟨v, d, rfl, hd, hf, k⟩ := h
    refine ⟨_, (pss_cons (ps_if (PW.pt (pw_or (pt_not (pt_val (pe_callB call_isi (by rfl) B.isinstance boot_isinstance (pa_cons (pv 0) (pa_cons (pe_bltn (v := .ty "tuple") (by rfl) B.tuple PyProof.Rows.boot_tuple rfl) pa_nil))))) (pw_or1 (pt_cmpR op_ne (pe_callB call_len_seq (by rfl) B.len PySem.boot_len (pa_cons (pv 0) pa_nil)) pe_int (nomark _))))) (pss_one (ps_ret (pe_tup pa_nil))) pss_nil) (pss_cons (ps_if (pt_not (pt_val (pe_f F1 (hr.mono (by decide)) pass0 (pa_cons (pe_ix ix_tup (pv 0) pe_int (fun _ _ => rfl)) (pa_cons pe_int (pa_cons pe_int pa_nil)))))) (pss_one (ps_ret (pe_tup (pa_cons pe_int pa_nil)))) pss_nil) (pss_cons (ps_if (PW.pt (pw_or (pt_not (pt_val (pe_callB call_isi (by rfl) B.isinstance boot_isinstance (pa_cons (pe_ix ix_tup (pv 0) pe_int (fun _ _ => rfl)) (pa_cons (pe_bltn (v := .ty "tuple") (by rfl) B.tuple PyProof.Rows.boot_tuple rfl) pa_nil))))) (pw_or1 (pt_cmpR op_gt (pe_callB call_len_seq (by rfl) B.len PySem.boot_len (pa_cons (pe_ix ix_tup (pv 0) pe_int (fun _ _ => rfl)) pa_nil)) pe_int (nomark _))))) (pss_one (ps_ret (pe_tup (pa_cons pe_int pa_nil)))) pss_nil) (pss_cons (ps_for PassesOwn.never rfl (pi_enumT (by rfl) B.enumerate (pa_cons (pe_ix ix_tup (pv 0) pe_int (fun _ _ => rfl)) pa_nil)) (pg_tup rfl (pgs_cons (pg_name (i := 1) sc__law_fault.nd rfl (Or.inl rfl)) (pgs_cons (pg_name (i := 2) sc__law_fault.nd rfl (Or.inl rfl)) pgs_nil))) (pss_one (ps_if (pt_not (pt_val (pe_f F2 (hr.mono (by decide)) pass0 (pa_cons (pe_ix ix_tup (pv 0) pe_int (fun _ _ => rfl)) (pa_cons (pv 2) pa_nil))))) (pss_one (ps_ret (pe_tup (pa_cons pe_int (pa_cons (pv 1) pa_nil))))) pss_nil))) (pss_one (ps_ret pe_non)))))), ?_⟩
    walk_at "nf"
    walk_at "sx"
    have out : ∀ (xs : List Int), eqFault d = some (intsD xs) → ∀ {H1 : Hp} {p : Addr}, Same H H1 → H1 p = none → Q (V.ref p) (upd H1 p (.tup (xs.map V.int))) := fun xs e _ _ s1 hp =>
      k _ _ (s1.then_new hp) (by rw [e]; exact .tup (.of upd_same) (DpAll.ints xs))
    refine isi_tuple hd ⟨_, rfl, ?_⟩
    cases d with
    | tuple ds =>
      obtain ⟨a, xs, rfl, hs, ha⟩ := hd.tup_inv
      have hl0 := ha.length
      refine iteF ⟨a, rfl, _, .inr hs, rfl, ?_⟩
      by_cases c2 : ds.length = 2
      · rw [decide_eq_true (by rw [hl0, c2]; rfl)]
        match ds, c2 with
        | [c, rows], _ =>
        obtain ⟨cv, rv, rfl, hc, hrw⟩ := ha.two
        refine iteF ⟨a, rfl, _, hs, _, rfl, cv, c, 1, 12, rfl, hc, _, rfl, ?_⟩
        cases e1 : isBt c 1 12 with
        | false =>
          have ef : eqFault (.tuple [c, rows]) = some (intsD [0]) := by simp [eqFault, e1, intsD]
          exact iteT ⟨by decide, fun p hp => out [0] ef (Same.refl _) hp⟩
        | true =>
          refine iteF ⟨a, rfl, _, hs, _, rfl, isi_tuple hrw ⟨_, rfl, ?_⟩⟩
          cases rows with
          | tuple ds =>
            obtain ⟨b, zs, rfl, hs2, ha2⟩ := hrw.tup_inv
            have hl2 := ha2.length
            refine iteF ⟨a, rfl, _, hs, _, rfl, b, rfl, _, .inr hs2, ?_⟩
            by_cases c12 : ds.length ≤ 12
            · rw [decide_eq_false (by rw [hl2]; omega)]
              obtain ⟨n, rfl⟩ : ∃ n, c = .int n := by
                cases c with
                | int n => exact ⟨n, rfl⟩
                | _ => cases e1
              have hc2 := hc.int_inv
              subst hc2
              have hn : 1 ≤ n ∧ n ≤ 12 := by simpa [isBt] using e1
              have ef2 : eqFault (.tuple [.int n, .tuple ds]) = (firstBad n 0 ds).map fun i => intsD [1, (i : Nat)] := by
                simp [eqFault, e1, c12, intsD, iOf]
              refine iteF ⟨_, rfl, a, _, 1, _, rfl, rfl, hs, rfl, b, zs, rfl, hs2, for_it (walk_enumT (xs := zs)) (fun i σ H' => Same H H' ∧ (∃ v4 v5, σ = [some (.ref a), v4, v5]) ∧ firstBad n 0 ds = firstBad n i (ds.drop i)) ⟨Same.refl _, ⟨_, _, rfl⟩, rfl⟩ (fun i σ H' _ p => p.1.seqT hs2) (fun i x σ H1 H2 hi p y => ?_) (fun σ H1 p => ?_)⟩
              · obtain ⟨s1, ⟨v4, v5, rfl⟩, fb⟩ := p
                obtain ⟨T, x1, x2, rfl, hT, rfl, h1, h2⟩ := y
                obtain rfl : V.int (i : Nat) = x1 := Option.some.inj h1
                obtain ⟨d2, hd1, hd2⟩ := ha2.getV h2
                have s2 : Same H1 (upd H1 T (.tup [V.int (i : Nat), x2])) := Same.new hT
                have hi2 : i < ds.length := by rw [← hl2]; exact hi
                have hm2 : d2 ∈ ds := by
                  rw [List.getElem?_eq_getElem hi2] at hd1
                  rw [← Option.some.inj hd1]
                  exact List.getElem_mem hi2
                have dr : ds.drop i = d2 :: ds.drop (i + 1) := by
                  rw [List.drop_eq_getElem_cons hi2]
                  rw [List.getElem?_eq_getElem hi2] at hd1
                  rw [Option.some.inj hd1]
                walk_at "nf"
                refine ⟨T, _, rfl, .of upd_same, rfl, ?_⟩
                walk_at "sx"
                refine ⟨_, (s1.trans s2).seqT hs, _, rfl, x2, d2, n, rfl, (hd2.to s1).to s2, hf _ _ rfl d2 hm2, by omega, fun H3 s3 => ⟨_, rfl, ?_⟩⟩
                have s4 := (s1.trans s2).trans s3
                cases e5 : condOk n d2 with
                | false =>
                  refine iteT ⟨by decide, fun p hp => out [1, (i : Nat)] ?_ s4 hp⟩
                  rw [ef2, fb, dr]
                  simp [firstBad, e5]
                | true =>
                  refine iteF ⟨s4, ⟨_, rfl⟩, ?_⟩
                  rw [fb, dr]
                  simp [firstBad, e5]
              · obtain ⟨s1, ⟨v4, v5, rfl⟩, fb⟩ := p
                walk_at "nf"
                refine k _ _ s1 ?_
                rw [ef2, fb, hl2, List.drop_length]
                exact .non
            · rw [decide_eq_true (by rw [hl2]; omega)]
              have ef : eqFault (.tuple [c, .tuple ds]) = some (intsD [1]) := by simp [eqFault, e1, c12, intsD]
              exact iteT ⟨by decide, fun p hp => out [1] ef (Same.refl _) hp⟩
          | _ =>
            refine iteT ⟨by decide, fun p hp => out [1] ?_ (Same.refl _) hp⟩
            simp [eqFault, e1, intsD]
      · rw [decide_eq_false (by rw [hl0]; omega)]
        have ef : eqFault (.tuple ds) = some (intsD []) := by
          unfold eqFault
          split
          · rename_i e
            exact absurd (by rw [PyData.tuple.inj e]; rfl) c2
          · rfl
        exact iteT ⟨by decide, fun p hp => out [] ef (Same.refl _) hp⟩
    | _ => exact iteT ⟨by decide, fun p hp => out [] rfl (Same.refl _) hp⟩
theorem ok_law_condition (B : Bl mg) (F1 : Df P w K mg base CX0 2 "_law_draw" pr__law_draw spDrawW) (D : Dt K mg "_law_condition" s__law_condition pr__law_condition) : Df P w K mg base CX0 3 "_law_condition" pr__law_condition (spCondition K) := by
  refine D.ok sc__law_condition (fun vs H Q E h => ?_) (fun f cdv A outer s H vs Q E hr h => ?_)
  · obtain ⟨a, l, c, m, n, rfl, _⟩ := h
    rfl
  · obtain ⟨a, l, c, m, n, rfl, hl, hm, hn, k⟩ := h
    refine ⟨_, (pss_cons (ps_set (i := 2) sc__law_condition.nd rfl (Or.inl rfl) (pe_callTy call_tuple_of (by rfl) B.tuple PyProof.Rows.boot_tuple (pa_cons (pe_lc (own := [("place", 5)]) (g := gName 5) (tt := tYes) (by rfl) sc__law_condition.nd (pi_range1 (by rfl) B.range (pa_cons (pv 1) pa_nil)) (blkOk_by (own := [("place", 5)]) (N := nm__law_condition) (sc := defScope s__law_condition) (by decide +kernel)) (fun _ _ _ _ _ => pg_name (i := 5) sc__law_condition.nd rfl (Or.inl rfl)) (fun _ _ _ _ _ => pts_nil) (fun _ _ _ _ _ => (pe_op op_sub (pe_f F1 (hr.mono (by decide)) pass0 (pa_cons (pv 0) (pa_cons pe_int pa_nil))) pe_int))) pa_nil))) (pss_cons (ps_set (i := 3) sc__law_condition.nd rfl (Or.inl rfl) (pe_op op_sub (pe_f F1 (hr.mono (by decide)) pass0 (pa_cons (pv 0) (pa_cons pe_int pa_nil))) pe_int)) (pss_cons (ps_set (i := 4) sc__law_condition.nd rfl (Or.inl rfl) (pe_f F1 (hr.mono (by decide)) pass0 (pa_cons (pv 0) (pa_cons pe_int pa_nil)))) (pss_cons (ps_if (pt_cmpR op_lt (pv 4) pe_int (nomark _)) (pss_one (ps_ret (pe_tup (pa_cons pe_str (pa_cons (pv 2) (pa_cons (pv 3) pa_nil)))))) pss_nil) (pss_one (ps_ret (pe_ifExp (pt_cmpR op_eq (pv 4) pe_int (nomark _)) (pe_tup (pa_cons pe_str (pa_cons (pe_op op_add pe_int (pe_f F1 (hr.mono (by decide)) pass0 (pa_cons (pv 0) (pa_cons pe_int pa_nil)))) (pa_cons (pv 2) (pa_cons (pv 3) pa_nil))))) (pe_tup (pa_cons pe_str (pa_cons (pv 2) (pa_cons (pv 3) pa_nil))))))))))), ?_⟩
    walk_at "nf"
    walk_at "sx"
    refine ⟨_, rfl, _, rfl, by omega, by omega, fun D hD => ?_⟩
    rw [Int.toNat_natCast]
    refine lcD walk_range 1 hD (slt (by omega)) (fun _ y => ∃ z : Int, y = V.int z ∧ -2 ≤ z ∧ z ≤ 2) hl (fun _ => trivial) (fun i x H1 H2 Q1 hi e1 s1 y q => ?_) (fun H1 ys e1 s1 hD1 hn1 hR => ?_)
    · obtain ⟨rfl, rfl⟩ := y
      walk_at "nf"
      walk_at "sx"
      exact ⟨a, l, c, _, 5, rfl, s1, by omega, by decide, by decide, fun H3 r e3 s3 r1 r2 => ⟨r, rfl, q _ _ ⟨r - 2, rfl, by omega, by omega⟩ e3 (s3.mono (by omega))⟩⟩
    · obtain ⟨fs, rfl, hfl, hfb⟩ := ints_bd hR
      have hfn : fs.length = n := by rw [hfl]; exact hn1
      refine ⟨D, rfl, _, .inl ⟨.of hD1, fun t ht => ⟨a, l, c, _, 7, rfl, s1.new ht, by omega, by decide, by decide, fun H2 r e2 s2 r1 r2 => ⟨r, rfl, a, l, c, _, 6, rfl, s2, by omega, by decide, by decide, fun H3 r' e3 s3 r3 r4 => ⟨r', rfl, ?_⟩⟩⟩⟩⟩
      have d1 : Dp K (upd H1 t (.tup (fs.map V.int))) (.ref t) (intsD fs) := .tup (.of upd_same) (DpAll.ints fs)
      have d3 := keepT e3 s2 _ _ (noList_ints fs) (keepT e2 (s1.new ht) _ _ (noList_ints fs) d1)
      have e13 : Sbt a l H H3 := ((e1.same (Same.new ht)).trans e2).trans e3
      have hb : ∀ f ∈ fs, -100 ≤ f ∧ f ≤ 100 := fun f hf => by have := hfb f hf; omega
      by_cases c2 : r' < 2
      · rw [decide_eq_true c2]
        refine iteT ⟨by decide, fun p hp => k _ _ (.eq fs (r - 3)) (e13.same (Same.new hp)) ((s3.new hp).mono (by omega)) ⟨hfn, hb, ⟨by show -1000 ≤ r - 3; omega, by show r - 3 ≤ 1000; omega⟩, fun _ _ _ z => by cases z⟩ ?_⟩
        exact .tup (.of upd_same) (.cons (.str _) (.cons (d3.to (Same.new hp)) (.cons (.int _) .nil)))
      · rw [decide_eq_false c2]
        refine iteF ⟨rfl, ?_⟩
        by_cases c3 : r' = 2
        · rw [decide_eq_true (by rw [c3])]
          refine iteT ⟨a, l, c, _, 3, rfl, s3, by omega, by decide, by decide, fun H4 r5 e4 s4 r6 r7 => ⟨r5, rfl, by decide, fun p hp => k _ _ (.md (2 + r5) fs (r - 3)) ((e13.trans e4).same (Same.new hp)) ((s4.new hp).mono (by omega)) ⟨hfn, hb, ⟨by show -1000 ≤ r - 3; omega, by show r - 3 ≤ 1000; omega⟩, fun m2 f2 c2 z => by cases z; omega⟩ ?_⟩⟩
          exact .tup (.of upd_same) (.cons (.str _) (.cons (.int _) (.cons ((keepT e4 s3 _ _ (noList_ints fs) d3).to (Same.new hp)) (.cons (.int _) .nil))))
        · rw [decide_eq_false (fun z => c3 (V.int.inj z))]
          refine iteF ⟨by decide, fun p hp => k _ _ (.ge fs (r - 3)) (e13.same (Same.new hp)) ((s3.new hp).mono (by omega)) ⟨hfn, hb, ⟨by show -1000 ≤ r - 3; omega, by show r - 3 ≤ 1000; omega⟩, fun _ _ _ z => by cases z⟩ ?_⟩
          exact .tup (.of upd_same) (.cons (.str _) (.cons (d3.to (Same.new hp)) (.cons (.int _) .nil)))
theorem cds_of {n : Nat} {ds : List PyData} (h : ∀ (i : Nat) (d : PyData), ds[i]? = some d → ∃ r, d = cdD r ∧ CdOk n r) : ∃ rs : List Cd, ds = rs.map cdD ∧ ∀ r ∈ rs, CdOk n r := by
  induction ds with
  | nil => exact ⟨[], rfl, by simp⟩
  | cons d ds ih =>
    obtain ⟨rs, rfl, hr⟩ := ih fun i z hi => h (i + 1) z (by simpa using hi)
    obtain ⟨r, rfl, ho⟩ := h 0 d rfl
    refine ⟨r :: rs, rfl, fun x hx => ?_⟩
    rcases List.mem_cons.mp hx with rfl | hx
    · exact ho
    · exact hr x hx
theorem ok_law_equations (B : Bl mg) (F1 : Df P w K mg base CX0 2 "_law_draw" pr__law_draw spDrawW) (F2 : Df P w K mg base CX0 3 "_law_condition" pr__law_condition (spCondition K)) (D : Dt K mg "_law_equations" s__law_equations pr__law_equations) : Df P w K mg base CX0 4 "_law_equations" pr__law_equations (spEquations K) := by
  refine D.ok sc__law_equations (fun vs H Q E h => ?_) (fun f cdv A outer s H vs Q E hr h => ?_)
  · obtain ⟨a, l, c, m, rfl, _⟩ := h
    rfl
  · obtain ⟨a, l, c, m, rfl, hl, hm, k⟩ := h
    refine ⟨_, (pss_cons (ps_set (i := 2) sc__law_equations.nd rfl (Or.inr rfl) (pe_op op_add pe_int (pe_f F1 (hr.mono (by decide)) pass0 (pa_cons (pv 0) (pa_cons pe_int pa_nil))))) (pss_cons (ps_setLc (i := 3) (own := [("step", 4)]) (g := gName 4) (tt := tYes) rfl sc__law_equations.nd rfl rfl (sw_true rfl rfl rfl (by decide +kernel)) (pi_range1 (by rfl) B.range (pa_cons (pe_f F1 (hr.mono (by decide)) pass0 (pa_cons (pv 0) (pa_cons (pe_op op_add (pv 1) pe_int) pa_nil))) pa_nil)) (blkOk_by (own := [("step", 4)]) (N := nm__law_equations) (sc := defScope s__law_equations) (by decide +kernel)) (fun _ _ _ _ _ => pg_name (i := 4) sc__law_equations.nd rfl (Or.inl rfl)) (fun _ _ _ _ _ => pts_nil) (fun _ _ _ _ _ => (pe_f F2 (hr.mono (by decide)) pass0 (pa_cons (pv 0) (pa_cons (pv 2) pa_nil))))) (pss_one (ps_ret (pe_tup (pa_cons (pv 2) (pa_cons (pe_callTy call_tuple_of (by rfl) B.tuple PyProof.Rows.boot_tuple (pa_cons (pv 3) pa_nil)) pa_nil))))))), ?_⟩
    walk_at "nf"
    walk_at "sx"
    refine ⟨a, l, c, m, 3, rfl, hl, by omega, by decide, by decide, fun H1 r e1 s1 r1 r2 => ⟨r, rfl, ?_⟩⟩
    obtain ⟨r, rfl⟩ : ∃ z : Nat, r = (z : Int) := ⟨r.toNat, by omega⟩
    have ei : (1 + (r : Int)) = ((1 + r : Nat) : Int) := by omega
    rw [ei]
    refine ⟨_, rfl, _, rfl, 3, 1, rfl, rfl, a, l, c, _, _, rfl, s1, by omega, by omega, by omega, fun H2 r' e2 s2 r3 r4 => ⟨r', rfl, by omega, by omega, fun D hD => ?_⟩⟩
    obtain ⟨r', rfl⟩ : ∃ z : Nat, r' = (z : Int) := ⟨r'.toNat, by omega⟩
    rw [Int.toNat_natCast]
    refine lcN (K := K) walk_range 20 hD (slt (by omega)) (fun _ d => ∃ r0, d = cdD r0 ∧ CdOk (1 + r) r0) (fun i d h => by obtain ⟨r0, rfl, _⟩ := h; exact noList_cd r0) s2 (fun _ _ => trivial) (fun i x H3 H4 Q1 hi e3 s3 y q => ?_) (fun H3 ys ds e3 s3 hD3 ha hn3 hR nl => ?_)
    · obtain ⟨rfl, rfl⟩ := y
      walk_at "nf"
      walk_at "sx"
      exact ⟨a, l, c, _, 1 + r, rfl, s3, by omega, by omega, fun H5 u r0 e5 s5 o hu => q _ _ _ ⟨r0, rfl, o⟩ hu e5 (s5.mono (by omega))⟩
    · obtain ⟨rs, rfl, hrs⟩ := cds_of hR
      rw [List.length_map] at hn3
      have e13 : Sbt a l H H3 := (e1.trans e2).trans e3
      refine ⟨D, rfl, _, .inl ⟨.of hD3, fun t ht => ⟨by decide, fun p hp => ?_⟩⟩⟩
      have npt := ne_of_none (upd_same (H := H3) (a := t) (o := .tup ys)) hp
      refine k _ _ (1 + r) rs ((e13.same (Same.new ht)).same (Same.new hp)) (((s3.new ht).new hp).mono (by omega)) ⟨by omega, by omega, by omega, hrs⟩ (by omega) (by omega) ?_
      exact .tup (.of upd_same) (.cons (.int _) (.cons (.tup (.of (by rw [upd_ne npt]; exact upd_same)) (((ha.to (Same.new ht)).to (Same.new hp)))) .nil))
theorem ok_law_onto (B : Bl mg) (D : Dt K mg "_law_onto" s__law_onto pr__law_onto) : Df P w K mg base CX0 1 "_law_onto" pr__law_onto (spOnto K) := by
  refine D.ok sc__law_onto (fun vs H Q E h => ?_) (fun f cdv A outer s H vs Q E hr h => ?_)
  · obtain ⟨ov, tv, xs, ys, z, rfl, _⟩ := h
    rfl
  · obtain ⟨ov, tv, xs, ys, z, rfl, ha, hb, hl, hn, z1, z2, hy, k⟩ := h
    obtain ⟨p, rfl, hp⟩ := ha.ints_tup
    obtain ⟨q, rfl, hq⟩ := hb.ints_tup
    refine ⟨_, (pss_one (ps_ret (pe_callTy call_tuple_of (by rfl) B.tuple PyProof.Rows.boot_tuple (pa_cons (pe_lc (own := [("number", 3), ("more", 4)]) (g := gTup K 2 (gCons (gName 3) (gCons (gName 4) gNil))) (tt := tYes) (by rfl) sc__law_onto.nd (pi_zipA (by rfl) B.zip (pa_cons (pv 0) (pa_cons (pv 1) pa_nil))) (blkOk_by (own := [("number", 3), ("more", 4)]) (N := nm__law_onto) (sc := defScope s__law_onto) (by decide +kernel)) (fun _ _ _ _ _ => pg_tup rfl (pgs_cons (pg_name (i := 3) sc__law_onto.nd rfl (Or.inl rfl)) (pgs_cons (pg_name (i := 4) sc__law_onto.nd rfl (Or.inl rfl)) pgs_nil))) (fun _ _ _ _ _ => pts_nil) (fun _ _ _ _ _ => (pe_op op_add (pv 3) (pe_op op_mulW (pv 2) (pv 4))))) pa_nil)))), ?_⟩
    walk_at "nf"
    walk_at "sx"
    refine ⟨_, rfl, _, rfl, p, q, _, _, rfl, .inr ⟨hp, hq, fun D hD => lcS walk_zipT hD (by simp only [List.length_map]; exact slt (by omega)) (fun i y => y = .int (xs.getD i 0 + z * ys.getD i 0)) (fun H1 e => ⟨e.seqT hp, e.seqT hq⟩) (fun i x H1 H2 Q1 hi e y q1 => ?_) (fun H1 ws e hD1 hn1 hr => ?_)⟩⟩
    · obtain ⟨T, x1, x2, rfl, hT, rfl, h1, h2⟩ := y
      simp only [List.length_map] at hi
      have i1 : i < xs.length := by omega
      have i2 : i < ys.length := by omega
      have f1 : x1 = V.int (xs.getD i 0) := by
        have : (xs.map V.int)[i]? = some (V.int (xs.getD i 0)) := by simp [i1]
        exact Option.some.inj (h1.symm.trans this)
      have f2 : x2 = V.int (ys.getD i 0) := by
        have : (ys.map V.int)[i]? = some (V.int (ys.getD i 0)) := by simp [i2]
        exact Option.some.inj (h2.symm.trans this)
      subst f1 f2
      obtain ⟨b1, b2⟩ := hy (ys.getD i 0) (by simp [i2])
      walk_at "nf"
      refine ⟨T, _, rfl, .of upd_same, rfl, ?_⟩
      walk_at "sx"
      exact ⟨wide_mul (a := 80) (b := 120) (by have h0 : (10 : Int) ^ 21 < 2 ^ 80 := (by decide +kernel); omega) (by have h0 : (10 : Int) ^ 31 < 2 ^ 120 := (by decide +kernel); omega) (by decide) (by decide) (by decide), q1 _ _ rfl (Same.new hT)⟩
    · have ev := vals_int (f := fun i => xs.getD i 0 + z * ys.getD i 0) hn1 hr
      simp only [List.length_map, ← hl, Nat.min_self] at ev
      refine ⟨D, rfl, ws, .inl ⟨.of hD1, fun t ht => k _ _ (e.then_new ht) ?_⟩⟩
      rw [ev]
      exact .tup (.of upd_same) (DpAll.ints _)
theorem ok_law_numbers (B : Bl mg) (F1 : Df P w K mg base CX0 2 "_law_draw" pr__law_draw spDrawW) (F2 : Df P w K mg base CX0 3 "_law_of" pr__law_of spOf) (D : Dt K mg "_law_numbers" s__law_numbers pr__law_numbers) : Df P w K mg base CX0 4 "_law_numbers" pr__law_numbers (spNumbers K) := by
  refine D.ok sc__law_numbers (fun vs H Q E h => ?_) (fun f cdv A outer s H vs Q E hr h => ?_)
  · obtain ⟨a, l, c, m, n, rfl, _⟩ := h
    rfl
  · obtain ⟨a, l, c, m, n, rfl, hl, hm, hn, k⟩ := h
    refine ⟨_, (pss_cons (ps_set (i := 2) sc__law_numbers.nd rfl (Or.inr rfl) (pe_f F2 (hr.mono (by decide)) pass0 (pa_cons (pv 0) (pa_cons (pe_lst (pa_cons pe_int (pa_cons pe_int (pa_cons (pe_op op_pow pe_int pe_int) pa_nil)))) pa_nil)))) (pss_one (ps_ret (pe_callTy call_tuple_of (by rfl) B.tuple PyProof.Rows.boot_tuple (pa_cons (pe_lc (own := [("place", 3)]) (g := gName 3) (tt := tYes) (by rfl) sc__law_numbers.nd (pi_range1 (by rfl) B.range (pa_cons (pv 1) pa_nil)) (blkOk_by (own := [("place", 3)]) (N := nm__law_numbers) (sc := defScope s__law_numbers) (by decide +kernel)) (fun _ _ _ _ _ => pg_name (i := 3) sc__law_numbers.nd rfl (Or.inl rfl)) (fun _ _ _ _ _ => pts_nil) (fun _ _ _ _ _ => (pe_f F1 (hr.mono (by decide)) pass0 (pa_cons (pv 0) (pa_cons (pv 2) pa_nil))))) pa_nil))))), ?_⟩
    walk_at "nf"
    walk_at "sx"
    refine ⟨⟨by decide, by decide, by decide⟩, by decide, fun p hp => ?_⟩
    obtain ⟨pa, pl, pc⟩ := hl.off hp
    refine ⟨a, l, c, p, m, _, rfl, hl.new hp, by omega, upd_same, pa, pl, by decide, by decide, fun H2 x e2 s2 hx => ?_⟩
    have hx2 : ∃ lim : Int, x = .int lim ∧ 1 ≤ lim ∧ lim ≤ 10 ^ 30 := by
      simp only [List.mem_cons, List.not_mem_nil, or_false] at hx
      rcases hx with rfl | rfl | rfl
      · exact ⟨4, rfl, by decide, by decide⟩
      · exact ⟨9, rfl, by decide, by decide⟩
      · exact ⟨10 ^ 30, rfl, by decide, by decide⟩
    obtain ⟨lim, rfl, l1, l2⟩ := hx2
    have h0 : (10 : Int) ^ 30 < 2 ^ 220 := (by decide +kernel)
    refine ⟨_, rfl, _, rfl, by omega, by omega, fun D hD => ?_⟩
    rw [Int.toNat_natCast]
    refine lcD walk_range 1 hD (slt (by omega)) (fun _ y => ∃ z : Int, y = V.int z ∧ 0 ≤ z ∧ z ≤ 10 ^ 30 - 1) s2 (fun _ => trivial) (fun i x H3 H4 Q1 hi e3 s3 y q => ?_) (fun H3 ys e3 s3 hD3 hn3 hR => ?_)
    · obtain ⟨rfl, rfl⟩ := y
      walk_at "nf"
      walk_at "sx"
      exact ⟨a, l, c, _, lim, rfl, s3, by omega, l1, by omega, fun H5 r e5 s5 r1 r2 => q _ _ ⟨r, rfl, r1, by omega⟩ e5 (s5.mono (by omega))⟩
    · obtain ⟨xs, rfl, hxl, hxb⟩ := ints_bd hR
      exact ⟨D, rfl, _, .inl ⟨.of hD3, fun t ht => k _ _ xs ((((Sbt.of (Same.new hp)).trans e2).trans e3).same (Same.new ht)) ((s3.new ht).mono (by omega)) (by rw [hxl]; exact hn3) (fun z hz => by have := hxb z hz; omega) (.tup (.of upd_same) (DpAll.ints xs))⟩⟩
end
end Ws
/-! ## Y7 -/
namespace Ws
open PySem PySem.Spec PyProof.Rows L2 RZ LamX
local macro_rules | `(tactic| walk_at "nf") => `(tactic| dsimp only [tNext, tSeq, tDrop, tRet, tRetN, tIfS, tAsg, gName, gTup, gCons, gNil, tVar, tC, tOp, tUn, rI, rI0, rU, rEq, rNe, tTest, tChain, tAnd, tOr, tNot, tAndV, tOrV, tNotV, tIf, tCB, tCKw, tCons, tNil, tTup, tLst, tCa, tCallS, tB, rIxT, rIxL, rIxS, cxOf, Cx.nox, Cx.wish, Cx.blk, L2.start, tPar, tPar3, tNever, tYes, tBits, tRz, tBM, rAppend, tyV, tXf, suiteEnds, gSub, rSetL, tBreak, rMax, tDGet, sDPut, tSl, tNoPart, tPart, tDisp, tPairs, tDGet2, tDNewK])
local macro_rules | `(tactic| walk_at "sx") => `(tactic| simp only [wipe, List.cons.injEq, and_assoc, exists_and_left, and_true, List.map_cons, List.map_nil, List.length_cons, List.length_nil, List.cons_append, List.nil_append, List.append_nil, Nat.reduceAdd, Nat.reduceSub, List.replicate, List.getElem?_cons_zero, List.getElem?_cons_succ, List.set_cons_zero, List.set_cons_succ, Option.some.injEq, V.int.injEq, V.bl.injEq, V.ref.injEq, V.str.injEq, exists_eq_left', exists_eq_left, true_and, Bool.true_eq_false, Bool.false_eq_true, if_true, if_false])

local macro_rules | `(tactic| walk_at "dw") => `(tactic| repeat' first | exact DWs.nil | refine DWs.consC ?_ ?_ | exact DW.int | exact DW.str | exact DW.bl | exact DW.non | exact DW.neg | refine DW.tupE ?_)
/-! ### bent equations -/
structure RowB (d : PyData) : Prop where
  sm : Sm 400 6 d
  hd : headFlat d = true
def spBentRow (K : PySem.W.Frag) : Sp := fun vs H Q _ => ∃ (a l c : Addr) (m n : Nat) (rv : V) (r : Cd), vs = [.ref a, rv] ∧ LSt H a l c m ∧ m + 10 ≤ 1000000 ∧ Dp K H rv (cdD r) ∧ CdOk n r ∧ n ≤ 12 ∧ ∀ H' u d, GX [a, l] H H' → LSt H' a l c (m + 10) → RowB d → Dp K (hid [a, l] H') u d → Q u H'
def cdL : Cd → List PyData
  | .eq f c => [.str "eq", intsD f, .int c]
  | .ge f c => [.str "ge", intsD f, .int c]
  | .md m f c => [.str "mod", .int m, intsD f, .int c]
theorem cdL_eq (r : Cd) : cdD r = .tuple (cdL r) := by cases r <;> rfl
theorem cdL_0 (r : Cd) : atI (cdL r) 0 = some (.str r.kd) := by cases r <;> rfl
theorem cdL_f (r : Cd) : atI (cdL r) (-2) = some (intsD r.fs) := by cases r <;> rfl
theorem cdL_c (r : Cd) : atI (cdL r) (-1) = some (.int r.con) := by cases r <;> rfl
theorem sm_int {i : Int} (h : -1100 ≤ i ∧ i ≤ 1100) : Sm 40 5 (.int i) := Sm.int' (by have h0 : 1101 < 10 ^ 60 := (by decide +kernel); omega)
theorem sm_str {s : Str} (h : (PyData.str s).bulk ≤ 40 := by decide +kernel) (h2 : Sm 40 5 (.str s) := by exact ⟨by decide +kernel, by decide +kernel, by decide +kernel, by decide +kernel, by decide +kernel⟩) : Sm 40 5 (.str s) := h2
theorem sm_ints {xs : List Int} (h : ∀ x ∈ xs, -1100 ≤ x ∧ x ≤ 1100) (l : xs.length ≤ 13) : Sm 40 5 (intsD xs) := by
  refine (SmA.tup (SmA.of_all (n := 0) (D := 0) fun x hx => ?_)).mono (by simp only [List.length_map]; omega) (by decide)
  obtain ⟨i, hi, rfl⟩ := List.mem_map.mp hx
  exact Sm.int' (by have := h i hi; have h0 : 1101 < 10 ^ 60 := (by decide +kernel); omega)
theorem cdL_sm {n : Nat} {r : Cd} (o : CdOk n r) (hn : n ≤ 12) : ∀ x ∈ cdL r, Sm 40 5 x := by
  have hf : Sm 40 5 (intsD r.fs) := sm_ints (fun x hx => by have := o.fs x hx; omega) (by have := o.len; omega)
  have hc : Sm 40 5 (.int r.con) := sm_int (by have := o.con; omega)
  cases r with
  | eq f c =>
    intro x hx
    simp only [cdL, List.mem_cons, List.not_mem_nil, or_false] at hx
    rcases hx with rfl | rfl | rfl
    · exact sm_str
    · exact hf
    · exact hc
  | ge f c =>
    intro x hx
    simp only [cdL, List.mem_cons, List.not_mem_nil, or_false] at hx
    rcases hx with rfl | rfl | rfl
    · exact sm_str
    · exact hf
    · exact hc
  | md m f c =>
    intro x hx
    have hm := o.md m f c rfl
    simp only [cdL, List.mem_cons, List.not_mem_nil, or_false] at hx
    rcases hx with rfl | rfl | rfl | rfl
    · exact sm_str
    · exact sm_int (by omega)
    · exact hf
    · exact hc
theorem cut_mem {ds : List PyData} {lo hi : Option Int} {x : PyData} (h : x ∈ cutD ds lo hi) : x ∈ ds := List.mem_of_mem_drop (List.mem_of_mem_take h)
theorem cut_len (ds : List PyData) (lo hi : Option Int) : (cutD ds lo hi).length ≤ ds.length := by
  unfold cutD
  rw [List.length_take, List.length_drop]
  omega
theorem cdL_len (r : Cd) : (cdL r).length ≤ 4 := by cases r <;> simp [cdL]
theorem smLst {N D : Nat} {xs : List PyData} (h : SmA N D xs) : Sm N (D + 1) (.list xs) :=
  ⟨by simpa only [PyData.showable] using h.sh, by simpa only [PyData.leavesShort] using h.lv, by simpa only [PyData.hasDict] using h.nd, by simpa only [PyData.bulk] using h.bk, by simp only [PyData.depth]; have := h.dp; omega⟩
theorem smL {xs : List PyData} (h : SmA ((0 + 1) * xs.length) 0 xs) (l : xs.length ≤ 40) : Sm 40 5 (.list xs) := (smLst h).mono (by omega) (by decide)
theorem cdL_hd (r : Cd) : ∃ x ds, cdL r = x :: ds ∧ flatD x = true := by cases r <;> exact ⟨_, _, rfl, rfl⟩
theorem cdL_mid (r : Cd) : (cutD (cdL r) (some 1) (some (-1))).length ≤ 3 := by
  cases r
  · exact Nat.le_of_ble_eq_true rfl
  · exact Nat.le_of_ble_eq_true rfl
  · exact Nat.le_of_ble_eq_true rfl
/-- the row without its last two items -/
theorem cdL_ahead (r : Cd) : ∃ ds, cutD (cdL r) none (some (-2)) = .str r.kd :: ds ∧ ds.length ≤ 1 := by
  cases r
  · exact ⟨[], rfl, by decide⟩
  · exact ⟨[], rfl, by decide⟩
  · exact ⟨_, rfl, Nat.le_refl 1⟩
theorem RowB.ofI {k : Nat} {d : PyData} (h : TH k d) (hk : k ≤ 9 := by decide) : RowB d := by
  obtain ⟨x, ds, rfl, f, l, s⟩ := h
  refine ⟨(SmA.tup (SmA.of_all (n := 40) (D := 5) s)).mono (by rw [List.length_cons]; omega) (by decide), ?_⟩
  show flatD x = true
  unfold flatD
  exact f
abbrev s__law_bent_row : Stmt := top 45
abbrev nm__law_bent_row : List Str := ["state", "row", "pick", "factors", "const"]
abbrev pr__law_bent_row : List Str := ["state", "row"]
theorem sc__law_bent_row : FnScope nm__law_bent_row pr__law_bent_row (defScope s__law_bent_row) := ⟨rfl, rfl, rfl, by decide +kernel, rfl, by decide +kernel, by decide +kernel⟩
abbrev s__law_bent : Stmt := top 46
abbrev nm__law_bent : List Str := ["state", "value", "pick", "at"]
abbrev pr__law_bent : List Str := ["state", "value"]
theorem sc__law_bent : FnScope nm__law_bent pr__law_bent (defScope s__law_bent) := ⟨rfl, rfl, rfl, by decide +kernel, rfl, by decide +kernel, by decide +kernel⟩
section
variable {P : Program} {w : World} {K : PySem.W.Frag} {mg : Str → Option Value} {base : Heap}
theorem ok_bent_row (B : Bl mg) (F1 : Df P w K mg base CX0 2 "_law_draw" pr__law_draw spDrawW) (F2 : Df P w K mg base CX0 3 "_law_of" pr__law_of spOf) (D : Dt K mg "_law_bent_row" s__law_bent_row pr__law_bent_row) : Df P w K mg base CX0 4 "_law_bent_row" pr__law_bent_row (spBentRow K) := by
  refine D.ok sc__law_bent_row (fun vs H Q E h => ?_) (fun f cdv A outer s H vs Q E hr h => ?_)
  · obtain ⟨a, l, c, m, n, rv, r, rfl, _⟩ := h
    rfl
  · obtain ⟨a, l, c, m, n, rv, r, rfl, hl, hm, hd, ok, hn, k⟩ := h
    refine ⟨_, (pss_cons (ps_set (i := 2) sc__law_bent_row.nd rfl (Or.inl rfl) (pe_f F1 (hr.mono (by decide)) pass0 (pa_cons (pv 0) (pa_cons pe_int pa_nil)))) (pss_cons (ps_par (i := 3) (j := 4) (by rfl) sc__law_bent_row.nd rfl rfl (by decide) rfl rfl (pa_cons (pe_ix ix_tup (pv 1) (pe_un un_neg pe_int) (fun _ _ => rfl)) (pa_cons (pe_ix ix_tup (pv 1) (pe_un un_neg pe_int) (fun _ _ => rfl)) pa_nil)) (by rfl)) (pss_cons (ps_if (pt_cmpR op_eq (pv 2) pe_int (nomark _)) (pss_one (ps_ret (pe_op op_catA (pe_op op_catA (pe_tup (pa_cons (pe_ix ix_tup (pv 1) pe_int (fun _ _ => rfl)) pa_nil)) (pe_slice sl_tupA (pv 1) (po_some pe_int) (po_some (pe_un un_neg pe_int)))) (pe_tup (pa_cons (pe_f F2 (hr.mono (by decide)) pass0 (pa_cons (pv 0) (pa_cons (pe_lst (pa_cons pe_int (pa_cons (pe_un un_neg pe_int) (pa_cons pe_bl (pa_cons pe_str (pa_cons pe_int pa_nil)))))) pa_nil))) pa_nil))))) pss_nil) (pss_cons (ps_if (pt_cmpR op_eq (pv 2) pe_int (nomark _)) (pss_one (ps_ret (pe_op op_catA (pe_slice sl_tupA (pv 1) po_none (po_some (pe_un un_neg pe_int))) (pe_tup (pa_cons (pe_slice sl_tupA (pv 3) (po_some pe_int) po_none) (pa_cons (pv 4) pa_nil)))))) pss_nil) (pss_cons (ps_if (pt_cmpR op_eq (pv 2) pe_int (nomark _)) (pss_one (ps_ret (pe_op op_catA (pe_slice sl_tupA (pv 1) po_none (po_some (pe_un un_neg pe_int))) (pe_tup (pa_cons (pe_op op_catA (pe_tup (pa_cons (pe_f F2 (hr.mono (by decide)) pass0 (pa_cons (pv 0) (pa_cons (pe_lst (pa_cons pe_int (pa_cons (pe_un un_neg pe_int) (pa_cons pe_non (pa_cons pe_bl (pa_cons pe_int pa_nil)))))) pa_nil))) pa_nil)) (pe_slice sl_tupA (pv 3) (po_some pe_int) po_none)) (pa_cons (pv 4) pa_nil)))))) pss_nil) (pss_cons (ps_if (pt_cmpR op_eq (pv 2) pe_int (nomark _)) (pss_one (ps_ret (pe_op op_catA (pe_slice sl_tupA (pv 1) po_none (po_some (pe_un un_neg pe_int))) (pe_tup (pa_cons (pe_callTy call_list_of (by rfl) B.list PyProof.Rows.boot_list (pa_cons (pv 3) pa_nil)) (pa_cons (pv 4) pa_nil)))))) pss_nil) (pss_cons (ps_if (pt_cmpR op_eq (pv 2) pe_int (nomark _)) (pss_one (ps_ret (pe_tup (pa_cons pe_str (pa_cons (pe_f F2 (hr.mono (by decide)) pass0 (pa_cons (pv 0) (pa_cons (pe_lst (pa_cons pe_int (pa_cons pe_int (pa_cons pe_int (pa_cons pe_bl (pa_cons pe_int pa_nil)))))) pa_nil))) (pa_cons (pv 3) (pa_cons (pv 4) pa_nil))))))) pss_nil) (pss_cons (ps_if (pt_cmpR op_eq (pv 2) pe_int (nomark _)) (pss_one (ps_ret (pe_tup (pa_cons (pe_f F2 (hr.mono (by decide)) pass0 (pa_cons (pv 0) (pa_cons (pe_lst (pa_cons pe_str (pa_cons pe_str (pa_cons pe_str (pa_cons pe_int pa_nil))))) pa_nil))) (pa_cons (pv 3) (pa_cons (pv 4) pa_nil)))))) pss_nil) (pss_one (ps_ret (pe_ifExp (pt_cmpR op_eq (pv 2) pe_int (nomark _)) (pe_op op_catA (pv 1) (pe_tup (pa_cons pe_int pa_nil))) (pe_f F2 (hr.mono (by decide)) pass0 (pa_cons (pv 0) (pa_cons (pe_lst (pa_cons pe_non (pa_cons (pe_tup pa_nil) (pa_cons pe_str (pa_cons (pe_callTy call_list_of (by rfl) B.list PyProof.Rows.boot_list (pa_cons (pv 1) pa_nil)) pa_nil))))) pa_nil)))))))))))))), ?_⟩
    rw [cdL_eq] at hd
    have hd1 : Dp K (hid [a, l] H) rv (.tuple (cdL r)) := Dp.hid (lst_st hl) _ _ (by rw [← cdL_eq]; exact noList_cd r) hd
    have smr := cdL_sm ok hn
    refine sw_val (K := K) (DW.draw (c := c) (lim := 8) rfl (fun _ _ q => q) (by decide) (by decide)) hl (by omega) fun H1 v1 dd1 g1 t1 p1 h1 => ?_
    obtain ⟨z, rfl, z1, z2⟩ := p1
    obtain rfl := h1.int_inv
    have e1 : (L2.start nm__law_bent_row [V.ref a, rv]).set 2 (some (V.int z)) = [some (V.ref a), some rv, some (V.int z), none, none] := rfl
    rw [e1]
    have hd2 := hd1.gx g1
    obtain ⟨p, xs, rfl, hs, ha⟩ := hd2.tup_inv
    obtain ⟨fv, hf1, hf2⟩ := at_dp ha (cdL_f r)
    obtain ⟨cv, hc1, hc2⟩ := at_dp ha (cdL_c r)
    obtain rfl := hc2.int_inv
    refine ⟨_, rfl, 2, rfl, p, xs, -2, fv, rfl, rfl, seqTE hid_out hs, hf1, _, rfl, 1, rfl, p, xs, -1, _, rfl, rfl, seqTE hid_out hs, hc1, fv, _, rfl, ?_⟩
    have e2 : (([some (V.ref a), some (V.ref p), some (V.int z), none, none] : L2.St).set 3 (some fv)).set 4 (some (.int r.con)) = [some (V.ref a), some (V.ref p), some (V.int z), some fv, some (.int r.con)] := rfl
    dsimp only
    rw [e2]
    generalize hσ : ([some (V.ref a), some (V.ref p), some (V.int z), some fv, some (.int r.con)] : L2.St) = σ
    have s0 : σ[0]? = some (some (.ref a)) := by subst hσ; rfl
    have s1 : σ[1]? = some (some (.ref p)) := by subst hσ; rfl
    have s2 : σ[2]? = some (some (.int z)) := by subst hσ; rfl
    have s3 : σ[3]? = some (some fv) := by subst hσ; rfl
    have s4 : σ[4]? = some (some (.int r.con)) := by subst hσ; rfl
    clear hσ e1 e2
    have hff : Dp K (hid [a, l] H1) fv (.tuple (r.fs.map .int)) := hf2
    have smf : Sm 40 5 (intsD r.fs) := smr _ (by cases r <;> simp [cdL, Cd.fs])
    have smk : Sm 40 5 (.str r.kd) := smr _ (by cases r <;> simp [cdL, Cd.kd])
    have smc : Sm 40 5 (.int r.con) := smr _ (by cases r <;> simp [cdL, Cd.con])
    have smi : ∀ x ∈ r.fs.map PyData.int, Sm 40 5 x := fun x hx => by
      obtain ⟨i, hi, rfl⟩ := List.mem_map.mp hx
      exact sm_int (by have := ok.fs i hi; omega)
    -- what the pieces are
    have W0 : DW K a l c 0 (tOp (rIxT K) (tVar 1) (tC (V.int 0))) σ H1 (· = .str r.kd) := DW.ixv s1 hd2 (cdL_0 r) (fun _ _ q => q)
    have Wa : DW K a l c 0 (L2.tSl (rSlA K) (tVar 1) tNoPart (tPart (tUn (rU fun i => V.int (-i)) (tC (V.int 2))))) σ H1 (TH 2) :=
      (DW.cut (DW.var s1 hd2) OW.no OW.neg (fun d e => ⟨_, e⟩)).mono fun d ⟨ds, e, e2⟩ => by
        obtain rfl := PyData.tuple.inj e2
        obtain ⟨ds, e3, e4⟩ := cdL_ahead r
        rw [e3] at e
        exact ⟨_, ds, e, rfl, by omega, fun x hx => smr x (cut_mem (lo := none) (hi := some (-2)) (by rw [e3]; exact hx))⟩
    have Wf : DW K a l c 0 (L2.tSl (rSlA K) (tVar 3) (tPart (tC (V.int 1))) tNoPart) σ H1 (TI 12) :=
      (DW.cut (DW.var s3 hff) OW.int OW.no (fun d e => ⟨_, e⟩)).mono fun d ⟨ds, e, e2⟩ => by
        obtain rfl := PyData.tuple.inj e2
        exact ⟨_, e, by have := cut_len (r.fs.map PyData.int) (some 1) none; rw [List.length_map, ok.len] at this; omega, fun x hx => smi x (cut_mem hx)⟩
    have fin : ∀ (H' : Hp) (v : V) (d : PyData), GX [a, l] H1 H' → LSt H' a l c (m + 1 + 9) → RowB d → Dp K (hid [a, l] H') v d → Q v H' := fun H' v d g t b hv => k H' v d (g1.trans g) (t.mono (by omega)) b hv
    have Wv4 : DW K a l c 0 (tVar 4) σ H1 (· = .int r.con) := DW.var s4 (.int _)
    have Wv3 : DW K a l c 0 (tVar 3) σ H1 (· = intsD r.fs) := DW.var s3 hff
    have up : ∀ {te : TE} (s k : Nat), DW K a l c s te σ H1 (TH k) → k ≤ 9 → s ≤ 9 → tRet te { nx := fun x H' => Q V.non H', rt := Q } σ H1 := fun s k x h1 h2 => sw_ret x t1 (by omega) fun H' v d g t p hv => show Q v H' from fin H' v d g (t.mono (by omega)) (RowB.ofI p h1) hv
    have Wc : ∀ {te : TE} {P : PyData → Prop} {s : Nat}, DW K a l c s te σ H1 P → (∀ d, P d → Sm 40 5 d) → DW K a l c s (tTup (tCons te tNil)) σ H1 (TI 1) := fun x h => DW.tupI (DWs.one x) fun ds ⟨d, e, p⟩ => by
      subst e
      exact ⟨Nat.le_refl _, fun z hz => by rw [List.mem_singleton.mp hz]; exact h d p⟩
    have W2 : ∀ {te tb : TE} {P R : PyData → Prop} {s s2 : Nat}, DW K a l c s te σ H1 P → DW K a l c s2 tb σ H1 R → (∀ d, P d → Sm 40 5 d) → (∀ d, R d → Sm 40 5 d) → DW K a l c (s + s2) (tTup (tCons te (tCons tb tNil))) σ H1 (TI 2) := fun x y h1 h2 => DW.tupI (DWs.cons x (DWs.one y)) fun ds ⟨d, es, e, p, ⟨d2, e2, p2⟩⟩ => by
      subst e e2
      refine ⟨Nat.le_refl _, fun z hz => ?_⟩
      simp only [List.mem_cons, List.not_mem_nil, or_false] at hz
      rcases hz with rfl | rfl
      · exact h1 _ p
      · exact h2 _ p2
    have Wfi : DW K a l c 0 (L2.tSl (rSlA K) (tVar 3) (tPart (tC (V.int 1))) tNoPart) σ H1 (fun d => Sm 40 5 d) := (DW.cut (DW.var s3 hff) OW.int OW.no (fun d e => ⟨_, e⟩)).mono fun d ⟨ds, e, e2⟩ => by
      obtain rfl := PyData.tuple.inj e2
      subst e
      refine (SmA.tup (SmA.of_all (n := 0) (D := 0) fun x hx => ?_)).mono (by have := cut_len (r.fs.map PyData.int) (some 1) none; rw [List.length_map, ok.len] at this; omega) (by decide)
      obtain ⟨i, hi, rfl⟩ := List.mem_map.mp (cut_mem hx)
      exact Sm.int' (by have := ok.fs i hi; have h0 : 1101 < 10 ^ 60 := (by decide +kernel); omega)
    refine sw_ifk s2 (fun _ => ?_) fun n0 => ?_
    · refine up 1 6 (DW.mono (s := 1) (P := TH 5) (DW.catH (s1 := 0) (s2 := 1) (k1 := 4) (k2 := 1) (DW.catH (s1 := 0) (s2 := 0) (k1 := 1) (k2 := 3) ?_ ?_) (Wc (P := fun d => Sm 40 5 d) ?_ fun d h => h)) ?_) (by decide) (by decide)
      · exact DW.tupH (DWs.one W0) fun ds ⟨d, e, p⟩ => by
          subst e p
          exact ⟨Nat.le_refl _, fun z hz => by rw [List.mem_singleton.mp hz]; exact smk, _, _, rfl, rfl⟩
      · exact (DW.cut (DW.var s1 hd2) OW.int OW.neg (fun d e => ⟨_, e⟩)).mono fun d ⟨ds, e, e2⟩ => by
          obtain rfl := PyData.tuple.inj e2
          exact ⟨_, e, cdL_mid r, fun x hx => smr x (cut_mem hx)⟩
      · exact (DW.pick (s := 0) (ds := [.int 1001, .int (-1001), .bool true, .str "0", .int 1000]) s0 (by walk_at "dw")).mono fun d h => by
          simp only [List.mem_cons, List.not_mem_nil, or_false] at h
          rcases h with rfl | rfl | rfl | rfl | rfl
          · exact sm_int (by decide)
          · exact sm_int (by decide)
          · exact Sm.bl'
          · exact sm_str
          · exact sm_int (by decide)
      · exact fun d ⟨x, ds, e, f, l, s⟩ => ⟨x, ds, e, f, by omega, s⟩
    have c0 : ∀ d, d = .int r.con → Sm 40 5 d := fun d e => by rw [e]; exact smc
    have f0 : ∀ d, d = intsD r.fs → Sm 40 5 d := fun d e => by rw [e]; exact smf
    refine sw_ifk s2 (fun _ => ?_) fun n1 => ?_
    · exact up 0 4 (DW.catH (s1 := 0) (s2 := 0) (k1 := 2) (k2 := 2) Wa (W2 Wfi Wv4 (fun d h => h) c0)) (by decide) (by decide)
    refine sw_ifk s2 (fun _ => ?_) fun n2 => ?_
    · refine up 1 4 (DW.catH (s1 := 0) (s2 := 1) (k1 := 2) (k2 := 2) Wa (W2 (s := 1) (s2 := 0) (P := fun d => Sm 40 5 d) ?_ Wv4 (fun d h => h) c0)) (by decide) (by decide)
      refine (DW.cat (s1 := 1) (s2 := 0) (P := fun d => ∃ x, d = .tuple [x] ∧ Sm 0 0 x) (R := fun d => ∃ ds, d = .tuple ds ∧ ds.length ≤ 12 ∧ ∀ x ∈ ds, Sm 0 0 x) ?_ ?_ (fun d ⟨x, e, _⟩ => ⟨[x], e, by simp⟩) (fun d ⟨ds, e, hl, _⟩ => ⟨ds, e, by omega⟩)).mono fun d ⟨ds, es, e, ⟨x, e1, h1⟩, ⟨es', e2, l2, h2⟩⟩ => ?_
      · exact (DW.tup (DWs.one (DW.pick (s := 0) (ds := [.int 101, .int (-101), .none, .bool false, .int 100]) s0 (by walk_at "dw"))) fun ds ⟨d, e, _⟩ => by rw [e]; exact Nat.le_of_ble_eq_true rfl).mono fun d ⟨ds, e, d', e2, h⟩ => by
          refine ⟨d', by rw [e, e2], ?_⟩
          simp only [List.mem_cons, List.not_mem_nil, or_false] at h
          rcases h with rfl | rfl | rfl | rfl | rfl
          · exact Sm.int' (by decide +kernel)
          · exact Sm.int' (by decide +kernel)
          · exact Sm.none'
          · exact Sm.bl'
          · exact Sm.int' (by decide +kernel)
      · exact (DW.cut (DW.var s3 hff) OW.int OW.no (fun d e => ⟨_, e⟩)).mono fun d ⟨ds, e, e2⟩ => by
          obtain rfl := PyData.tuple.inj e2
          refine ⟨_, e, by have := cut_len (r.fs.map PyData.int) (some 1) none; rw [List.length_map, ok.len] at this; omega, fun x hx => ?_⟩
          obtain ⟨i, hi, rfl⟩ := List.mem_map.mp (cut_mem hx)
          exact Sm.int' (by have := ok.fs i hi; have h0 : 1101 < 10 ^ 60 := (by decide +kernel); omega)
      · obtain rfl := PyData.tuple.inj e1
        obtain rfl := PyData.tuple.inj e2
        subst e
        refine (SmA.tup (SmA.of_all (n := 0) (D := 0) fun z hz => ?_)).mono (by simp only [List.length_append, List.length_singleton]; omega) (by decide)
        rcases List.mem_append.mp hz with hz | hz
        · rw [List.mem_singleton.mp hz]; exact h1
        · exact h2 z hz
    refine sw_ifk s2 (fun _ => ?_) fun n3 => ?_
    · refine up 0 4 (DW.catH (s1 := 0) (s2 := 0) (k1 := 2) (k2 := 2) Wa (W2 (s := 0) (s2 := 0) (DW.listE (DW.var s3 hff)) Wv4 (fun d h => ?_) c0)) (by decide) (by decide)
      rw [h]
      exact smL (SmA.of_all (n := 0) (D := 0) fun x hx => by
        obtain ⟨i, hi, rfl⟩ := List.mem_map.mp hx
        exact Sm.int' (by have := ok.fs i hi; have h0 : 1101 < 10 ^ 60 := (by decide +kernel); omega)) (by rw [List.length_map, ok.len]; omega)
    refine sw_ifk s2 (fun _ => ?_) fun n4 => ?_
    · refine up 1 4 (DW.tupH (s := 1) (DWs.cons (s1 := 0) (s2 := 1) DW.str (DWs.cons (s1 := 1) (s2 := 0) (DW.pick (s := 0) (ds := [.int 1, .int 0, .int 1001, .bool true, .int 1000]) s0 (by walk_at "dw")) (DWs.cons (s1 := 0) (s2 := 0) Wv3 (DWs.one Wv4)))) fun ds ⟨d, es, e, p, d2, es2, e2, h, d3, es3, e3, p3, d4, e4, p4⟩ => ?_) (by decide) (by decide)
      subst e e2 e3 e4 p p3 p4
      refine ⟨Nat.le_refl 4, fun z hz => ?_, _, _, rfl, rfl⟩
      have h2 : Sm 40 5 d2 := by
        simp only [List.mem_cons, List.not_mem_nil, or_false] at h
        rcases h with rfl | rfl | rfl | rfl | rfl
        · exact sm_int (by decide)
        · exact sm_int (by decide)
        · exact sm_int (by decide)
        · exact Sm.bl'
        · exact sm_int (by decide)
      simp only [List.mem_cons, List.not_mem_nil, or_false] at hz
      rcases hz with rfl | rfl | rfl | rfl
      · exact sm_str
      · exact h2
      · exact smf
      · exact smc
    refine sw_ifk s2 (fun _ => ?_) fun n5 => ?_
    · refine up 1 3 (DW.tupH (s := 1) (DWs.cons (s1 := 1) (s2 := 0) (DW.pick (s := 0) (ds := [.str "le", .str "mod", .str "eq", .int 0]) s0 (by walk_at "dw")) (DWs.cons (s1 := 0) (s2 := 0) Wv3 (DWs.one Wv4))) fun ds ⟨d2, es2, e2, h, d3, es3, e3, p3, d4, e4, p4⟩ => ?_) (by decide) (by decide)
      subst e2 e3 e4 p3 p4
      have h2 : Sm 40 5 d2 ∧ flatD d2 = true := by
        simp only [List.mem_cons, List.not_mem_nil, or_false] at h
        rcases h with rfl | rfl | rfl | rfl
        · exact ⟨sm_str, rfl⟩
        · exact ⟨sm_str, rfl⟩
        · exact ⟨sm_str, rfl⟩
        · exact ⟨sm_int (by decide), rfl⟩
      refine ⟨Nat.le_refl 3, fun z hz => ?_, _, _, rfl, by have := h2.2; unfold flatD at this; exact this⟩
      simp only [List.mem_cons, List.not_mem_nil, or_false] at hz
      rcases hz with rfl | rfl | rfl
      · exact h2.1
      · exact smf
      · exact smc
    refine sw_ifx s2 (fun _ => ?_) fun n6 => ?_
    · have Wr : DW K a l c 0 (tVar 1) σ H1 (TH 4) := (DW.var s1 hd2).mono fun d e => by
        obtain ⟨x, ds, e2, f⟩ := cdL_hd r
        refine ⟨x, ds, by rw [e, e2], by unfold flatD at f; exact f, ?_, by rw [← e2]; exact smr⟩
        have := cdL_len r
        rw [e2] at this
        simpa using this
      exact up 0 5 (DW.catH (s1 := 0) (s2 := 0) (k1 := 4) (k2 := 1) Wr (Wc DW.int fun d e => by rw [e]; exact sm_int (by decide))) (by decide) (by decide)
    · refine (DW.pick (s := 0) (ds := [.none, .tuple [], .str "eq", .list (cdL r)]) s0 ?_) H1 _ (GX.refl _) t1 (by omega) _ fun H' v d g t p hv => fin H' v d g (t.mono (by omega)) ?_ hv
      · refine DWs.consC DW.non (DWs.consC (DW.tupE DWs.nil) (DWs.consC DW.str (DWs.consC (DW.listE (DW.var s1 hd2)) DWs.nil)))
      · simp only [List.mem_cons, List.not_mem_nil, or_false] at p
        rcases p with rfl | rfl | rfl | rfl
        · exact ⟨Sm.none', rfl⟩
        · exact ⟨⟨rfl, rfl, rfl, by decide, by decide⟩, rfl⟩
        · exact ⟨Sm.mono (sm_str (s := "eq")) (by decide) (by decide), rfl⟩
        · refine ⟨?_, rfl⟩
          have := smr
          exact (smLst (SmA.of_all (n := 40) (D := 5) this)).mono (by have := cdL_len r; omega) (by decide)
end
end Ws
/-! ## Y8 -/
namespace Ws
open PySem PySem.Spec PyProof.Rows L2 RZ LamX
local macro_rules | `(tactic| walk_at "nf") => `(tactic| dsimp only [tNext, tSeq, tDrop, tRet, tRetN, tIfS, tAsg, gName, gTup, gCons, gNil, tVar, tC, tOp, tUn, rI, rI0, rU, rEq, rNe, tTest, tChain, tAnd, tOr, tNot, tAndV, tOrV, tNotV, tIf, tCB, tCKw, tCons, tNil, tTup, tLst, tCa, tCallS, tB, rIxT, rIxL, rIxS, cxOf, Cx.nox, Cx.wish, Cx.blk, L2.start, tPar, tPar3, tNever, tYes, tBits, tRz, tBM, rAppend, tyV, tXf, suiteEnds, gSub, rSetL, tBreak, rMax, tDGet, sDPut, tSl, tNoPart, tPart, tDisp, tPairs, tDGet2, tDNewK])
local macro_rules | `(tactic| walk_at "sx") => `(tactic| simp only [wipe, List.cons.injEq, and_assoc, exists_and_left, and_true, List.map_cons, List.map_nil, List.length_cons, List.length_nil, List.cons_append, List.nil_append, List.append_nil, Nat.reduceAdd, Nat.reduceSub, List.replicate, List.getElem?_cons_zero, List.getElem?_cons_succ, List.set_cons_zero, List.set_cons_succ, Option.some.injEq, V.int.injEq, V.bl.injEq, V.ref.injEq, V.str.injEq, exists_eq_left', exists_eq_left, true_and, Bool.true_eq_false, Bool.false_eq_true, if_true, if_false])

local macro_rules | `(tactic| walk_at "dw") => `(tactic| repeat' first | exact DWs.nil | refine DWs.consC ?_ ?_ | exact DW.int | exact DW.str | exact DW.bl | exact DW.non | exact DW.neg | refine DW.tupE ?_)
/-! ### bent equations -/
section
variable {K : PySem.W.Frag} {a l c : Addr} {te : TE} {σ : L2.St} {H : Hp}
theorem sw_if0 {m : Nat} {t u : TS} {D : Ends} {ds : List PyData} (x : DW K a l c 0 te σ H (· = .tuple ds)) (g : LSt H a l c m) (b : m ≤ 1000000) (sh : SeqAt.shaped (.tuple ds) = true) (y : ds = [] → ∀ H', GX [a, l] H H' → LSt H' a l c m → t { D with nx := u D } σ H') (n : ds ≠ [] → ∀ H', GX [a, l] H H' → LSt H' a l c m → u D σ H') :
    tSeq (tIfS (tTest (tOp (rEqD K) te (tTup tNil))) t tNext) u D σ H := x H m (GX.refl _) g b _ fun H' v d g2 t2 p hv => by
  subst p
  refine ⟨Nat.zero_le _, fun p hp => ⟨.tuple ds, .tuple [], (hv.out).to (Same.new hp), .tup (.of upd_same) .nil, sh, rfl, _, rfl, ?_⟩⟩
  cases ds with
  | nil => exact iteT (y rfl _ (g2.trans (GX.new hp)) (t2.new hp))
  | cons d ds => exact iteF (n (by simp) _ (g2.trans (GX.new hp)) (t2.new hp))
theorem DW.bentrow {i n : Nat} {r : Cd} (h : σ[i]? = some (some (.ref a))) (x : DW K a l c 0 te σ H (· = cdD r)) (ok : CdOk n r) (hn : n ≤ 12) : DW K a l c 10 (tCa (spBentRow K) E0 (tCons (tVar i) (tCons te tNil))) σ H RowB := fun H1 m g t b Q q =>
  ⟨_, h, x H1 m g t (by omega) _ fun H2 v d g2 t2 p hv => by
    subst p
    exact ⟨a, l, c, m, n, v, r, rfl, t2, b, hv.out, ok, hn, fun H' u d g3 t3 rb hu => q H' u d (g2.trans g3) t3 rb hu⟩⟩
end
structure EqB (d : PyData) : Prop where
  sm : Sm 70000 9 d
  rows : ∀ c ds, d = .tuple [c, .tuple ds] → ∀ x ∈ ds, headFlat x = true
theorem EqB.pair {c e : PyData} (hc : Sm 40 5 c) (he : Sm 62600 7 e) (hr : ∀ ds, e = .tuple ds → ∀ x ∈ ds, headFlat x = true) : EqB (.tuple [c, e]) := by
  refine ⟨?_, fun c' ds e2 => ?_⟩
  · have h2 := SmA.cons' (N := 62601) he (SmA.nil' (N := 0) (D := 7)) (by omega)
    exact (SmA.tup (SmA.cons' (N := 62700) (hc.mono (Nat.le_refl _) (by decide)) h2 (by omega))).mono (by decide) (by decide)
  · have := PyData.tuple.inj e2
    injection this with _ h2
    injection h2 with h3 _
    exact hr ds h3
theorem rows_sm {ds : List PyData} (h : ∀ x ∈ ds, RowB x) (l : ds.length ≤ 156) : SmA 62556 6 ds := (SmA.of_all (n := 400) (D := 6) fun x hx => (h x hx).sm).mono (by omega)
theorem EqB.of2 {c : PyData} {ds : List PyData} (hc : Sm 40 5 c) (h : ∀ x ∈ ds, RowB x) (l : ds.length ≤ 156) : EqB (.tuple [c, .tuple ds]) :=
  EqB.pair hc ((SmA.tup (rows_sm h l)).mono (by decide) (by decide)) fun es e x hx => by
    obtain rfl := PyData.tuple.inj e
    exact (h x hx).hd
theorem rowB_cd {n : Nat} {r : Cd} (o : CdOk n r) (hn : n ≤ 12) : RowB (cdD r) := by
  rw [cdL_eq]
  obtain ⟨x, ds, e, f⟩ := cdL_hd r
  refine RowB.ofI (k := 4) ⟨x, ds, by rw [e], by unfold flatD at f; exact f, ?_, by rw [← e]; exact cdL_sm o hn⟩
  have := cdL_len r
  rw [e] at this
  simpa using this
theorem canLay_cd : ∀ r : Cd, (cdD r).canLay0 = true := fun r => by
  cases r <;> (simp only [cdD, intsD, PyData.canLay0, PyData.canLayAll0, canLay_ints, Bool.and_self, Bool.true_and, Bool.and_true]; decide +kernel)
theorem canLay_rows : ∀ rs : List Cd, PyData.canLayAll0 (rs.map cdD) = true
  | [] => rfl
  | r :: rs => by
    simp only [List.map_cons, PyData.canLayAll0, canLay_cd, Bool.true_and]
    exact canLay_rows rs
def spBent (K : PySem.W.Frag) : Sp := fun vs H Q _ => ∃ (a l c : Addr) (m n : Nat) (v : V) (rs : List Cd), vs = [.ref a, v] ∧ LSt H a l c m ∧ m ≤ 900000 ∧ Dp K H v (eqD n rs) ∧ EqOk n rs ∧ ∀ H' u d, GX [a, l] H H' → LSt H' a l c (m + 20) → EqB d → Dp K (hid [a, l] H') u d → Q u H'
section
variable {P : Program} {w : World} {K : PySem.W.Frag} {mg : Str → Option Value} {base : Heap}
theorem ok_bent (B : Bl mg) (F1 : Df P w K mg base CX0 2 "_law_draw" pr__law_draw spDrawW) (F2 : Df P w K mg base CX0 3 "_law_of" pr__law_of spOf) (F3 : Df P w K mg base CX0 4 "_law_bent_row" pr__law_bent_row (spBentRow K)) (D : Dt K mg "_law_bent" s__law_bent pr__law_bent) : Df P w K mg base CX0 5 "_law_bent" pr__law_bent (spBent K) := by
  refine D.ok sc__law_bent (fun vs H Q E h => ?_) (fun f cdv A outer s H vs Q E hr h => ?_)
  · obtain ⟨a, l, c, m, n, v, rs, rfl, _⟩ := h
    rfl
  · obtain ⟨a, l, c, m, n, v, rs, rfl, hl, hm, hd, ok, k⟩ := h
    refine ⟨_, (pss_cons (ps_set (i := 2) sc__law_bent.nd rfl (Or.inl rfl) (pe_f F1 (hr.mono (by decide)) pass0 (pa_cons (pv 0) (pa_cons pe_int pa_nil)))) (pss_cons (ps_if (pt_cmpR op_eq (pv 2) pe_int (nomark _)) (pss_one (ps_ret (pe_tup (pa_cons (pe_f F2 (hr.mono (by decide)) pass0 (pa_cons (pv 0) (pa_cons (pe_lst (pa_cons pe_int (pa_cons pe_int (pa_cons pe_bl (pa_cons pe_str (pa_cons (pe_op op_add (pe_ix ix_tup (pv 1) pe_int (fun _ _ => rfl)) pe_int) pa_nil)))))) pa_nil))) (pa_cons (pe_ix ix_tup (pv 1) pe_int (fun _ _ => rfl)) pa_nil))))) pss_nil) (pss_cons (ps_if (pt_cmpR op_eq (pv 2) pe_int (nomark _)) (pss_one (ps_ret (pe_tup (pa_cons (pe_ix ix_tup (pv 1) pe_int (fun _ _ => rfl)) (pa_cons (pe_f F2 (hr.mono (by decide)) pass0 (pa_cons (pv 0) (pa_cons (pe_lst (pa_cons (pe_callTy call_list_of (by rfl) B.list PyProof.Rows.boot_list (pa_cons (pe_ix ix_tup (pv 1) pe_int (fun _ _ => rfl)) pa_nil)) (pa_cons pe_non (pa_cons (pe_op op_repA (pe_ix ix_tup (pv 1) pe_int (fun _ _ => rfl)) pe_int) (pa_cons (pe_tup pa_nil) pa_nil))))) pa_nil))) pa_nil))))) pss_nil) (pss_cons (ps_if (pt_cmpR op_eq (pv 2) pe_int (nomark _)) (pss_one (ps_ret (pe_f F2 (hr.mono (by decide)) pass0 (pa_cons (pv 0) (pa_cons (pe_lst (pa_cons pe_non (pa_cons (pe_callTy call_list_of (by rfl) B.list PyProof.Rows.boot_list (pa_cons (pv 1) pa_nil)) (pa_cons (pe_op op_catA (pv 1) (pe_tup (pa_cons pe_int pa_nil))) (pa_cons (pe_tup (pa_cons (pe_ix ix_tup (pv 1) pe_int (fun _ _ => rfl)) pa_nil)) (pa_cons pe_str pa_nil)))))) pa_nil))))) pss_nil) (pss_cons (ps_if (pt_cmpR (op_eqD hr.units) (pe_ix ix_tup (pv 1) pe_int (fun _ _ => rfl)) (pe_tup pa_nil) (nomark _)) (pss_one (ps_ret (pv 1))) pss_nil) (pss_cons (ps_set (i := 3) sc__law_bent.nd rfl (Or.inl rfl) (pe_f F1 (hr.mono (by decide)) pass0 (pa_cons (pv 0) (pa_cons (pe_callB call_len_seq (by rfl) B.len PySem.boot_len (pa_cons (pe_ix ix_tup (pv 1) pe_int (fun _ _ => rfl)) pa_nil)) pa_nil)))) (pss_one (ps_ret (pe_tup (pa_cons (pe_ix ix_tup (pv 1) pe_int (fun _ _ => rfl)) (pa_cons (pe_op op_catA (pe_op op_catA (pe_slice sl_tupA (pe_ix ix_tup (pv 1) pe_int (fun _ _ => rfl)) po_none (po_some (pv 3))) (pe_tup (pa_cons (pe_f F3 (hr.mono (by decide)) pass0 (pa_cons (pv 0) (pa_cons (pe_ix ix_tup (pe_ix ix_tup (pv 1) pe_int (fun _ _ => rfl)) (pv 3) (fun _ _ => rfl)) pa_nil))) pa_nil))) (pe_slice sl_tupA (pe_ix ix_tup (pv 1) pe_int (fun _ _ => rfl)) (po_some (pe_op op_add (pv 3) pe_int)) po_none)) pa_nil))))))))))), ?_⟩
    have nlr : noList (rowsD rs) = true := noListAll_of fun x hx => by
      obtain ⟨r, _, rfl⟩ := List.mem_map.mp hx
      exact noList_cd r
    have nle : noList (eqD n rs) = true := by
      show (true && (noList (rowsD rs) && true)) = true
      rw [nlr]
      rfl
    have hd1 : Dp K (hid [a, l] H) v (eqD n rs) := Dp.hid (lst_st hl) _ _ nle hd
    have rb : ∀ x ∈ rs.map cdD, RowB x := fun x hx => by
      obtain ⟨r, hr, rfl⟩ := List.mem_map.mp hx
      exact rowB_cd (ok.rows r hr) ok.n2
    have smn : Sm 40 5 (.int n) := sm_int (by have := ok.n2; omega)
    have lenr : (rs.map cdD).length ≤ 12 := by rw [List.length_map]; exact ok.len
    have smr : Sm 62600 7 (rowsD rs) := (SmA.tup (rows_sm rb (by omega))).mono (by decide) (by decide)
    refine sw_val (K := K) (DW.draw (c := c) (lim := 8) rfl (fun _ _ q => q) (by decide) (by decide)) hl (by omega) fun H1 v1 dd1 g1 t1 p1 h1 => ?_
    obtain ⟨z, rfl, z1, z2⟩ := p1
    obtain rfl := h1.int_inv
    have e1 : (L2.start nm__law_bent [V.ref a, v]).set 2 (some (V.int z)) = [some (V.ref a), some v, some (V.int z), none] := rfl
    rw [e1]
    generalize hσ : ([some (V.ref a), some v, some (V.int z), none] : L2.St) = σ
    have s0 : σ[0]? = some (some (.ref a)) := by subst hσ; rfl
    have s1 : σ[1]? = some (some v) := by subst hσ; rfl
    have s2 : σ[2]? = some (some (.int z)) := by subst hσ; rfl
    have hd2 := hd1.gx g1
    have Wv : DW K a l c 0 (tVar 1) σ H1 (· = .tuple [.int n, rowsD rs]) := DW.var s1 hd2
    have W0 : DW K a l c 0 (tOp (rIxT K) (tVar 1) (tC (V.int 0))) σ H1 (· = .int n) := DW.ix Wv rfl (fun _ _ q => q)
    have W1 : DW K a l c 0 (tOp (rIxT K) (tVar 1) (tC (V.int 1))) σ H1 (· = .tuple (rs.map cdD)) := DW.ix Wv rfl (fun _ _ q => q)
    have fin : ∀ (H' : Hp) (v : V) (d : PyData), GX [a, l] H1 H' → LSt H' a l c (m + 1 + 19) → EqB d → Dp K (hid [a, l] H') v d → Q v H' := fun H' v d g t b hv => k H' v d (g1.trans g) (t.mono (by omega)) b hv
    refine sw_ifk s2 (fun _ => ?_) fun n0 => ?_
    · refine sw_ret (K := K) (s := 1) (P := EqB) ?_ t1 (by omega) fun H' v d g t p hv => show Q v H' from fin H' v d g (t.mono (by omega)) p hv
      refine (DW.tup (DWs.cons (s1 := 1) (s2 := 0) (DW.pick (s := 0) (ds := [.int 0, .int 13, .bool true, .str "1", .int (n + 1)]) s0 (DWs.consC DW.int (DWs.consC DW.int (DWs.consC DW.bl (DWs.consC DW.str (DWs.consC (DW.addk W0) DWs.nil)))))) (DWs.one W1)) fun ds ⟨d, es, e, _, d2, e2, _⟩ => by rw [e, e2]; exact Nat.le_of_ble_eq_true rfl).mono fun d ⟨ds, e, d1, es, e2, h, d2, e3, e4⟩ => ?_
      subst e e2 e3 e4
      refine EqB.of2 ?_ rb (by omega)
      simp only [List.mem_cons, List.not_mem_nil, or_false] at h
      rcases h with rfl | rfl | rfl | rfl | rfl
      · exact sm_int (by decide)
      · exact sm_int (by decide)
      · exact Sm.bl'
      · exact sm_str
      · exact sm_int (by have := ok.n2; omega)
    refine sw_ifk s2 (fun _ => ?_) fun n1 => ?_
    · refine sw_ret (K := K) (s := 1) (P := EqB) ?_ t1 (by omega) fun H' v d g t p hv => show Q v H' from fin H' v d g (t.mono (by omega)) p hv
      refine (DW.tup (DWs.cons (s1 := 0) (s2 := 1) W0 (DWs.one (DW.pick (s := 0) (ds := [.list (rs.map cdD), .none, .tuple (List.replicate (Int.toNat 13) (rs.map cdD)).flatten, .tuple []]) s0 (DWs.consC (DW.listE W1) (DWs.consC DW.non (DWs.consC (DW.repE W1 (by omega)) (DWs.consC (DW.tupE DWs.nil) DWs.nil))))))) fun ds ⟨d, es, e, _, d2, e2, _⟩ => by rw [e, e2]; exact Nat.le_of_ble_eq_true rfl).mono fun d ⟨ds, e, d1, es, e2, h, d2, e3, e4⟩ => ?_
      subst e e2 e3 h
      simp only [List.mem_cons, List.not_mem_nil, or_false] at e4
      rcases e4 with rfl | rfl | rfl | rfl
      · exact EqB.pair smn ((smLst (rows_sm rb (by omega))).mono (by decide) (by decide)) (fun ds e => by cases e)
      · exact EqB.pair smn Sm.none' (fun ds e => by cases e)
      · refine EqB.of2 smn (fun x hx => ?_) ?_
        · obtain ⟨ys, hy, hx⟩ := List.mem_flatten.mp hx
          rw [(List.mem_replicate.mp hy).2] at hx
          exact rb x hx
        · rw [PyProof.Rows.lm_len_rep_flat]
          show 13 * _ ≤ 156
          omega
      · exact EqB.of2 smn (fun x hx => by cases hx) (by decide)
    refine sw_ifk s2 (fun _ => ?_) fun n2 => ?_
    · refine sw_ret (K := K) (s := 1) (P := EqB) ?_ t1 (by omega) fun H' v d g t p hv => show Q v H' from fin H' v d g (t.mono (by omega)) p hv
      refine (DW.pick (s := 0) (ds := [.none, .list [.int n, rowsD rs], .tuple ([.int n, rowsD rs] ++ [.int 0]), .tuple [.int n], .str "ab"]) s0 (DWs.consC DW.non (DWs.consC (DW.listE Wv) (DWs.consC (DW.catE (s1 := 0) (s2 := 0) Wv (DW.tupE (DWs.consC DW.int DWs.nil)) (Nat.le_of_ble_eq_true rfl) (Nat.le_of_ble_eq_true rfl)) (DWs.consC (DW.tupE (DWs.consC W0 DWs.nil)) (DWs.consC DW.str DWs.nil)))))).mono fun d h => ?_
      have sm2 : SmA 62700 7 [.int n, rowsD rs] := SmA.cons' (smn.mono (Nat.le_refl _) (by decide)) (SmA.cons' (N := 62601) smr SmA.nil' (m := 0) (by omega)) (by omega)
      simp only [List.mem_cons, List.not_mem_nil, or_false] at h
      rcases h with rfl | rfl | rfl | rfl | rfl
      · exact ⟨Sm.none', fun c ds e => by cases e⟩
      · exact ⟨(smLst sm2).mono (by decide) (by decide), fun c ds e => by cases e⟩
      · refine ⟨(SmA.tup (N := 62800) (D := 7) (SmA.cons' (smn.mono (Nat.le_refl _) (by decide)) (SmA.cons' (N := 62610) smr (SmA.cons' (N := 1) (n := 0) (Sm.int' (i := 0) (by decide +kernel)) SmA.nil' (m := 0) (by omega)) (by omega)) (by omega))).mono (by decide) (by decide), fun c ds e => ?_⟩
        exact absurd (congrArg List.length (PyData.tuple.inj e)) (by simp)
      · refine ⟨(SmA.tup (N := 41) (D := 5) (SmA.cons' smn SmA.nil' (m := 0) (by omega))).mono (by decide) (by decide), fun c ds e => ?_⟩
        exact absurd (congrArg List.length (PyData.tuple.inj e)) (by simp)
      · exact ⟨Sm.mono (sm_str (s := "ab")) (by decide) (by decide), fun c ds e => by cases e⟩
    have eqb : EqB (eqD n rs) := EqB.of2 smn rb (by omega)
    have shr : SeqAt.shaped (.tuple (rs.map cdD)) = true := by
      unfold SeqAt.shaped
      simp only [PyData.canLay0, canLay_rows, Bool.true_and, decide_eq_true_eq]
      have := smr.dp
      exact Nat.le_trans this (by decide)
    refine sw_if0 (K := K) (c := c) W1 t1 (by omega) shr (fun e H2 g2 t2 => ?_) fun ne H2 g2 t2 => ?_
    · exact ⟨v, s1, fin H2 v _ g2 (t2.mono (by omega)) eqb (hd2.gx g2)⟩
    have hd3 := hd2.gx g2
    have Wv3 : DW K a l c 0 (tVar 1) σ H2 (· = .tuple [.int n, rowsD rs]) := DW.var s1 hd3
    have W13 : DW K a l c 0 (tOp (rIxT K) (tVar 1) (tC (V.int 1))) σ H2 (· = .tuple (rs.map cdD)) := DW.ix Wv3 rfl (fun _ _ q => q)
    have len1 : 1 ≤ (rs.map cdD).length := by
      cases h : rs.map cdD with
      | nil => exact absurd h ne
      | cons x y => simp
    refine sw_val (K := K) (c := c) (DW.drawW (lim := ((rs.map cdD).length : Nat)) s0 (DW.len W13) (by omega) (by omega)) t2 (by omega) fun H3 v3 dd3 g3 t3 p3 h3 => ?_
    obtain ⟨z3, rfl, z31, z32⟩ := p3
    obtain rfl := h3.int_inv
    have s0' : (σ.set 3 (some (.int z3)))[0]? = some (some (.ref a)) := by rw [List.getElem?_set_ne (by decide)]; exact s0
    have s1' : (σ.set 3 (some (.int z3)))[1]? = some (some v) := by rw [List.getElem?_set_ne (by decide)]; exact s1
    have s3' : (σ.set 3 (some (.int z3)))[3]? = some (some (.int z3)) := by subst hσ; rfl
    generalize σ.set 3 (some (.int z3)) = τ at s0' s1' s3' ⊢
    have hd4 := hd3.gx g3
    have Wv4 : DW K a l c 0 (tVar 1) τ H3 (· = .tuple [.int n, rowsD rs]) := DW.var s1' hd4
    have W04 : DW K a l c 0 (tOp (rIxT K) (tVar 1) (tC (V.int 0))) τ H3 (· = .int n) := DW.ix Wv4 rfl (fun _ _ q => q)
    have W14 : DW K a l c 0 (tOp (rIxT K) (tVar 1) (tC (V.int 1))) τ H3 (· = .tuple (rs.map cdD)) := DW.ix Wv4 rfl (fun _ _ q => q)
    obtain ⟨j, rfl⟩ : ∃ j : Nat, z3 = (j : Int) := ⟨z3.toNat, by omega⟩
    have hj : j < rs.length := by rw [List.length_map] at z32; omega
    have hat : atI (rs.map cdD) (j : Int) = some (cdD (rs.getD j (.eq [] 0))) := atI_nat (by simp [hj])
    have okj := ok.rows (rs.getD j (.eq [] 0)) (by simp [hj])
    have Wr : DW K a l c 0 (tOp (rIxT K) (tOp (rIxT K) (tVar 1) (tC (V.int 1))) (tVar 3)) τ H3 (· = cdD (rs.getD j (.eq [] 0))) := DW.ix W14 hat (fun _ _ q => ⟨_, s3', q⟩)
    refine sw_ret (K := K) (c := c) (s := 10) (P := EqB) ?_ t3 (by omega) fun H' v d g t p hv => show Q v H' from fin H' v d ((g2.trans g3).trans g) (t.mono (by omega)) p hv
    have RI : Nat → PyData → Prop := fun k d => ∃ ds, d = .tuple ds ∧ ds.length ≤ k ∧ ∀ x ∈ ds, RowB x
    refine (DW.tup (Ps := fun ds => ∃ es, ds = [.int n, .tuple es] ∧ es.length ≤ 30 ∧ ∀ x ∈ es, RowB x) (fun H5 m5 g5 t5 b5 Q5 q5 => (DWs.cons (s1 := 0) (s2 := 10) W04 (DWs.one (P := fun d => ∃ es, d = .tuple es ∧ es.length ≤ 30 ∧ ∀ x ∈ es, RowB x) ?_)) H5 m5 g5 t5 b5 Q5 fun H6 vs ds g6 t6 ⟨d, es, e, e2, d2, e3, es2, e4, e5⟩ hs => q5 H6 vs ds g6 t6 ⟨es2, by rw [e, e2, e3, e4], e5⟩ hs) fun ds ⟨es, e, _⟩ => by rw [e]; exact Nat.le_of_ble_eq_true rfl).mono fun d ⟨ds, e, es, e2, l2, h2⟩ => ?_
    · refine (DW.cat (s1 := 10) (s2 := 0) (P := fun d => ∃ es, d = .tuple es ∧ es.length ≤ 13 ∧ ∀ x ∈ es, RowB x) (DW.mono (s := 10) (DW.cat (s1 := 0) (s2 := 10) (DW.cutE W14 OW.no (OW.var s3')) (DW.tup (DWs.one (DW.bentrow s0' Wr okj ok.n2)) fun ds ⟨d, e, _⟩ => by rw [e]; exact Nat.le_of_ble_eq_true rfl) (fun d e => ⟨_, e, by have := cut_len (rs.map cdD) none (some (j : Int)); omega⟩) (fun d ⟨ds, e, d2, e2, _⟩ => ⟨ds, e, by rw [e2]; exact Nat.le_of_ble_eq_true rfl⟩)) ?_) (DW.cutE W14 (OW.add s3') OW.no) (fun d ⟨es, e, hl, _⟩ => ⟨es, e, by omega⟩) (fun d e => ⟨_, e, by have := cut_len (rs.map cdD) (some ((j : Int) + 1)) none; omega⟩)).mono fun d ⟨xs, ys, e, ⟨es, e2, l2, h2⟩, e3⟩ => ?_
      · rintro d ⟨xs, ys, e, e2, ds, e3, d2, e4, h4⟩
        obtain rfl := PyData.tuple.inj e2
        obtain rfl := PyData.tuple.inj e3
        subst e4
        refine ⟨_, e, by have := cut_len (rs.map cdD) none (some (j : Int)); simp only [List.length_append, List.length_singleton]; omega, fun x hx => ?_⟩
        rcases List.mem_append.mp hx with hx | hx
        · exact rb x (cut_mem hx)
        · rw [List.mem_singleton.mp hx]; exact h4
      · obtain rfl := PyData.tuple.inj e2
        obtain rfl := PyData.tuple.inj e3
        refine ⟨_, e, by have := cut_len (rs.map cdD) (some ((j : Int) + 1)) none; simp only [List.length_append]; omega, fun x hx => ?_⟩
        rcases List.mem_append.mp hx with hx | hx
        · exact h2 x hx
        · exact rb x (cut_mem hx)
    · subst e e2
      exact EqB.of2 smn h2 (by omega)
end
end Ws
/-! ## Y9 -/
namespace Ws
open PySem PySem.Spec PyProof.Rows L2 RZ LamX
local macro_rules | `(tactic| walk_at "nf") => `(tactic| dsimp only [tNext, tSeq, tDrop, tRet, tRetN, tIfS, tAsg, gName, gTup, gCons, gNil, tVar, tC, tOp, tUn, rI, rI0, rU, rEq, rNe, tTest, tChain, tAnd, tOr, tNot, tAndV, tOrV, tNotV, tIf, tCB, tCKw, tCons, tNil, tTup, tLst, tCa, tCallS, tB, rIxT, rIxL, rIxS, cxOf, Cx.nox, Cx.wish, Cx.blk, L2.start, tPar, tPar3, tNever, tYes, tBits, tRz, tBM, rAppend, tyV, tXf, suiteEnds, gSub, rSetL, tBreak, rMax, tDGet, sDPut, tSl, tNoPart, tPart, tDisp, tPairs, tDGet2, tDNewK])
local macro_rules | `(tactic| walk_at "sx") => `(tactic| simp only [wipe, List.cons.injEq, and_assoc, exists_and_left, and_true, List.map_cons, List.map_nil, List.length_cons, List.length_nil, List.cons_append, List.nil_append, List.append_nil, Nat.reduceAdd, Nat.reduceSub, List.replicate, List.getElem?_cons_zero, List.getElem?_cons_succ, List.set_cons_zero, List.set_cons_succ, Option.some.injEq, V.int.injEq, V.bl.injEq, V.ref.injEq, V.str.injEq, exists_eq_left', exists_eq_left, true_and, Bool.true_eq_false, Bool.false_eq_true, if_true, if_false])

local macro_rules | `(tactic| walk_at "de") => `(tactic| repeat' first | exact DEs.nil | refine DEs.cons ?_ ?_ | refine DE.tup ?_ | exact DE.int | exact DE.str | exact DE.bl | exact DE.non | refine DE.lst (LE.lst ?_) | refine LE.re (LE.lst ?_) | refine LE.lst ?_ | refine LE.cat ?_ ?_ | apply LE.rep | apply DE.repT | exact DE.varI rfl | exact DE.var (by rfl) (by assumption) | apply DE.op0 | apply DE.opC | apply DE.un | exact rfl | exact ⟨by decide +kernel, by decide +kernel, by decide +kernel⟩ | exact ⟨by decide +kernel, by decide +kernel⟩)

/-! ### what is needed, what is right -/
theorem passN {P : Program} {w : World} {X : Cx} : Passes (L2.CX P w) X E0 := fun _ _ _ _ _ _ _ ⟨_, _, _, _, _, _, _, _, _, _, _, _, hE⟩ => hE.elim
section
variable {K : PySem.W.Frag} {S : List Addr} {T : List (Addr × Str)} {te : TE} {tas : TA} {σ : L2.St} {H : Hp} {ds : List PyData} {d : PyData} {BR BQ : Addr}
theorem _root_.Ws.Sm.mono' {N M D C : Nat} {d : PyData} (h : Sm N D d) (e : N ≤ M) (f : D ≤ C) : Sm M C d := h.mono e f
theorem firstBad_lt {n : Int} : ∀ {ds : List PyData} {i j : Nat}, firstBad n i ds = some j → j < i + ds.length
  | [], _, _, h => by cases h
  | d :: ds, i, j, h => by
    unfold firstBad at h
    split at h
    · have := firstBad_lt h
      simp only [List.length_cons]
      omega
    · have := Option.some.inj h
      simp only [List.length_cons]
      omega
theorem seq_split {t u : TS} {D : Ends} {σ : L2.St} {H : Hp} (R : L2.St → Hp → Prop) (rest : ∀ τ H', R τ H' → u D τ H') (h : (∀ τ H', R τ H' → u D τ H') → t { D with nx := u D } σ H) : tSeq t u D σ H := h rest
theorem fault_cases (d : PyData) : eqFault d = none ∨ ∃ p, eqFault d = some p ∧ noList p = true ∧ p ≠ .none ∧ Sm 40 5 p := by
  unfold eqFault
  split
  · split
    · split
      · split
        · cases h : firstBad (iOf _) 0 _ with
          | none => exact .inl rfl
          | some i =>
            refine .inr ⟨_, rfl, rfl, (fun z => by cases z), ?_⟩
            have hb := firstBad_lt h
            exact sm_ints (xs := [1, (i : Int)]) (fun x hx => by
              simp only [List.mem_cons, List.not_mem_nil, or_false] at hx
              rcases hx with rfl | rfl <;> omega) (Nat.le_of_ble_eq_true rfl)
        · exact .inr ⟨_, rfl, rfl, (fun z => by cases z), sm_ints (xs := [1]) (by decide) (by decide)⟩
      · exact .inr ⟨_, rfl, rfl, (fun z => by cases z), sm_ints (xs := [1]) (by decide) (by decide)⟩
    · exact .inr ⟨_, rfl, rfl, (fun z => by cases z), sm_ints (xs := [0]) (by decide) (by decide)⟩
  · exact .inr ⟨_, rfl, rfl, (fun z => by cases z), sm_ints (xs := []) (by decide) (by decide)⟩
theorem ce_needB (p : PyData) (e : eqFault d = some p) (np : noList p = true) (a : DEs K S T tas σ H [d]) : DE K S T (tLam T (TTc BR BQ) (fun E => tCa (spNeedEq K BQ) E tas)) σ H (errD "equations" p) := DE.caught a fun H1 l t vs hs Q q => by
  obtain ⟨v, rfl, hv⟩ := hs.one'
  exact ⟨v, d, rfl, hv.out, fun z => by (rw [e] at z; cases z), fun p' e' => by
    rw [e] at e'
    obtain rfl := Option.some.inj e'
    exact out_err (T := T) 0 (by decide) l np q⟩
theorem ce_needO (e : eqFault d = none) (a : DEs K S T tas σ H [d]) : DE K S T (tLam T (TTc BR BQ) (fun E => tCa (spNeedEq K BQ) E tas)) σ H (isD d) := DE.caught a fun H1 l t vs hs Q q => by
  obtain ⟨v, rfl, hv⟩ := hs.one'
  exact ⟨v, d, rfl, hv.out, fun _ H' s t' ht => told_is (Ev.of s) l (hv.ev (Ev.of (T := T) s)) ht q, fun p' e' => by (rw [e] at e'; cases e')⟩
theorem ce_homB (p : PyData) (e : eqFault d = some p) (np : noList p = true) (a : DEs K S T tas σ H [d]) : DE K S T (tLam T (TTc BR BQ) (fun E => tCa (spHomog K BQ) E tas)) σ H (errD "equations" p) := DE.caught a fun H1 l t vs hs Q q => by
  obtain ⟨v, rfl, hv⟩ := hs.one'
  refine ⟨v, d, rfl, hv.out, fun p' e' => ?_, fun n rs ed o => ?_⟩
  · rw [e] at e'
    obtain rfl := Option.some.inj e'
    exact out_err (T := T) 0 (by decide) l np q
  · rw [ed, eqD_ok o] at e
    cases e
theorem noList_rowsD (rs : List Cd) : noList (rowsD rs) = true := noListAll_of fun x hx => by
  obtain ⟨r, _, rfl⟩ := List.mem_map.mp hx
  exact noList_cd r
theorem noList_eqD (n : Nat) (rs : List Cd) : noList (eqD n rs) = true := by
  show (true && (noList (rowsD rs) && true)) = true
  rw [noList_rowsD]
  rfl
theorem ce_homO {n : Nat} {rs : List Cd} (o : EqOk n rs) (a : DEs K S T tas σ H [eqD n rs]) : DE K S T (tLam T (TTc BR BQ) (fun E => tCa (spHomog K BQ) E tas)) σ H (isD (eqD n (rs.map Cd.bare))) := DE.caught a fun H1 l t vs hs Q q => by
  obtain ⟨v, rfl, hv⟩ := hs.one'
  refine ⟨v, _, rfl, hv.out, fun p' e' => ?_, fun n' rs' ed o' H' u s hu t' ht => ?_⟩
  · rw [eqD_ok o] at e'
    cases e'
  · obtain ⟨rfl, rfl⟩ := eqD_inj ed
    exact told_is (Ev.of s) l (Dp.hid (Ev.lsts (T := T) (Ev.of s) l) _ _ (noList_eqD _ _) hu) ht q
theorem ce_solB (p : PyData) (e : eqFault d = some p) (np : noList p = true) {d2 : PyData} (a : DEs K S T tas σ H [d, d2]) : DE K S T (tLam T (TTc BR BQ) (fun E => tCa (spSolves K BR BQ) E tas)) σ H (errD "equations" p) := DE.caught a fun H1 l t vs hs Q q => by
  obtain ⟨v, u, rfl, hv, hu⟩ := hs.two
  refine ⟨v, u, d, _, rfl, hv.out, hu.out, fun p' e' => ?_, fun n rs ed o => ?_⟩
  · rw [e] at e'
    obtain rfl := Option.some.inj e'
    exact out_err (T := T) 0 (by decide) l np q
  · rw [ed, eqD_ok o] at e
    cases e
theorem ce_solR {n : Nat} {rs : List Cd} (o : EqOk n rs) {d2 : PyData} (z : (isTn d2 n && areB d2 0 (10 ^ 60)) = false) (a : DEs K S T tas σ H [eqD n rs, d2]) : DE K S T (tLam T (TTc BR BQ) (fun E => tCa (spSolves K BR BQ) E tas)) σ H (errD "row" d2) := DE.caught a fun H1 l t vs hs Q q => by
  obtain ⟨v, u, rfl, hv, hu⟩ := hs.two
  refine ⟨v, u, _, d2, rfl, hv.out, hu.out, fun p' e' => ?_, fun n' rs' ed o' => ⟨fun xs e2 e3 => ?_, fun _ => out_errV (T := T) 1 (by decide) l hu q⟩⟩
  · rw [eqD_ok o] at e'
    cases e'
  · obtain ⟨rfl, rfl⟩ := eqD_inj ed
    rw [z] at e3
    cases e3
theorem DE.ixv {i : Nat} {k : Int} {v : V} {d : PyData} (h : σ[i]? = some (some v)) (hd : Dp K (hid S H) v (.tuple ds)) (e : atI ds k = some d) : DE K S T (tOp (rIxT K) (tVar i) (tC (.int k))) σ H d := fun H1 g l t Q q => by
  obtain ⟨p1, xs, rfl, hs1, ha1⟩ := (hd.ev g).tup_inv
  obtain ⟨x, hx, hdx⟩ := at_dp ha1 e
  exact ⟨_, h, p1, xs, k, x, rfl, rfl, seqTE hid_out hs1, hx, q H1 x (Ev.refl _) hdx⟩
theorem DE.level {rs : List Cd} (x : DE K S T te σ H (rowsD rs)) (hl : rs.length ≤ 1000) : DE K S T (tCa (spLevel K) E0 (tCons te tNil)) σ H (rowsD (rs.map Cd.bare)) := fun H1 g l t Q q =>
  x H1 g l t _ fun H2 v e2 hv => ⟨v, rs, rfl, hv.out, hl, fun H' u s hu => q H' u (e2.trans (Ev.of s)) (Dp.hid ((e2.trans (Ev.of s)).lsts l) _ _ (noList_rowsD _) hu)⟩
end
theorem bare_ok {n : Nat} {rs : List Cd} (o : EqOk n rs) : EqOk n (rs.map Cd.bare) := ⟨o.n1, o.n2, by rw [List.length_map]; exact o.len, fun r hr => by
  obtain ⟨r0, h0, rfl⟩ := List.mem_map.mp hr
  have ok := o.rows r0 h0
  cases r0 with
  | eq f c => exact ⟨ok.len, ok.fs, ⟨(show (-1000 : Int) ≤ 0 by decide), (show (0 : Int) ≤ 1000 by decide)⟩, fun _ _ _ z => by cases z⟩
  | ge f c => exact ⟨ok.len, ok.fs, ⟨(show (-1000 : Int) ≤ 0 by decide), (show (0 : Int) ≤ 1000 by decide)⟩, fun _ _ _ z => by cases z⟩
  | md m f c => exact ⟨ok.len, ok.fs, ⟨(show (-1000 : Int) ≤ 0 by decide), (show (0 : Int) ≤ 1000 by decide)⟩, fun m' f' c' z => by cases z; exact ok.md m f c rfl⟩⟩
theorem eqB_eqD {n : Nat} {rs : List Cd} (o : EqOk n rs) : EqB (eqD n rs) := EqB.of2 (sm_int (by have := o.n2; omega)) (fun x hx => by
  obtain ⟨r, hr, rfl⟩ := List.mem_map.mp hx
  exact rowB_cd (o.rows r hr) o.n2) (by rw [List.length_map]; have := o.len; omega)
theorem sm_err {s : Str} {p : PyData} (hs : Sm 40 5 (.str s)) (hp : Sm 40 5 p) : Sm 123 6 (errD s p) := SmA.tup (SmA.mono (SmA.of_all (n := 40) (D := 5) (xs := [.str s, p, .bool true]) fun x hx => by
  simp only [List.mem_cons, List.not_mem_nil, or_false] at hx
  rcases hx with rfl | rfl | rfl
  · exact hs
  · exact hp
  · exact Sm.bl') (Nat.le_refl 123))
theorem sm_is {d : PyData} (h : Sm 70000 9 d) : Sm 70100 10 (isD d) := SmA.tup (SmA.cons' (n := 40) (m := 70001) ((sm_str (s := "is")).mono' (by decide) (by decide)) (SmA.cons' (m := 0) h SmA.nil' (by omega)) (by omega))
def spNeeded (K : PySem.W.Frag) (T : List (Addr × Str)) : Sp := fun vs H Q _ => ∃ (a l c : Addr) (m n : Nat) (v : V) (rs : List Cd), vs = [.ref a, v] ∧ LSt H a l c m ∧ m ≤ 800000 ∧ Tabs T H ∧ Dp K H v (eqD n rs) ∧ EqOk n rs ∧ ∀ H', ExtN (hid [a, l] H) (hid [a, l] H') → LSt H' a l c (m + 50) → Tabs T H' → Q (.bl true) H'
end Ws
/-! ## Y10 -/
namespace Ws
open PySem PySem.Spec PyProof.Rows L2 RZ LamX
/-! ### statements over lists that grow beside the state -/
section
variable {K : PySem.W.Frag} {T : List (Addr × Str)} {X : List Addr} {L : List (Addr × List PyData)} {S : List Addr} {H : Hp} {te ta tb : TE} {D : Ends} {σ : L2.St} {ds : List PyData} {d : PyData} {u : TS} {BR BQ : Addr}
theorem hid_sbt {a l : Addr} {H' : Hp} (ha : a ∈ S) (hl : l ∈ S) (e : Sbt a l H H') : ExtN (hid S H) (hid S H') := fun b o h n => by
  unfold hid at h ⊢
  split at h
  · cases h
  · rename_i m
    rw [if_neg m]
    exact e b o h (fun z => m (z ▸ ha)) (fun z => m (z ▸ hl))
theorem LsS.sbt {a l c : Addr} {m m' : Nat} {H' : Hp} (h : LsS K T [a, l] L H) (s : LSt H a l c m) (e : Sbt a l H H') (s' : LSt H' a l c m') : LsS K T [a, l] L H' := by
  have ha : a ∈ adr L [a, l] := List.mem_append.mpr (.inr (List.mem_cons_self ..))
  have hl : l ∈ adr L [a, l] := List.mem_append.mpr (.inr (List.mem_cons_of_mem _ (List.mem_cons_self ..)))
  refine ⟨Tabs.sbt h.tabs s e, h.nd, lst_st s', h.apart, fun x hx => ?_⟩
  obtain ⟨ys, q, dd⟩ := h.at_ x hx
  have ap := h.apart x.1 (List.mem_map.mpr ⟨x, hx, rfl⟩)
  simp only [List.mem_cons, List.not_mem_nil, or_false, not_or] at ap
  exact ⟨ys, e _ _ q ap.1 ap.2, Dp.exts (hid_sbt ha hl e) _ _ dd⟩
theorem sv_val {i : Nat} (l : Lsts S H) (t : Tabs T H) (hd : DE K S T te σ H d) (q : ∀ H' v, Ev T H H' → Dp K (hid S H') v d → u D (σ.set i (some v)) H') : tSeq (tAsg te (gName i)) u D σ H := hd H (Ev.refl H) l t _ fun H2 v e hv => q H2 v e hv
theorem sv_app {k i : Nat} {p : Addr} (h : LsS K T X L H) (hi : σ[i]? = some (some (.ref p))) (hk : L[k]? = some (p, ds)) (hl : ds.length ≤ 100000) (hd : DE K (adr L X) T te σ H d)
    (q : ∀ H2 o, Ev T H H2 → LsS K T X (L.set k (p, ds ++ [d])) (upd H2 p o) → ExtN (hid (adr L X) H) (hid (adr L X) (upd H2 p o)) → D.nx σ (upd H2 p o)) : tDrop (tBM K "list" rAppend (tVar i) (tCons te tNil)) D σ H := by
  obtain ⟨ys, hp, hys⟩ := h.at_ _ (List.mem_of_getElem? hk)
  refine ⟨_, hi, .inl ⟨rfl, ys, .of hp⟩, hd H (Ev.refl H) h.lsts h.tabs _ fun H' u e hu => ?_⟩
  have hp2 := e.1 _ _ hp (fun ps z => by cases z)
  have hy := hys.length
  refine ⟨p, ys, u, rfl, rfl, hp2, by rw [hy, sizeLine_eq]; show ds.length < _; omega, q H' _ e ((h.ev e).app hk hp2 hu) ?_⟩
  have hm3 : p ∈ adr L X := List.mem_append.mpr (.inl (List.mem_map.mpr ⟨(p, ds), List.mem_of_getElem? hk, rfl⟩))
  rw [hid_upd hm3]
  exact hid_ext e.1
theorem sq_like {N M : Nat} {t1 : TS} (l : Lsts S H) (t : Tabs T H) (x : DE K S T ta σ H d) (y : DE K S T tb σ H d) (sm : Sm N M d) (hN : N ≤ 200000) (hD : M ≤ 60) (q : ∀ H', Ev T H H' → u D σ H') :
    tSeq (tIfS (tNot (tB (tCa (spLike K) E0 (tCons ta (tCons tb tNil))))) t1 tNext) u D σ H :=
  x H (Ev.refl _) l t _ fun H2 v e2 hv => y H2 e2 (e2.lsts l) (e2.2 t) _ fun H3 w e3 hw => ⟨v, w, d, N, M, rfl, (hv.ev e3).out, hw.out, sm, hN, hD, _, rfl, iteF (q H3 (e2.trans e3))⟩
theorem nums_ok {n : Nat} {xs : List Int} (h1 : xs.length = n) (h2 : ∀ x ∈ xs, 0 ≤ x ∧ x ≤ 10 ^ 60) : (isTn (intsD xs) n && areB (intsD xs) 0 (10 ^ 60)) = true := by
  rw [Bool.and_eq_true]
  refine ⟨by simp [isTn, intsD, h1], ?_⟩
  simp only [areB, intsD, List.all_eq_true]
  intro x hx
  obtain ⟨i, hi, rfl⟩ := List.mem_map.mp hx
  have := h2 i hi
  simp only [isBt, Bool.and_eq_true, decide_eq_true_eq]
  exact this
theorem ints_inj {a b : List Int} (e : intsD a = intsD b) : a = b := List.map_inj_right (fun x y z => PyData.int.inj z) |>.mp (PyData.tuple.inj e)
theorem DE.solves {n : Nat} {rs : List Cd} {xs : List Int} (o : EqOk n rs) (h1 : xs.length = n) (h2 : ∀ x ∈ xs, 0 ≤ x ∧ x ≤ 10 ^ 60) (x : DE K S T ta σ H (eqD n rs)) (y : DE K S T tb σ H (intsD xs)) : DE K S T (tCa (spSolves K BR BQ) E0 (tCons ta (tCons tb tNil))) σ H (.bool (rs.all (heldR xs))) := fun H1 e l t Q q =>
  x H1 e l t _ fun H2 v e2 hv => y H2 (e.trans e2) (e2.lsts l) (e2.2 t) _ fun H3 w e3 hw => by
    refine ⟨v, w, _, _, rfl, (hv.ev e3).out, hw.out, fun p z => (by rw [eqD_ok o] at z; cases z), fun n' rs' ed o' => ?_⟩
    obtain ⟨rfl, rfl⟩ := eqD_inj ed
    refine ⟨fun xs' ex _ H' s => ?_, fun z => ?_⟩
    · obtain rfl := ints_inj ex
      exact q H' _ ((e2.trans e3).trans (Ev.of s)) (.bl _)
    · rw [nums_ok h1 h2] at z
      cases z
theorem DE.homog {n : Nat} {rs : List Cd} (o : EqOk n rs) (x : DE K S T ta σ H (eqD n rs)) : DE K S T (tCa (spHomog K BQ) E0 (tCons ta tNil)) σ H (eqD n (rs.map Cd.bare)) := fun H1 e l t Q q =>
  x H1 e l t _ fun H2 v e2 hv => ⟨v, _, rfl, hv.out, fun p z => (by rw [eqD_ok o] at z; cases z), fun n' rs' ed o' H' u s hu => by
    obtain ⟨rfl, rfl⟩ := eqD_inj ed
    exact q H' u (e2.trans (Ev.of s)) (Dp.hid ((e2.trans (Ev.of s)).lsts l) _ _ (noList_eqD _ _) hu)⟩
theorem DE.needO {n : Nat} {rs : List Cd} (o : EqOk n rs) (x : DE K S T ta σ H (eqD n rs)) : DE K S T (tCa (spNeedEq K BQ) E0 (tCons ta tNil)) σ H (eqD n rs) := fun H1 e l t Q q =>
  x H1 e l t _ fun H2 v e2 hv => ⟨v, _, rfl, hv.out, fun _ H' s => q H' v (e2.trans (Ev.of s)) (hv.ev (Ev.of (T := T) s)), fun p z => (by rw [eqD_ok o] at z; cases z)⟩
theorem DE.lawheld {n : Nat} {rs : List Cd} {xs : List Int} (o : EqOk n rs) (h1 : xs.length = n) (x : DE K S T ta σ H (rowsD rs)) (y : DE K S T tb σ H (intsD xs)) : DE K S T (tCa (spLawHeld K) E0 (tCons ta (tCons tb tNil))) σ H (.bool (rs.all (heldR xs))) := fun H1 e l t Q q =>
  x H1 e l t _ fun H2 v e2 hv => y H2 (e.trans e2) (e2.lsts l) (e2.2 t) _ fun H3 w e3 hw =>
    ⟨v, w, n, rs, xs, rfl, (hv.ev e3).out, o.rows, o.n2, h1, by have := o.len; omega, hw.out, fun H' s => q H' _ ((e2.trans e3).trans (Ev.of s)) (.bl _)⟩
theorem _root_.L2.Dp.lst_inv' {H : Hp} {v : V} {ds : List PyData} (h : Dp K H v (.list ds)) : ∃ p xs, v = .ref p ∧ SqL K H p xs ∧ DpAll K H xs ds := by
  cases h with
  | lst hs ha => exact ⟨_, _, rfl, hs, ha⟩
end
end Ws
/-! ## Y11 -/
namespace Ws
open PySem PySem.Spec PyProof.Rows L2 RZ LamX
local macro_rules | `(tactic| walk_at "nf") => `(tactic| dsimp only [tNext, tSeq, tDrop, tRet, tRetN, tIfS, tAsg, gName, gTup, gCons, gNil, tVar, tC, tOp, tUn, rI, rI0, rU, rEq, rNe, tTest, tChain, tAnd, tOr, tNot, tAndV, tOrV, tNotV, tIf, tCB, tCKw, tCons, tNil, tTup, tLst, tCa, tCallS, tB, rIxT, rIxL, rIxS, cxOf, Cx.nox, Cx.wish, Cx.blk, L2.start, tPar, tPar3, tNever, tYes, tBits, tRz, tBM, rAppend, tyV, tXf, suiteEnds, gSub, rSetL, tBreak, rMax, tDGet, sDPut, tSl, tNoPart, tPart, tDisp, tPairs, tDGet2, tDNewK])
local macro_rules | `(tactic| walk_at "sx") => `(tactic| simp only [wipe, List.cons.injEq, and_assoc, exists_and_left, and_true, List.map_cons, List.map_nil, List.length_cons, List.length_nil, List.cons_append, List.nil_append, List.append_nil, Nat.reduceAdd, Nat.reduceSub, List.replicate, List.getElem?_cons_zero, List.getElem?_cons_succ, List.set_cons_zero, List.set_cons_succ, Option.some.injEq, V.int.injEq, V.bl.injEq, V.ref.injEq, V.str.injEq, exists_eq_left', exists_eq_left, true_and, Bool.true_eq_false, Bool.false_eq_true, if_true, if_false])

local macro_rules | `(tactic| walk_at "de") => `(tactic| repeat' first | exact DEs.nil | refine DEs.cons ?_ ?_ | refine DE.tup ?_ | exact DE.int | exact DE.str | exact DE.bl | exact DE.non | refine DE.lst (LE.lst ?_) | refine LE.re (LE.lst ?_) | refine LE.lst ?_ | refine LE.cat ?_ ?_ | apply LE.rep | apply DE.repT | exact DE.varI rfl | exact DE.var (by rfl) (by assumption) | apply DE.op0 | apply DE.opC | apply DE.un | exact rfl | exact ⟨by decide +kernel, by decide +kernel, by decide +kernel⟩ | exact ⟨by decide +kernel, by decide +kernel⟩)

/-! ### what is right -/
def spRight (K : PySem.W.Frag) (T : List (Addr × Str)) : Sp := fun vs H Q _ => ∃ (a l c : Addr) (m : Nat), vs = [.ref a] ∧ LSt H a l c m ∧ m ≤ 500000 ∧ Tabs T H ∧ ∀ H', ExtN (hid [a, l] H) (hid [a, l] H') → LSt H' a l c (m + 1000) → Tabs T H' → Q (.bl true) H'
abbrev s__law_right : Stmt := top 49
abbrev nm__law_right : List Str := ["state", "bare", "near", "far", "turn", "numbers", "due", "step", "most", "got", "bad", "value"]
abbrev pr__law_right : List Str := ["state"]
theorem sc__law_right : FnScope nm__law_right pr__law_right (defScope s__law_right) := ⟨rfl, rfl, rfl, by decide +kernel, rfl, by decide +kernel, by decide +kernel⟩

def ontoL (xs ys : List Int) (z : Int) : List Int := (List.range xs.length).map fun i => xs.getD i 0 + z * ys.getD i 0
theorem ontoL_len (xs ys : List Int) (z : Int) : (ontoL xs ys z).length = xs.length := by simp [ontoL]
theorem onto_zip (z : Int) : ∀ (xs ys : List Int), xs.length = ys.length → ontoL xs ys z = List.zipWith (fun x y => x + z * y) xs ys
  | [], ys, _ => by simp [ontoL]
  | x :: xs, [], h => by cases h
  | x :: xs, y :: ys, h => by
    rw [List.zipWith_cons_cons, ← onto_zip z xs ys (Nat.succ.inj h)]
    unfold ontoL
    rw [List.length_cons, List.range_succ_eq_map, List.map_cons, List.map_map]
    rfl
theorem dot_zip (z : Int) : ∀ (fs xs ys : List Int), xs.length = ys.length → dot fs (List.zipWith (fun x y => x + z * y) xs ys) = dot fs xs + z * dot fs ys
  | [], xs, ys, _ => by simp [dot]
  | f :: fs, [], [], _ => by simp [dot]
  | f :: fs, [], y :: ys, h => by cases h
  | f :: fs, x :: xs, [], h => by cases h
  | f :: fs, x :: xs, y :: ys, h => by
    rw [List.zipWith_cons_cons]
    show f * (x + z * y) + dot fs _ = f * x + dot fs xs + z * (f * y + dot fs ys)
    rw [dot_zip z fs xs ys (Nat.succ.inj h)]
    simp only [Int.mul_add]
    rw [show f * (z * y) = z * (f * y) by rw [Int.mul_left_comm]]
    omega
theorem held_onto {r : Cd} {xs ys : List Int} {z : Int} (hz : 0 ≤ z) (hl : xs.length = ys.length) (h : heldR xs r = true) (g : heldR ys r.bare = true) : heldR (ontoL xs ys z) r = true := by
  rw [onto_zip z xs ys hl]
  unfold heldR at h g ⊢
  have e : r.val (List.zipWith (fun x y => x + z * y) xs ys) = r.val xs + z * r.bare.val ys := by
    unfold Cd.val
    rw [dot_zip z _ xs ys hl]
    cases r <;> simp only [Cd.bare, Cd.fs, Cd.con, Int.zero_add] <;> omega
  rw [e]
  generalize r.val xs = A at h ⊢
  generalize r.bare.val ys = B at g ⊢
  cases r with
  | eq f c =>
    simp only [Cd.holds, Cd.bare, decide_eq_true_eq] at h g ⊢
    rw [h, g]
    simp
  | ge f c =>
    simp only [Cd.holds, Cd.bare, decide_eq_true_eq] at h g ⊢
    have := Int.mul_nonneg hz g
    omega
  | md m f c =>
    simp only [Cd.holds, Cd.bare, decide_eq_true_eq] at h g ⊢
    have h1 := Int.dvd_of_emod_eq_zero h
    have h2 := Int.dvd_of_emod_eq_zero g
    exact Int.emod_eq_zero_of_dvd (Int.dvd_add h1 (Int.dvd_trans h2 (Int.dvd_mul_left z B)))
theorem all_onto {rs : List Cd} {xs ys : List Int} {z : Int} (hz : 0 ≤ z) (hl : xs.length = ys.length) (h : rs.all (heldR xs) = true) (g : (rs.map Cd.bare).all (heldR ys) = true) : rs.all (heldR (ontoL xs ys z)) = true := by
  rw [List.all_eq_true] at h g ⊢
  exact fun r hr => held_onto hz hl (h r hr) (g _ (List.mem_map.mpr ⟨r, hr, rfl⟩))
theorem onto_bd {xs ys : List Int} {z : Int} (hz : 0 ≤ z) (hz2 : z ≤ 10 ^ 20) (hl : xs.length = ys.length) (h : ∀ x ∈ xs, 0 ≤ x ∧ x < 10 ^ 30) (g : ∀ x ∈ ys, 0 ≤ x ∧ x < 10 ^ 30) : ∀ x ∈ ontoL xs ys z, 0 ≤ x ∧ x ≤ 10 ^ 60 := fun x hx => by
  unfold ontoL at hx
  obtain ⟨i, hi, rfl⟩ := List.mem_map.mp hx
  have hi := List.mem_range.mp hi
  have ex : xs.getD i 0 = xs[i] := by rw [List.getD_eq_getElem?_getD, List.getElem?_eq_getElem hi]; rfl
  have ey : ys.getD i 0 = ys[i]'(by omega) := by rw [List.getD_eq_getElem?_getD, List.getElem?_eq_getElem (by omega)]; rfl
  rw [ex, ey]
  have a1 := h _ (List.getElem_mem hi)
  have a2 := g _ (List.getElem_mem (show i < ys.length by omega))
  have m1 := Int.mul_nonneg hz a2.1
  have m2 : z * ys[i]'(by omega) ≤ 10 ^ 20 * 10 ^ 30 := Int.mul_le_mul hz2 (Int.le_of_lt a2.2) a2.1 (by decide)
  have n1 : (10 : Int) ^ 20 * 10 ^ 30 + 10 ^ 30 ≤ 10 ^ 60 := by decide +kernel
  omega
theorem like_and {K : PySem.W.Frag} {S : List Addr} {T : List (Addr × Str)} {H : Hp} {σ : L2.St} {ta tb t1 : TE} {d : PyData} {Q : VK} {N M : Nat} (l : Lsts S H) (t : Tabs T H) (x : DE K S T ta σ H d) (y : DE K S T tb σ H d) (sm : Sm N M d) (hN : N ≤ 200000) (hD : M ≤ 60) (q : ∀ H', Ev T H H' → t1 σ H' Q) :
    tAndV (tCa (spLike K) E0 (tCons ta (tCons tb tNil))) t1 σ H Q :=
  x H (Ev.refl _) l t _ fun H2 v e2 hv => y H2 e2 (e2.lsts l) (e2.2 t) _ fun H3 w e3 hw => ⟨v, w, d, N, M, rfl, (hv.ev e3).out, hw.out, sm, hN, hD, _, rfl, iteT (q H3 (e2.trans e3))⟩
theorem like_ret {K : PySem.W.Frag} {S : List Addr} {T : List (Addr × Str)} {H : Hp} {σ : L2.St} {ta tb : TE} {d : PyData} {D : Ends} {N M : Nat} (l : Lsts S H) (t : Tabs T H) (x : DE K S T ta σ H d) (y : DE K S T tb σ H d) (sm : Sm N M d) (hN : N ≤ 200000) (hD : M ≤ 60) (q : ∀ H', Ev T H H' → D.rt (.bl true) H') :
    tRet (tCa (spLike K) E0 (tCons ta (tCons tb tNil))) D σ H :=
  x H (Ev.refl _) l t _ fun H2 v e2 hv => y H2 e2 (e2.lsts l) (e2.2 t) _ fun H3 w e3 hw => ⟨v, w, d, N, M, rfl, (hv.ev e3).out, hw.out, sm, hN, hD, q H3 (e2.trans e3)⟩
theorem DW.pow {K : PySem.W.Frag} {a l c : Addr} {σ : L2.St} {H : Hp} {i j k : Int} (h : CPow i j) (e : i ^ j.toNat = k) : DW K a l c 0 (tOp (rI CPow fun i j => V.int (i ^ j.toNat)) (tC (.int i)) (tC (.int j))) σ H (· = .int k) := fun H1 m _ t _ Q q => ⟨i, j, rfl, rfl, h, q H1 _ _ (GX.refl _) t (by rw [e]) (.int _)⟩
def bads (n : Nat) : List PyData := [.tuple (List.replicate ((n : Int) + 1).toNat [.int 0]).flatten, .tuple (List.replicate (n : Int).toNat [.int (-1)]).flatten, .tuple (List.replicate (n : Int).toNat [.bool true]).flatten, .list (List.replicate (n : Int).toNat [.int 0]).flatten]
theorem bads_all : (List.range 13).all (fun n => n == 0 || (bads n).all fun d => !(isTn d n && areB d 0 (10 ^ 60))) = true := by decide +kernel
theorem bads_not {n : Nat} (h1 : 1 ≤ n) (h2 : n ≤ 12) {d : PyData} (hd : d ∈ bads n) : (isTn d n && areB d 0 (10 ^ 60)) = false := by
  have h := List.all_eq_true.mp bads_all n (List.mem_range.mpr (by omega))
  rcases Bool.or_eq_true_iff.mp h with h | h
  · have := of_decide_eq_true (p := n = 0) h
    omega
  · have := List.all_eq_true.mp h d hd
    simpa only [Bool.not_eq_true'] using this
theorem rep1 (x : PyData) (k : Nat) : (List.replicate k [x]).flatten = List.replicate k x := by
  induction k with
  | zero => rfl
  | succ k ih => rw [List.replicate_succ, List.flatten_cons, ih, List.replicate_succ]; rfl
theorem sm_rep {x : PyData} {k : Nat} (h : Sm 40 5 x) (hk : k ≤ 13) : SmA 533 5 (List.replicate k [x]).flatten := by
  rw [rep1]
  refine SmA.mono (SmA.of_all (n := 40) (D := 5) fun y hy => by rw [List.eq_of_mem_replicate hy]; exact h) ?_
  rw [List.length_replicate]
  omega
theorem bads_sm {n : Nat} (h2 : n ≤ 12) {d : PyData} (hd : d ∈ bads n) : Sm 533 6 d := by
  simp only [bads, List.mem_cons, List.not_mem_nil, or_false] at hd
  rcases hd with rfl | rfl | rfl | rfl
  · exact SmA.tup (sm_rep (sm_int (by decide)) (by omega))
  · exact SmA.tup (sm_rep (sm_int (by decide)) (by omega))
  · exact SmA.tup (sm_rep Sm.bl' (by omega))
  · exact smLst (sm_rep (sm_int (by decide)) (by omega))
theorem for_cut {K : PySem.W.Frag} {S : List Addr} {H : Hp} {σ : L2.St} {D : Ends} {ds : List PyData} {i j : Nat} {p : Addr} {ys : List V} {tb : TS} (l : Lsts S H) (hi : σ[i]? = some (some (.ref p))) (hp : H p = some (.lst ys)) (hy : DpAll K (hid S H) ys ds) (Pv : Nat → L2.St → Hp → Prop)
    (h0 : ∀ q o, H q = none → Pv 0 σ (upd H q o))
    (hs : ∀ H0 i x σ H', i < (cutD ds none (some 2)).length → Pv i σ H' → ExtN (hid S H0) (hid S H') → Dp K (hid S H') x ((cutD ds none (some 2)).getD i .none) → tb { D with nx := fun σ' H' => Pv (i + 1) σ' H' ∧ ExtN (hid S H0) (hid S H'), ct := fun σ' H' => Pv (i + 1) σ' H' ∧ ExtN (hid S H0) (hid S H'), bk := D.nx } (σ.set j (some x)) H')
    (hd : ∀ σ H', Pv (cutD ds none (some 2)).length σ H' → D.nx σ H') : tFor (iList K (tSl (rSlL K) (tVar i) tNoPart (tPart (tC (.int 2))))) (gName j) tb D σ H := by
  refine ⟨_, hi, 2, rfl, p, ys, rfl, .of hp, fun q hq => ?_⟩
  have hc : DpAll K (hid S (upd H q (.lst (cutV ys none (some 2))))) (cutV ys none (some 2)) (cutD ds none (some 2)) := nws (cut_dp hy none (some 2)) hq
  have nq : q ∉ S := fun z => by
    obtain ⟨o, e, _⟩ := l q z
    rw [hq] at e
    cases e
  have hq2 : SqL K (hid S (upd H q (.lst (cutV ys none (some 2))))) q (cutV ys none (some 2)) := .of (by
    unfold hid
    rw [if_neg nq]
    exact upd_same)
  have hn := hc.length
  generalize eH : upd H q (.lst (cutV ys none (some 2))) = H0 at hc hq2 ⊢
  have p0 : Pv 0 σ H0 := by rw [← eH]; exact h0 q _ hq
  refine ⟨q, rfl, ⟨_, seqLE hid_out hq2⟩, for_list (xs := cutV ys none (some 2)) (fun i σ H => Pv i σ H ∧ ExtN (hid S H0) (hid S H)) ⟨p0, ExtN.refl _⟩ (fun i σ H _ p => seqLE hid_out (seqLE p.2 hq2)) (fun i x σ H hx p => ?_) (fun σ H p => hd σ H (by rw [← hn]; exact p.1))⟩
  have hi : i < (cutD ds none (some 2)).length := by rw [← hn]; exact (List.getElem?_eq_some_iff.mp hx).1
  obtain ⟨y, hy, _, hdy⟩ := hc.at_ hi
  rw [hx] at hy
  obtain rfl := Option.some.inj hy
  exact hs H0 i x σ H hi p.1 p.2 (Dp.ext p.2 _ _ hdy)
theorem cut2_len (ds : List PyData) : (cutD ds none (some 2)).length ≤ 2 := by
  unfold cutD
  rw [List.length_take]
  have : HT.sIx ds.length ds.length (some 2) ≤ 2 := by
    unfold HT.sIx
    simp
    omega
  omega
theorem cut2_mem {ds : List PyData} {i : Nat} (h : i < (cutD ds none (some 2)).length) : (cutD ds none (some 2)).getD i .none ∈ ds := by
  rw [List.getD_eq_getElem?_getD, List.getElem?_eq_getElem h]
  exact List.mem_of_mem_drop (List.mem_of_mem_take (show (cutD ds none (some 2))[i] ∈ cutD ds none (some 2) from List.getElem_mem h))
section
variable {P : Program} {w : World} {K : PySem.W.Frag} {mg : Str → Option Value} {base : Heap} {SE BR BQ : Addr} {c0 P0 : Addr} {TS : List (Addr × Str)}
theorem ok_right (B : Bl mg) (T : ErQ P w K mg base BR BQ) (SX : Ex2 K mg SE BR BQ) (DC : Dt K mg "_law_caught" s__law_caught pr__law_caught) (hTB : TabB base mg c0 P0) (hmT : (P0, ("_law_right" : Str) ++ (".<locals>." : Str) ++ ("<lambda>" : Str)) ∈ TS) (hu : ∀ p ∈ TS, p.1 = P0 → p.2 = ("_law_right" : Str) ++ (".<locals>." : Str) ++ ("<lambda>" : Str))
    (F1 : Df P w K mg base CX0 2 "_law_draw" pr__law_draw spDrawW) (F2 : Df P w K mg base CX0 4 "_law_equations" pr__law_equations (spEquations K)) (F3 : Df P w K mg base CX0 4 "_law_numbers" pr__law_numbers (spNumbers K)) (F4 : Df P w K mg base (L2.CX P w) 4 "need_equations" pr_need_equations (spNeedEq K BQ)) (F5 : Df P w K mg base (L2.CX P w) 5 "homogeneous" pr_homogeneous (spHomog K BQ)) (F6 : Df P w K mg base (L2.CX P w) 6 "solves" pr_solves (spSolves K BR BQ)) (F7 : Df P w K mg base CX0 1 "_law_bare" pr__law_bare (spLevel K))
    (F8 : Df P w K mg base CX0 2 "_law_held" pr__law_held (spLawHeld K)) (F9 : Df P w K mg base CX0 1 "_law_onto" pr__law_onto (spOnto K)) (F10 : Df P w K mg base CX0 3 "_law_of" pr__law_of spOf)
    (FL : DfG P w K mg base CX0 1 "_law_like" pr__law_like (spLike K)) (FN : DfG P w K mg base CX0 10 "_law_needed" pr__law_needed (spNeeded K TS))
    (D : DtC K mg "_law_right" s__law_right pr__law_right c0) : DfG P w K mg base CX0 12 "_law_right" pr__law_right (spRight K TS) := by
  refine D.okG sc__law_right (fun vs H Q E h => ?_) (fun f A outer s H vs Q E hG hr h => ?_)
  · obtain ⟨a, l, c, m, rfl, _⟩ := h
    rfl
  · obtain ⟨a, l, c, m, rfl, hl, hm, hT, k⟩ := h
    refine ⟨_, (pss_cons (ps_set (i := 11) sc__law_right.nd rfl (Or.inr rfl) (pe_f F2 (hr.mono (by decide)) pass0 (pa_cons (pv 0) (pa_cons pe_int pa_nil)))) (pss_cons (ps_set (i := 1) sc__law_right.nd rfl (Or.inl rfl) (pe_f (E := E0) F5 (hr.mono (by decide)) passN (pa_cons (pv 11) pa_nil))) (pss_cons (ps_if (pt_not (pt_val (pe_fG FL hG (hr.mono (by decide)) pass0 (pa_cons (pe_lst (pa_cons (pe_f (E := E0) F4 (hr.mono (by decide)) passN (pa_cons (pv 11) pa_nil)) (pa_cons (pv 1) pa_nil))) (pa_cons (pe_lst (pa_cons (pv 11) (pa_cons (pe_tup (pa_cons (pe_ix ix_tup (pv 11) pe_int (fun _ _ => rfl)) (pa_cons (pe_f F7 (hr.mono (by decide)) pass0 (pa_cons (pe_ix ix_tup (pv 11) pe_int (fun _ _ => rfl)) pa_nil)) pa_nil))) pa_nil))) pa_nil))))) (pss_one (ps_ret pe_bl)) pss_nil) (pss_cons (ps_par (i := 2) (j := 3) (by rfl) sc__law_right.nd rfl rfl (by decide) rfl rfl (pa_cons (pe_lst pa_nil) (pa_cons (pe_lst pa_nil) pa_nil)) (by rfl)) (pss_cons (ps_for PassesOwn.never rfl (pi_range1 (by rfl) B.range (pa_cons pe_int pa_nil)) (pg_name (i := 4) sc__law_right.nd rfl (Or.inl rfl)) (pss_cons (ps_set (i := 5) sc__law_right.nd rfl (Or.inl rfl) (pe_f F3 (hr.mono (by decide)) pass0 (pa_cons (pv 0) (pa_cons (pe_ix ix_tup (pv 11) pe_int (fun _ _ => rfl)) pa_nil)))) (pss_cons (ps_set (i := 6) sc__law_right.nd rfl (Or.inl rfl) (pe_lst (pa_cons (pe_f F8 (hr.mono (by decide)) pass0 (pa_cons (pe_ix ix_tup (pv 11) pe_int (fun _ _ => rfl)) (pa_cons (pv 5) pa_nil))) (pa_cons (pe_f F8 (hr.mono (by decide)) pass0 (pa_cons (pe_ix ix_tup (pv 1) pe_int (fun _ _ => rfl)) (pa_cons (pv 5) pa_nil))) pa_nil)))) (pss_cons (ps_if (pt_not (pt_val (pe_fG FL hG (hr.mono (by decide)) pass0 (pa_cons (pe_lst (pa_cons (pe_f (E := E0) F6 (hr.mono (by decide)) passN (pa_cons (pv 11) (pa_cons (pv 5) pa_nil))) (pa_cons (pe_f (E := E0) F6 (hr.mono (by decide)) passN (pa_cons (pv 1) (pa_cons (pv 5) pa_nil))) pa_nil))) (pa_cons (pv 6) pa_nil))))) (pss_one (ps_ret pe_bl)) pss_nil) (pss_cons (ps_if (pt_val (pe_ix ix_list (pv 6) pe_int (fun _ _ => rfl))) (pss_one (ps_expr (pe_bm PySem.F.plainAttrs_list PySem.F.slot_list_append PySem.F.type_list_append mt_append (pv 2) (pa_cons (pv 5) pa_nil)))) pss_nil) (pss_one (ps_if (pt_val (pe_ix ix_list (pv 6) pe_int (fun _ _ => rfl))) (pss_one (ps_expr (pe_bm PySem.F.plainAttrs_list PySem.F.slot_list_append PySem.F.type_list_append mt_append (pv 3) (pa_cons (pv 5) pa_nil)))) pss_nil))))))) (pss_cons (ps_for PassesOwn.never rfl (pi_list (pe_slice sl_list (pv 2) po_none (po_some pe_int))) (pg_name (i := 5) sc__law_right.nd rfl (Or.inl rfl)) (pss_one (ps_for PassesOwn.never rfl (pi_list (pe_slice sl_list (pv 3) po_none (po_some pe_int))) (pg_name (i := 7) sc__law_right.nd rfl (Or.inl rfl)) (pss_one (ps_if (pt_cmpR op_notBA (pe_f (E := E0) F6 (hr.mono (by decide)) passN (pa_cons (pv 11) (pa_cons (pe_f F9 (hr.mono (by decide)) pass0 (pa_cons (pv 5) (pa_cons (pv 7) (pa_cons (pe_op op_add pe_int (pe_f F1 (hr.mono (by decide)) pass0 (pa_cons (pv 0) (pa_cons (pe_op op_pow pe_int pe_int) pa_nil)))) pa_nil)))) pa_nil))) pe_bl (nomark _)) (pss_one (ps_ret pe_bl)) pss_nil))))) (pss_cons (ps_set (i := 10) sc__law_right.nd rfl (Or.inr rfl) (pe_f F10 (hr.mono (by decide)) pass0 (pa_cons (pv 0) (pa_cons (pe_lst (pa_cons (pe_op op_repB (pe_tup (pa_cons pe_int pa_nil)) (pe_op op_add (pe_ix ix_tup (pv 11) pe_int (fun _ _ => rfl)) pe_int)) (pa_cons (pe_op op_repB (pe_tup (pa_cons (pe_un un_neg pe_int) pa_nil)) (pe_ix ix_tup (pv 11) pe_int (fun _ _ => rfl))) (pa_cons (pe_op op_repB (pe_tup (pa_cons pe_bl pa_nil)) (pe_ix ix_tup (pv 11) pe_int (fun _ _ => rfl))) (pa_cons (pe_op op_rep (pe_lst (pa_cons pe_int pa_nil)) (pe_ix ix_tup (pv 11) pe_int (fun _ _ => rfl))) pa_nil))))) pa_nil)))) (pss_cons (ps_set (i := 8) sc__law_right.nd rfl (Or.inl rfl) (pe_op op_repB (pe_tup (pa_cons (pe_op op_pow pe_int pe_int) pa_nil)) (pe_ix ix_tup (pv 11) pe_int (fun _ _ => rfl)))) (pss_cons (ps_set (i := 9) sc__law_right.nd rfl (Or.inl rfl) (pe_lst (pa_cons (pe_caught (k := 7) (q := ("_law_right" : Str) ++ (".<locals>." : Str)) (TB := TS) (c := c0) (P := P0) DC B T SX hTB (by rfl) (by rfl) hmT hu (hr.mono (by decide)) (show LamS (defScope s__law_right) _ from lamS_by (by decide +kernel)) (fun A2 outer2 s2 H2 E2 f2 c2 hr2 => (pe_f (E := E2) F6 (hr2.mono (by decide)) (passes_call (takes_of rfl rfl rfl rfl) fun _ _ _ _ h => h) (pa_cons (pv 11) (pa_cons (pv 10) pa_nil))))) (pa_cons (pe_f (E := E0) F6 (hr.mono (by decide)) passN (pa_cons (pv 11) (pa_cons (pv 8) pa_nil))) pa_nil)))) (pss_one (ps_ret (pe_and (pe_fG FL hG (hr.mono (by decide)) pass0 (pa_cons (pv 9) (pa_cons (pe_lst (pa_cons (pe_tup (pa_cons pe_str (pa_cons (pv 10) (pa_cons pe_bl pa_nil)))) (pa_cons (pe_f F8 (hr.mono (by decide)) pass0 (pa_cons (pe_ix ix_tup (pv 11) pe_int (fun _ _ => rfl)) (pa_cons (pv 8) pa_nil))) pa_nil))) pa_nil))) (pe_one (pe_fG FN hG (hr.mono (by decide)) pass0 (pa_cons (pv 0) (pa_cons (pv 11) pa_nil)))))))))))))))), ?_⟩
    refine ⟨_, rfl, a, l, c, m, rfl, hl, by omega, fun H1 v n rs e1 t1 ok n3 l3 hv0 => ?_⟩
    dsimp only [gName]
    rw [show (L2.start nm__law_right [V.ref a]).set 11 (some v) = [some (.ref a), none, none, none, none, none, none, none, none, none, none, some v] from rfl]
    have hv1 : Dp K (hid (adr [] [a, l]) H1) v (eqD n rs) := Dp.hid (lst_st t1) _ _ (noList_eqD n rs) hv0
    have L0 : LsS K TS [a, l] [] H1 := LsS.nil (Tabs.sbt hT hl e1) (lst_st t1)
    have x1 : ExtN (hid [a, l] H) (hid [a, l] H1) := (gx_sbt hl e1).1
    refine sv_val L0.lsts L0.tabs (DE.homog ok (DE.var rfl hv1)) fun H2 b e2 hb2 => ?_
    rw [show ([some (.ref a), none, none, none, none, none, none, none, none, none, none, some v] : L2.St).set 1 (some b) = [some (.ref a), some b, none, none, none, none, none, none, none, none, none, some v] from rfl]
    have L2' := L0.ev e2
    have hv2 := hv1.ev e2
    have okb := bare_ok ok
    refine sq_like (d := .list [eqD n rs, eqD n (rs.map Cd.bare)]) (N := 140002) (M := 10) L2'.lsts L2'.tabs (DE.lst (LE.lst (DEs.cons (DE.needO ok (DE.var rfl hv2)) (DEs.one (DE.var rfl hb2))))) (DE.lst (LE.lst (DEs.cons (DE.var rfl hv2) (DEs.one (DE.tup (DEs.cons (DE.ixv rfl hv2 rfl) (DEs.one (DE.level (rs := rs) (DE.ixv rfl hv2 rfl) (by omega))))))))) (smLst (SmA.cons' (eqB_eqD ok).sm (SmA.cons' (eqB_eqD okb).sm (SmA.nil' (N := 0)) (Nat.le_refl _)) (by decide))) (by decide) (by decide) fun H3 e3 => ?_
    have L3 := L2'.ev e3
    have hv3 := hv2.ev e3
    have hb3 := hb2.ev e3
    have t3 : LSt H3 a l c (m + 100) := (t1.ext e2.1).ext e3.1
    have x3 : ExtN (hid [a, l] H) (hid [a, l] H3) := ExtN.trans x1 (ExtN.trans (hid_ext e2.1) (hid_ext e3.1))
    refine ⟨by decide, fun p1 hp1 => ⟨by decide, fun p2 hp2 => ⟨.ref p1, .ref p2, rfl, ?_⟩⟩⟩
    dsimp only
    rw [show (([some (.ref a), some b, none, none, none, none, none, none, none, none, none, some v] : L2.St).set 2 (some (.ref p1))).set 3 (some (.ref p2)) = [some (.ref a), some b, some (.ref p1), some (.ref p2), none, none, none, none, none, none, none, some v] from rfl]
    obtain ⟨p1a, p1l, p1c⟩ := t3.off hp1
    obtain ⟨p2a, p2l, p2c⟩ := (t3.new (o := .lst []) hp1).off hp2
    have L4 : LsS K TS [a, l] [(p1, [])] (upd H3 p1 (.lst [])) := L3.new hp1 .nil
    have L5 : LsS K TS [a, l] [(p2, []), (p1, [])] (upd (upd H3 p1 (.lst [])) p2 (.lst [])) := L4.new hp2 .nil
    have y5 : ExtN (hid [a, l] H3) (hid [p2, p1, a, l] (upd (upd H3 p1 (.lst [])) p2 (.lst []))) := ExtN.trans (hid_more hp1) (hid_more hp2)
    have hv5 := Dp.ext y5 _ _ hv3
    have hb5 := Dp.ext y5 _ _ hb3
    have x5 := ExtN.trans x3 y5
    have t5 : LSt (upd (upd H3 p1 (.lst [])) p2 (.lst [])) a l c (m + 100) := (t3.new hp1).new hp2
    generalize upd (upd H3 p1 (.lst [])) p2 (.lst []) = H5 at L5 hv5 hb5 x5 t5 ⊢
    clear L4 y5 hp2 hp1 L3 hv3 hb3 x3 t3 e3 L2' hv2 hb2 e2 x1 L0 hv1 hv0 t1 e1
    -- the rows that are taken
    let G : List Cd → List Int → Prop := fun q xs => xs.length = n ∧ (∀ x ∈ xs, 0 ≤ x ∧ x < 10 ^ 30) ∧ q.all (heldR xs) = true
    let Pv : Nat → L2.St → Hp → Prop := fun i σ H' => ∃ v4 v5 v6 v7 ns fs, σ = [some (.ref a), some b, some (.ref p1), some (.ref p2), v4, v5, v6, v7, none, none, none, some v] ∧ LSt H' a l c (m + 100 + 20 * i) ∧ LsS K TS [a, l] [(p2, (fs : List (List Int)).map intsD), (p1, (ns : List (List Int)).map intsD)] H' ∧ Dp K (hid [p2, p1, a, l] H') v (eqD n rs) ∧ Dp K (hid [p2, p1, a, l] H') b (eqD n (rs.map Cd.bare)) ∧ ExtN (hid [a, l] H) (hid [p2, p1, a, l] H') ∧ (∀ xs ∈ ns, G rs xs) ∧ (∀ xs ∈ fs, G (rs.map Cd.bare) xs) ∧ ns.length ≤ i ∧ fs.length ≤ i
    refine seq_split (Pv 12) (fun τ H6 hR => ?_) fun rest => ?_
    · obtain ⟨v4, v5, v6, v7, ns, fs, rfl, t6, L6, hv6, hb6, x6, hN, hF, l1, l2⟩ := hR
      let Pw : Nat → L2.St → Hp → Prop := fun i σ H' => ∃ v5 v7, σ = [some (.ref a), some b, some (.ref p1), some (.ref p2), v4, v5, v6, v7, none, none, none, some v] ∧ LSt H' a l c (m + 340 + 2 * i) ∧ LsS K TS [a, l] [(p2, (fs : List (List Int)).map intsD), (p1, (ns : List (List Int)).map intsD)] H' ∧ Dp K (hid [p2, p1, a, l] H') v (eqD n rs) ∧ ExtN (hid [a, l] H) (hid [p2, p1, a, l] H')
      refine seq_split (fun τ H' => ∃ i, i ≤ 2 ∧ Pw i τ H') (fun τ H7 hR => ?_) fun rest => ?_
      · obtain ⟨i, hi, v5, v7, rfl, t7, L7, hv7, x7⟩ := hR
        have T7 := L7.tabs
        have sub : ExtN (hid [p2, p1, a, l] H7) (hid [a, l] H7) := hid_sub fun z hz => by
          simp only [List.mem_cons, List.not_mem_nil, or_false] at hz ⊢
          exact .inr (.inr hz)
        have hw7 := Dp.ext sub _ _ hv7
        have x7' := ExtN.trans x7 sub
        clear L7 hv7 x7 sub
        have n12 := ok.n2
        have n1 := ok.n1
        refine sw_val (P := (· ∈ bads n)) (DW.pick rfl (DWs.consC (DW.repB (DW.tupE (DWs.consC DW.int DWs.nil)) (DW.addk (DW.ixv rfl hw7 rfl fun _ _ q => q)) (by decide) (by omega) (by omega)) (DWs.consC (DW.repB (DW.tupE (DWs.consC DW.neg DWs.nil)) (DW.ixv rfl hw7 rfl fun _ _ q => q) (by decide) (by omega) (by omega)) (DWs.consC (DW.repB (DW.tupE (DWs.consC DW.bl DWs.nil)) (DW.ixv rfl hw7 rfl fun _ _ q => q) (by decide) (by omega) (by omega)) (DWs.consC (DW.repL (DWs.consC DW.int DWs.nil) (DW.ixv rfl hw7 rfl fun _ _ q => q) (by decide) (by omega) (by omega)) DWs.nil))))) t7 (by omega) fun H8 u d g8 t8 hd hu => ?_
        have hw8 := hw7.gx g8
        have T8 := g8.2 _ T7
        refine sw_val (P := (· = intsD (List.replicate n (10 ^ 60)))) ((DW.repB (DW.tupE (DWs.consC (DW.pow (i := 10) (j := 60) (show CPow 10 60 by unfold CPow; decide) rfl) DWs.nil)) (DW.ixv rfl hw8 rfl fun _ _ q => q) (by decide) (by omega) (by omega)).mono (fun d e => by rw [e, rep1]; simp [intsD]) (s1 := 0) (Nat.le_refl _)) t8 (by omega) fun H9 u2 d2 g9 t9 hd2 hu2 => ?_
        subst hd2
        have hw9 := hw8.gx g9
        have hu9 := hu.gx g9
        have T9 := g9.2 _ T8
        have ml : (List.replicate n ((10 : Int) ^ 60)).length = n := List.length_replicate
        have mb : ∀ x ∈ List.replicate n ((10 : Int) ^ 60), 0 ≤ x ∧ x ≤ 10 ^ 60 := fun x hx => by
          rw [List.eq_of_mem_replicate hx]
          exact ⟨by decide +kernel, Int.le_refl _⟩
        refine sv_val (lst_st t9) T9 (DE.lst (LE.lst (DEs.cons (ce_solR ok (bads_not n1 n12 hd) (DEs.cons (DE.var rfl hw9) (DEs.one (DE.var rfl hu9)))) (DEs.one (DE.solves ok ml mb (DE.var rfl hw9) (DE.var rfl hu2)))))) fun H10 g e10 hg => ?_
        have hw10 := hw9.ev e10
        have hu10 := hu9.ev e10
        have hm10 := hu2.ev e10
        have t10 := t9.ext e10.1
        have x10 : ExtN (hid [a, l] H) (hid [a, l] H10) := ExtN.trans x7' (ExtN.trans g8.1 (ExtN.trans g9.1 (hid_ext e10.1)))
        have smd : Sm 2000 8 (.list [errD "row" d, .bool (rs.all (heldR (List.replicate n (10 ^ 60))))]) := smLst (SmA.cons' (n := 700) (m := 100) (SmA.tup (SmA.cons' (n := 40) (m := 650) (Sm.mono (sm_str (s := "row")) (Nat.le_refl _) (by decide)) (SmA.cons' (n := 533) (m := 100) (bads_sm n12 hd) (SmA.cons' (n := 0) (m := 0) Sm.bl' SmA.nil' (by omega)) (by omega)) (by omega))) (SmA.cons' (n := 0) (m := 0) Sm.bl' SmA.nil' (by omega)) (by omega))
        refine like_and (S := [a, l]) (T := TS) (lst_st t10) (e10.2 T9) (DE.var rfl hg) (DE.lst (LE.lst (DEs.cons (DE.tup (DEs.cons DE.str (DEs.cons (DE.var rfl hu10) (DEs.one DE.bl)))) (DEs.one (DE.lawheld ok ml (DE.ixv rfl hw10 rfl) (DE.var rfl hm10)))))) smd (by decide) (by decide) fun H11 e11 => ?_
        have hw11 := hw10.ev e11
        refine ⟨_, rfl, _, rfl, a, l, c, _, n, v, rs, rfl, t10.ext e11.1, by omega, e11.2 (e10.2 T9), hw11.out, ok, fun H12 x12 t12 T12 => k _ (ExtN.trans x10 (ExtN.trans (hid_ext e11.1) x12)) (t12.mono (by omega)) T12⟩
      · obtain ⟨ys, hp, hy⟩ := L6.at_ (p1, ns.map intsD) (by simp)
        refine for_cut L6.lsts rfl hp hy Pw (fun q o hq => ⟨_, _, rfl, (t6.new hq).mono (by omega), L6.ev (Ev.new hq), hv6.ev (T := TS) (Ev.new hq), ExtN.trans x6 (hid_ext (Ev.new (T := TS) hq).1)⟩) (fun H0 i w σ H7 hi p y0 hw => ?_) (fun σ H7 p => rest _ _ ⟨_, cut2_len _, p⟩)
        obtain ⟨v5, v7, rfl, t7, L7, hv7, x7⟩ := p
        have hi2 := Nat.lt_of_lt_of_le hi (cut2_len _)
        obtain ⟨xs, hxs, exs⟩ := List.mem_map.mp (cut2_mem hi)
        rw [← exs] at hw
        obtain ⟨zs, hp2, hz⟩ := L7.at_ (p2, fs.map intsD) (by simp)
        rw [show ([some (.ref a), some b, some (.ref p1), some (.ref p2), v4, v5, v6, v7, none, none, none, some v] : L2.St).set 5 (some w) = [some (.ref a), some b, some (.ref p1), some (.ref p2), v4, some w, v6, v7, none, none, none, some v] from rfl]
        refine for_cut L7.lsts rfl hp2 hz (fun j σ H' => ∃ v7, σ = [some (.ref a), some b, some (.ref p1), some (.ref p2), v4, some w, v6, v7, none, none, none, some v] ∧ LSt H' a l c (m + 340 + 2 * i + j) ∧ LsS K TS [a, l] [(p2, (fs : List (List Int)).map intsD), (p1, (ns : List (List Int)).map intsD)] H' ∧ Dp K (hid [p2, p1, a, l] H') v (eqD n rs) ∧ Dp K (hid [p2, p1, a, l] H') w (intsD xs) ∧ ExtN (hid [p2, p1, a, l] H7) (hid [p2, p1, a, l] H')) (fun q o hq => ⟨_, rfl, t7.new hq, L7.ev (Ev.new hq), hv7.ev (T := TS) (Ev.new hq), hw.ev (T := TS) (Ev.new hq), hid_ext (Ev.new (T := TS) hq).1⟩) (fun H1 j u σ H8 hj p y1 hu => ?_) (fun σ H8 p => ?_)
        · obtain ⟨v7, rfl, t8, L8, hv8, hw8, x8⟩ := p
          have hj2 := Nat.lt_of_lt_of_le hj (cut2_len _)
          obtain ⟨us, hus, eus⟩ := List.mem_map.mp (cut2_mem hj)
          rw [← eus] at hu
          dsimp only [gName]
          obtain ⟨hx1, hx2, hx3⟩ := hN xs hxs
          obtain ⟨hu1, hu2, hu3⟩ := hF us hus
          have e31 : (10 : Int) ^ 30 ≤ 10 ^ 31 := by decide
          refine ⟨_, rfl, _, rfl, _, rfl, _, rfl, 10, 20, rfl, rfl, (show CPow 10 20 by unfold CPow; decide), a, l, c, _, 10 ^ 20, rfl, t8, by omega, by decide, by decide, fun H9 r e9 t9 r1 r2 => ⟨1, r, rfl, rfl, ?_⟩⟩
          have y9 : ExtN (hid [p2, p1, a, l] H8) (hid [p2, p1, a, l] H9) := hid_sbt (by simp) (by simp) e9
          have L9 := L8.sbt t8 e9 t9
          have hv9 := Dp.ext y9 _ _ hv8
          have hw9 := Dp.ext y9 _ _ hw8
          have hu9 := Dp.ext y9 _ _ hu
          refine ⟨w, u, xs, us, 1 + r, rfl, hw9.out, hu9.out, by omega, by have := ok.n2; omega, by omega, by have : (10 : Int) ^ 20 < 10 ^ 21 := (by decide); omega, fun y hy => by have := hu2 y hy; omega, fun H10 o e10 ho => ?_⟩
          have L10 := L9.ev (Ev.of e10)
          have hv10 := hv9.ev (Ev.of (T := TS) e10)
          have hw10 := hw9.ev (Ev.of (T := TS) e10)
          have b10 : ∀ x ∈ ontoL xs us (1 + r), 0 ≤ x ∧ x ≤ 10 ^ 60 := onto_bd (by omega) (by omega) (by omega) hx2 hu2
          have n10 : (ontoL xs us (1 + r)).length = n := by rw [ontoL_len]; exact hx1
          have d10 : rs.all (heldR (ontoL xs us (1 + r))) = true := all_onto (by omega) (by omega) hx3 hu3
          refine ⟨v, o, _, _, rfl, hv10.out, ho, fun p z => (by rw [eqD_ok ok] at z; cases z), fun n' rs' ed o' => ?_⟩
          obtain ⟨rfl, rfl⟩ := eqD_inj ed
          refine ⟨fun xs' ex _ H11 e11 => ?_, fun z => ?_⟩
          · obtain rfl : ontoL xs us (1 + r) = xs' := ints_inj ex
            rw [d10]
            refine ⟨true, rfl, _, rfl, iteF ⟨⟨some u, rfl, ?_, L10.ev (Ev.of e11), hv10.ev (Ev.of (T := TS) e11), hw10.ev (Ev.of (T := TS) e11), ExtN.trans x8 (ExtN.trans y9 (hid_ext ((Same.extN e10).trans (Same.extN e11))))⟩, ExtN.trans (ExtN.trans y1 y9) (hid_ext ((Same.extN e10).trans (Same.extN e11)))⟩⟩
            exact ((t9.ext (Same.extN e10)).ext (Same.extN e11)).mono (by omega)
          · rw [show (isTn (intsD ((List.range xs.length).map fun i => xs.getD i 0 + (1 + r) * us.getD i 0)) n && areB (intsD ((List.range xs.length).map fun i => xs.getD i 0 + (1 + r) * us.getD i 0)) 0 (10 ^ 60)) = true from nums_ok n10 b10] at z
            cases z
        · obtain ⟨v7, rfl, t8, L8, hv8, hw8, x8⟩ := p
          exact ⟨⟨_, _, rfl, t8.mono (by have := cut2_len ((p2, List.map intsD fs) : Addr × List PyData).2; omega), L8, hv8, ExtN.trans x7 x8⟩, ExtN.trans y0 x8⟩
    · refine ⟨12, rfl, by decide, by decide, for_range (n := 12) Pv ⟨none, none, none, none, [], [], rfl, t5, L5, hv5, hb5, x5, by simp, by simp, by simp, by simp⟩ (fun i σ H6 hi p => ?_) (fun σ H6 p => rest σ H6 p)⟩
      obtain ⟨v4, v5, v6, v7, ns, fs, rfl, t6, L6, hv6, hb6, x6, hN, hF, l1, l2⟩ := p
      dsimp only [gName]
      obtain ⟨pv, ru, rfl, hs, hrw⟩ := eq_two hv6
      refine ⟨_, rfl, _, rfl, pv, _, 0, _, rfl, rfl, seqTE hid_out hs, rfl, a, l, c, _, n, rfl, t6, by omega, by omega, fun H7 w xs e7 t7 hlx hbx hw => ?_⟩
      dsimp only [gName]
      rw [show (([some (.ref a), some b, some (.ref p1), some (.ref p2), v4, v5, v6, v7, none, none, none, some (.ref pv)] : L2.St).set 4 (some (.int (0 + i)))).set 5 (some w) = [some (.ref a), some b, some (.ref p1), some (.ref p2), some (.int (0 + i)), some w, v6, v7, none, none, none, some (.ref pv)] from rfl]
      have y7 : ExtN (hid [p2, p1, a, l] H6) (hid [p2, p1, a, l] H7) := hid_sbt (by simp) (by simp) e7
      have L7 := L6.sbt t6 e7 t7
      have hv7 := Dp.ext y7 _ _ hv6
      have hb7 := Dp.ext y7 _ _ hb6
      have x7 := ExtN.trans x6 y7
      have hw7 : Dp K (hid [p2, p1, a, l] H7) w (intsD xs) := Dp.hid L7.lsts _ _ (noList_ints xs) hw
      refine sv_val L7.lsts L7.tabs (DE.lst (LE.lst (DEs.cons (DE.lawheld ok hlx (DE.ixv rfl hv7 rfl) (DE.var rfl hw7)) (DEs.one (DE.lawheld okb hlx (DE.ixv rfl hb7 rfl) (DE.var rfl hw7)))))) fun H8 du e8 hd8 => ?_
      rw [show ([some (.ref a), some b, some (.ref p1), some (.ref p2), some (.int (0 + i)), some w, v6, v7, none, none, none, some (.ref pv)] : L2.St).set 6 (some du) = [some (.ref a), some b, some (.ref p1), some (.ref p2), some (.int (0 + i)), some w, some du, v7, none, none, none, some (.ref pv)] from rfl]
      have L8 := L7.ev e8
      have hv8 := hv7.ev e8
      have hb8 := hb7.ev e8
      have hw8 := hw7.ev e8
      have hbx2 : ∀ x ∈ xs, 0 ≤ x ∧ x ≤ 10 ^ 60 := fun x hx => by
        have := hbx x hx
        have h0 : (10 : Int) ^ 30 ≤ 10 ^ 60 := (by decide +kernel)
        omega
      refine sq_like (N := 2) (M := 1) L8.lsts L8.tabs (DE.lst (LE.lst (DEs.cons (DE.solves ok hlx hbx2 (DE.var rfl hv8) (DE.var rfl hw8)) (DEs.one (DE.solves okb hlx hbx2 (DE.var rfl hb8) (DE.var rfl hw8)))))) (DE.var rfl hd8) (smLst (SmA.cons' (n := 0) (m := 1) Sm.bl' (SmA.cons' (n := 0) (m := 0) Sm.bl' SmA.nil' (by omega)) (by omega))) (by decide) (by decide) fun H9 e9 => ?_
      have L9 := L8.ev e9
      have hv9 := hv8.ev e9
      have hb9 := hb8.ev e9
      have hw9 := hw8.ev e9
      have hd9 := hd8.ev e9
      have t9 : LSt H9 a l c (m + 100 + 20 * i + 20) := (t7.ext e8.1).ext e9.1
      have x9 : ExtN (hid [a, l] H) (hid [p2, p1, a, l] H9) := ExtN.trans x7 (ExtN.trans (hid_ext e8.1) (hid_ext e9.1))
      obtain ⟨q, ys, rfl, hq, hys⟩ := hd9.lst_inv'
      obtain ⟨y1, y2, rfl, hy1, hy2⟩ := hys.two
      cases hy1
      cases hy2
      have ml : ∀ (k : List (List Int)), k.length ≤ 100 → (k.map intsD).length ≤ 100000 := fun k h => by rw [List.length_map]; omega
      refine seq_split (fun τ H' => ∃ ns', τ = [some (.ref a), some b, some (.ref p1), some (.ref p2), some (.int (0 + i)), some w, some (.ref q), v7, none, none, none, some (.ref pv)] ∧ LSt H' a l c (m + 100 + 20 * i + 20) ∧ LsS K TS [a, l] [(p2, (fs : List (List Int)).map intsD), (p1, (ns' : List (List Int)).map intsD)] H' ∧ Dp K (hid [p2, p1, a, l] H') (.ref pv) (eqD n rs) ∧ Dp K (hid [p2, p1, a, l] H') b (eqD n (rs.map Cd.bare)) ∧ Dp K (hid [p2, p1, a, l] H') w (intsD xs) ∧ SqL K (hid [p2, p1, a, l] H') q [.bl (rs.all (heldR xs)), .bl ((rs.map Cd.bare).all (heldR xs))] ∧ ExtN (hid [a, l] H) (hid [p2, p1, a, l] H') ∧ (∀ xs ∈ ns', G rs xs) ∧ ns'.length ≤ i + 1) (fun τ H10 hR => ?_) fun rest2 => ?_
      · obtain ⟨ns', rfl, t10, L10, hv10, hb10, hw10, hq10, x10, hN', l1'⟩ := hR
        refine ⟨_, rfl, q, _, 1, _, rfl, rfl, seqLE hid_out hq10, rfl, _, rfl, ?_⟩
        cases cb : (rs.map Cd.bare).all (heldR xs) with
        | false => exact iteF ⟨_, _, _, _, ns', fs, rfl, t10.mono (by omega), L10, hv10, hb10, x10, hN', hF, l1', by omega⟩
        | true =>
          refine iteT (sv_app (k := 0) L10 rfl rfl (ml _ (by omega)) (DE.var rfl hw10) fun H11 o e11 L11 x11 => ⟨_, _, _, _, ns', fs ++ [xs], rfl, ((t10.ext e11.1).put p2a p2l p2c).mono (by omega), by rw [List.map_append]; exact L11, Dp.ext x11 _ _ hv10, Dp.ext x11 _ _ hb10, ExtN.trans x10 x11, hN', fun z hz => ?_, l1', by rw [List.length_append]; show _ + 1 ≤ _; omega⟩)
          rcases List.mem_append.mp hz with hz | hz
          · exact hF z hz
          · rw [List.mem_singleton.mp hz]
            exact ⟨hlx, hbx, cb⟩
      · refine ⟨_, rfl, q, _, 0, _, rfl, rfl, seqLE hid_out hq, rfl, _, rfl, ?_⟩
        cases cb : rs.all (heldR xs) with
        | false => exact iteF (rest2 _ H9 ⟨ns, rfl, t9, L9, hv9, hb9, hw9, by rw [cb]; rw [cb] at hq; exact hq, x9, hN, by omega⟩)
        | true =>
          refine iteT (sv_app (k := 1) L9 rfl rfl (ml _ (by omega)) (DE.var rfl hw9) fun H11 o e11 L11 x11 => rest2 _ _ ⟨ns ++ [xs], rfl, (t9.ext e11.1).put p1a p1l p1c, by rw [List.map_append]; exact L11, Dp.ext x11 _ _ hv9, Dp.ext x11 _ _ hb9, Dp.ext x11 _ _ hw9, by rw [cb]; rw [cb] at hq; exact seqLE x11 hq, ExtN.trans x9 x11, fun z hz => ?_, by rw [List.length_append]; show _ + 1 ≤ _; omega⟩)
          rcases List.mem_append.mp hz with hz | hz
          · exact hN z hz
          · rw [List.mem_singleton.mp hz]
            exact ⟨hlx, hbx, cb⟩
end
end Ws
/-! ## Y12 -/
namespace Ws
open PySem PySem.Spec PyProof.Rows L2 RZ LamX
local macro_rules | `(tactic| walk_at "nf") => `(tactic| dsimp only [tNext, tSeq, tDrop, tRet, tRetN, tIfS, tAsg, gName, gTup, gCons, gNil, tVar, tC, tOp, tUn, rI, rI0, rU, rEq, rNe, tTest, tChain, tAnd, tOr, tNot, tAndV, tOrV, tNotV, tIf, tCB, tCKw, tCons, tNil, tTup, tLst, tCa, tCallS, tB, rIxT, rIxL, rIxS, cxOf, Cx.nox, Cx.wish, Cx.blk, L2.start, tPar, tPar3, tNever, tYes, tBits, tRz, tBM, rAppend, tyV, tXf, suiteEnds, gSub, rSetL, tBreak, rMax, tDGet, sDPut, tSl, tNoPart, tPart, tDisp, tPairs, tDGet2, tDNewK])
local macro_rules | `(tactic| walk_at "sx") => `(tactic| simp only [wipe, List.cons.injEq, and_assoc, exists_and_left, and_true, List.map_cons, List.map_nil, List.length_cons, List.length_nil, List.cons_append, List.nil_append, List.append_nil, Nat.reduceAdd, Nat.reduceSub, List.replicate, List.getElem?_cons_zero, List.getElem?_cons_succ, List.set_cons_zero, List.set_cons_succ, Option.some.injEq, V.int.injEq, V.bl.injEq, V.ref.injEq, V.str.injEq, exists_eq_left', exists_eq_left, true_and, Bool.true_eq_false, Bool.false_eq_true, if_true, if_false])

local macro_rules | `(tactic| walk_at "de") => `(tactic| repeat' first | exact DEs.nil | refine DEs.cons ?_ ?_ | refine DE.tup ?_ | exact DE.int | exact DE.str | exact DE.bl | exact DE.non | refine DE.lst (LE.lst ?_) | refine LE.re (LE.lst ?_) | refine LE.lst ?_ | refine LE.cat ?_ ?_ | apply LE.rep | apply DE.repT | exact DE.varI rfl | exact DE.var (by rfl) (by assumption) | apply DE.op0 | apply DE.opC | apply DE.un | exact rfl | exact ⟨by decide +kernel, by decide +kernel, by decide +kernel⟩ | exact ⟨by decide +kernel, by decide +kernel⟩)

abbrev s__law_needed : Stmt := top 47
abbrev nm__law_needed : List Str := ["state", "value", "due", "got", "bent"]
abbrev pr__law_needed : List Str := ["state", "value"]
theorem sc__law_needed : FnScope nm__law_needed pr__law_needed (defScope s__law_needed) := ⟨rfl, rfl, rfl, by decide +kernel, rfl, by decide +kernel, by decide +kernel⟩
theorem sv_new {K : PySem.W.Frag} {T : List (Addr × Str)} {X : List Addr} {L : List (Addr × List PyData)} {H : Hp} {σ : L2.St} {te : TE} {ds : List PyData} {u : TS} {D : Ends} {i : Nat} (h : LsS K T X L H) (hd : LE K (adr L X) T te σ H ds) (q : ∀ H2 p o, Ev T H H2 → H2 p = none → LsS K T X ((p, ds) :: L) (upd H2 p o) → ExtN (hid (adr L X) H) (hid (p :: adr L X) (upd H2 p o)) → u D (σ.set i (some (.ref p))) (upd H2 p o)) : tSeq (tAsg te (gName i)) u D σ H :=
  hd H (Ev.refl H) h.lsts h.tabs _ fun H2 p ys e hp hs => q H2 p _ e hp ((h.ev e).new hp hs) ((hid_ext e.1).trans (hid_more hp))
theorem sv_appS {K : PySem.W.Frag} {T : List (Addr × Str)} {X : List Addr} {L : List (Addr × List PyData)} {H : Hp} {σ : L2.St} {te : TE} {ds : List PyData} {d : PyData} {u : TS} {D : Ends} {k i : Nat} {p : Addr} (h : LsS K T X L H) (hi : σ[i]? = some (some (.ref p))) (hk : L[k]? = some (p, ds)) (hl : ds.length ≤ 100000) (hd : DE K (adr L X) T te σ H d)
    (q : ∀ H2 o, Ev T H H2 → LsS K T X (L.set k (p, ds ++ [d])) (upd H2 p o) → ExtN (hid (adr L X) H) (hid (adr L X) (upd H2 p o)) → u D σ (upd H2 p o)) : tSeq (tDrop (tBM K "list" rAppend (tVar i) (tCons te tNil))) u D σ H := sv_app (D := { D with nx := u D }) h hi hk hl hd q
section
variable {P : Program} {w : World} {K : PySem.W.Frag} {mg : Str → Option Value} {base : Heap} {SE BR BQ : Addr} {c0 P0 : Addr} {TS : List (Addr × Str)}
theorem ok_needed (B : Bl mg) (T : ErQ P w K mg base BR BQ) (SX : Ex2 K mg SE BR BQ) (DC : Dt K mg "_law_caught" s__law_caught pr__law_caught) (hTB : TabB base mg c0 P0) (hmT : (P0, ("_law_needed" : Str) ++ (".<locals>." : Str) ++ ("<lambda>" : Str)) ∈ TS) (hu : ∀ p ∈ TS, p.1 = P0 → p.2 = ("_law_needed" : Str) ++ (".<locals>." : Str) ++ ("<lambda>" : Str))
    (F1 : Df P w K mg base CX0 2 "_law_draw" pr__law_draw spDrawW) (F2 : Df P w K mg base CX0 5 "_law_bent" pr__law_bent (spBent K)) (F3 : Df P w K mg base CX0 3 "_law_fault" pr__law_fault (spLawFault K)) (F4 : Df P w K mg base (L2.CX P w) 4 "need_equations" pr_need_equations (spNeedEq K BQ)) (F5 : Df P w K mg base (L2.CX P w) 5 "homogeneous" pr_homogeneous (spHomog K BQ)) (F6 : Df P w K mg base (L2.CX P w) 6 "solves" pr_solves (spSolves K BR BQ)) (F7 : Df P w K mg base CX0 1 "_law_bare" pr__law_bare (spLevel K))
    (FL : DfG P w K mg base CX0 1 "_law_like" pr__law_like (spLike K))
    (D : DtC K mg "_law_needed" s__law_needed pr__law_needed c0) : DfG P w K mg base CX0 10 "_law_needed" pr__law_needed (spNeeded K TS) := by
  refine D.okG sc__law_needed (fun vs H Q E h => ?_) (fun f A outer s H vs Q E hG hr h => ?_)
  · obtain ⟨a, l, c, m, n, v, rs, rfl, _⟩ := h
    rfl
  · obtain ⟨a, l, c, m, n, v, rs, rfl, hl, hm, hT, hd, ok, k⟩ := h
    refine ⟨_, (pss_cons (ps_set (i := 4) sc__law_needed.nd rfl (Or.inr rfl) (pe_f F2 (hr.mono (by decide)) pass0 (pa_cons (pv 0) (pa_cons (pv 1) pa_nil)))) (pss_cons (ps_if (PW.pt (pw_and (pt_cmpR op_isN (pe_f F3 (hr.mono (by decide)) pass0 (pa_cons (pv 4) pa_nil)) pe_non (nomark _)) (pw_and1 (pt_cmpR op_eq (pe_f F1 (hr.mono (by decide)) pass0 (pa_cons (pv 0) (pa_cons pe_int pa_nil))) pe_int (nomark _))))) (pss_one (ps_set (i := 4) sc__law_needed.nd rfl (Or.inr rfl) (pe_f F2 (hr.mono (by decide)) pass0 (pa_cons (pv 0) (pa_cons (pv 4) pa_nil))))) pss_nil) (pss_cons (ps_set (i := 2) sc__law_needed.nd rfl (Or.inl rfl) (pe_f F3 (hr.mono (by decide)) pass0 (pa_cons (pv 4) pa_nil))) (pss_cons (ps_set (i := 3) sc__law_needed.nd rfl (Or.inl rfl) (pe_lst (pa_cons (pe_caught (k := 7) (q := ("_law_needed" : Str) ++ (".<locals>." : Str)) (TB := TS) (c := c0) (P := P0) DC B T SX hTB (by rfl) (by rfl) hmT hu (hr.mono (by decide)) (show LamS (defScope s__law_needed) _ from lamS_by (by decide +kernel)) (fun A2 outer2 s2 H2 E2 f2 c2 hr2 => (pe_f (E := E2) F4 (hr2.mono (by decide)) (passes_call (takes_of rfl rfl rfl rfl) fun _ _ _ _ h => h) (pa_cons (pv 4) pa_nil)))) pa_nil))) (pss_cons (ps_expr (pe_bm PySem.F.plainAttrs_list PySem.F.slot_list_append PySem.F.type_list_append mt_append (pv 3) (pa_cons (pe_caught (k := 7) (q := ("_law_needed" : Str) ++ (".<locals>." : Str)) (TB := TS) (c := c0) (P := P0) DC B T SX hTB (by rfl) (by rfl) hmT hu (hr.mono (by decide)) (show LamS (defScope s__law_needed) _ from lamS_by (by decide +kernel)) (fun A2 outer2 s2 H2 E2 f2 c2 hr2 => (pe_f (E := E2) F5 (hr2.mono (by decide)) (passes_call (takes_of rfl rfl rfl rfl) fun _ _ _ _ h => h) (pa_cons (pv 4) pa_nil)))) pa_nil))) (pss_cons (ps_expr (pe_bm PySem.F.plainAttrs_list PySem.F.slot_list_append PySem.F.type_list_append mt_append (pv 3) (pa_cons (pe_caught (k := 7) (q := ("_law_needed" : Str) ++ (".<locals>." : Str)) (TB := TS) (c := c0) (P := P0) DC B T SX hTB (by rfl) (by rfl) hmT hu (hr.mono (by decide)) (show LamS (defScope s__law_needed) _ from lamS_by (by decide +kernel)) (fun A2 outer2 s2 H2 E2 f2 c2 hr2 => (pe_f (E := E2) F6 (hr2.mono (by decide)) (passes_call (takes_of rfl rfl rfl rfl) fun _ _ _ _ h => h) (pa_cons (pv 4) (pa_cons pe_non pa_nil))))) pa_nil))) (pss_cons (ps_if (pt_cmpR op_notN (pv 2) pe_non (nomark _)) (pss_one (ps_ret (pe_fG FL hG (hr.mono (by decide)) pass0 (pa_cons (pv 3) (pa_cons (pe_op op_rep (pe_lst (pa_cons (pe_tup (pa_cons pe_str (pa_cons (pv 2) (pa_cons pe_bl pa_nil)))) pa_nil)) pe_int) pa_nil))))) pss_nil) (pss_one (ps_ret (pe_fG FL hG (hr.mono (by decide)) pass0 (pa_cons (pv 3) (pa_cons (pe_lst (pa_cons (pe_tup (pa_cons pe_str (pa_cons (pv 4) pa_nil))) (pa_cons (pe_tup (pa_cons pe_str (pa_cons (pe_tup (pa_cons (pe_ix ix_tup (pv 4) pe_int (fun _ _ => rfl)) (pa_cons (pe_f F7 (hr.mono (by decide)) pass0 (pa_cons (pe_ix ix_tup (pv 4) pe_int (fun _ _ => rfl)) pa_nil)) pa_nil))) pa_nil))) (pa_cons (pe_tup (pa_cons pe_str (pa_cons pe_non (pa_cons pe_bl pa_nil)))) pa_nil)))) pa_nil)))))))))))), ?_⟩
    have hd1 : Dp K (hid [a, l] H) v (eqD n rs) := Dp.hid (lst_st hl) _ _ (noList_eqD n rs) hd
    have rowsP : ∀ {d : PyData}, EqB d → ∀ c ds, d = .tuple [c, .tuple ds] → ∀ x ∈ ds, headFlat x = true := fun b => b.rows
    refine ⟨_, rfl, _, rfl, a, l, c, m, n, v, rs, rfl, hl, by omega, hd, ok, fun H1 u1 d1 g1 t1 b1 h1 => ?_⟩
    dsimp only [gName]
    have e1 : (L2.start nm__law_needed [V.ref a, v]).set 4 (some u1) = [some (.ref a), some v, none, none, some u1] := rfl
    rw [e1]
    refine seq_split (fun τ H2 => ∃ u d, τ = [some (.ref a), some v, none, none, some u] ∧ GX [a, l] H H2 ∧ LSt H2 a l c (m + 45) ∧ EqB d ∧ Dp K (hid [a, l] H2) u d) (fun τ H2 hR => ?_) fun rest => ?_
    · obtain ⟨u, d, rfl, g2, t2, b2, h2⟩ := hR
      have T2 := g2.2 _ hT
      refine ⟨_, rfl, u, d, rfl, h2.out, b2.rows, fun H3 uf s3 hf => ?_⟩
      dsimp only [gName]
      rw [show ([some (.ref a), some v, none, none, some u] : L2.St).set 2 (some uf) = [some (.ref a), some v, some uf, none, some u] from rfl]
      have t3 := t2.same s3
      have h3 := h2.gx (GX.of s3)
      have g3 := g2.trans (GX.of s3)
      have L3 : LsS K TS [a, l] [] H3 := LsS.nil (Tabs.same T2 s3) (lst_st t3)
      rcases fault_cases d with ef | ⟨p, ef, np, nn, sp⟩
      · rw [ef] at hf
        cases hf
        obtain ⟨n', rs', rfl, ok'⟩ := eq_of ef
        refine sv_new L3 (LE.lst (DEs.one (ce_needO ef (DEs.one (DE.var rfl h3))))) fun H4 q o e4 hq L4 x4 => ?_
        rw [show ([some (.ref a), some v, some .non, none, some u] : L2.St).set 3 (some (.ref q)) = [some (.ref a), some v, some .non, some (.ref q), some u] from rfl]
        have t4 := (t3.ext e4.1).new (o := o) hq
        obtain ⟨qa, ql, qc⟩ := (t3.ext e4.1).off hq
        have h4 := Dp.ext x4 _ _ h3
        refine sv_appS (k := 0) L4 rfl rfl (Nat.le_of_ble_eq_true rfl) (ce_homO ok' (DEs.one (DE.var rfl h4))) fun H5 o e5 L5 x5 => ?_
        have t5 := (t4.ext e5.1).put (o := o) qa ql qc
        have h5 := Dp.ext x5 _ _ h4
        refine sv_appS (k := 0) L5 rfl rfl (Nat.le_of_ble_eq_true rfl) (ce_solR ok' (d2 := .none) rfl (DEs.cons (DE.var rfl h5) (DEs.one DE.non))) fun H6 o e6 L6 x6 => ?_
        have t6 := (t5.ext e6.1).put (o := o) qa ql qc
        have h6 := Dp.ext x6 _ _ h5
        have sub : ExtN (hid (adr [(q, [isD (eqD n' rs'), isD (eqD n' (rs'.map Cd.bare)), errD "row" .none])] [a, l]) (upd H6 q o)) (hid [a, l] (upd H6 q o)) := hid_sub fun z hz => List.mem_cons_of_mem _ hz
        obtain ⟨ys, hq6, hys⟩ := L6.at_ (q, [isD (eqD n' rs'), isD (eqD n' (rs'.map Cd.bare)), errD "row" .none]) (List.mem_cons_self ..)
        have hg : Dp K (hid [a, l] (upd H6 q o)) (.ref q) (.list [isD (eqD n' rs'), isD (eqD n' (rs'.map Cd.bare)), errD "row" .none]) := .lst (.of (by
          unfold hid
          rw [if_neg (by simp [qa, ql])]
          exact hq6)) (Dp.exts sub _ _ hys)
        have hb : Dp K (hid [a, l] (upd H6 q o)) u (eqD n' rs') := Dp.ext sub _ _ h6
        have xx : ExtN (hid [a, l] H) (hid [a, l] (upd H6 q o)) := ExtN.trans g3.1 (ExtN.trans x4 (ExtN.trans x5 (ExtN.trans x6 sub)))
        refine ⟨_, rfl, rfl, false, by simp, iteF ?_⟩
        refine like_ret (S := [a, l]) (T := TS) (N := 190000) (M := 11) (lst_st t6) L6.tabs (DE.var rfl hg) (DE.lst (LE.lst (DEs.cons (DE.tup (DEs.cons DE.str (DEs.one (DE.var rfl hb)))) (DEs.cons (DE.tup (DEs.cons DE.str (DEs.one (DE.tup (DEs.cons (DE.ixv rfl hb rfl) (DEs.one (DE.level (rs := rs') (DE.ixv rfl hb rfl) (by have := ok'.len; omega)))))))) (DEs.one (DE.tup (DEs.cons DE.str (DEs.cons DE.non (DEs.one DE.bl))))))))) ?_ (by decide) (by decide) fun H7 e7 => ?_
        · exact smLst (SmA.cons' (m := 71000) (sm_is (eqB_eqD ok').sm) (SmA.cons' (m := 800) (sm_is (eqB_eqD (bare_ok ok')).sm) (SmA.cons' (m := 0) (Sm.mono (sm_err (s := "row") sm_str Sm.none') (Nat.le_refl _) (by decide)) SmA.nil' (by omega)) (by omega)) (by omega))
        · exact k _ (ExtN.trans xx (hid_ext e7.1)) ((t6.ext e7.1).mono (by omega)) (e7.2 L6.tabs)
      · rw [ef] at hf
        have : uf ≠ .non := fun z => by
          subst z
          cases p <;> first | exact nn rfl | cases hf
        have hp3 : Dp K (hid [a, l] H3) uf p := Dp.hid (lst_st t3) _ _ np hf
        refine sv_new L3 (LE.lst (DEs.one (ce_needB p ef np (DEs.one (DE.var rfl h3))))) fun H4 q o e4 hq L4 x4 => ?_
        rw [show ([some (.ref a), some v, some uf, none, some u] : L2.St).set 3 (some (.ref q)) = [some (.ref a), some v, some uf, some (.ref q), some u] from rfl]
        have t4 := (t3.ext e4.1).new (o := o) hq
        obtain ⟨qa, ql, qc⟩ := (t3.ext e4.1).off hq
        have h4 := Dp.ext x4 _ _ h3
        refine sv_appS (k := 0) L4 rfl rfl (Nat.le_of_ble_eq_true rfl) (ce_homB p ef np (DEs.one (DE.var rfl h4))) fun H5 o e5 L5 x5 => ?_
        have t5 := (t4.ext e5.1).put (o := o) qa ql qc
        have h5 := Dp.ext x5 _ _ h4
        refine sv_appS (k := 0) L5 rfl rfl (Nat.le_of_ble_eq_true rfl) (ce_solB p ef np (d2 := .none) (DEs.cons (DE.var rfl h5) (DEs.one DE.non))) fun H6 o e6 L6 x6 => ?_
        have t6 := (t5.ext e6.1).put (o := o) qa ql qc
        have sub : ExtN (hid (adr [(q, [errD "equations" p, errD "equations" p, errD "equations" p])] [a, l]) (upd H6 q o)) (hid [a, l] (upd H6 q o)) := hid_sub fun z hz => List.mem_cons_of_mem _ hz
        obtain ⟨ys, hq6, hys⟩ := L6.at_ (q, [errD "equations" p, errD "equations" p, errD "equations" p]) (List.mem_cons_self ..)
        have hg : Dp K (hid [a, l] (upd H6 q o)) (.ref q) (.list [errD "equations" p, errD "equations" p, errD "equations" p]) := .lst (.of (by
          unfold hid
          rw [if_neg (by simp [qa, ql])]
          exact hq6)) (Dp.exts sub _ _ hys)
        have hb : Dp K (hid [a, l] (upd H6 q o)) uf p := Dp.ext sub _ _ (Dp.ext x6 _ _ (Dp.ext x5 _ _ (Dp.ext x4 _ _ hp3)))
        have xx : ExtN (hid [a, l] H) (hid [a, l] (upd H6 q o)) := ExtN.trans g3.1 (ExtN.trans x4 (ExtN.trans x5 (ExtN.trans x6 sub)))
        have se : Sm 123 6 (errD "equations" p) := sm_err sm_str sp
        refine ⟨_, rfl, rfl, true, by simp [this], iteT ?_⟩
        refine like_ret (S := [a, l]) (T := TS) (N := 400) (M := 7) (lst_st t6) L6.tabs (DE.var rfl hg) (DE.lst (LE.rep (ds := [errD "equations" p]) (LE.re (LE.lst (DEs.one (DE.tup (DEs.cons DE.str (DEs.cons (DE.var rfl hb) (DEs.one DE.bl))))))) DE.int (hl := Nat.le_of_ble_eq_true rfl))) ?_ (by decide) (by decide) fun H7 e7 => ?_
        · exact smLst (SmA.cons' (m := 260) se (SmA.cons' (m := 130) se (SmA.cons' (m := 0) se SmA.nil' (by omega)) (by omega)) (by omega))
        · exact k _ (ExtN.trans xx (hid_ext e7.1)) ((t6.ext e7.1).mono (by omega)) (e7.2 L6.tabs)
    · refine ⟨_, rfl, u1, d1, rfl, h1.out, b1.rows, fun H2 uf s2 hf => ⟨rfl, _, rfl, ?_⟩⟩
      have t2 := t1.same s2
      have h2 := h1.gx (GX.of s2)
      have g2 := g1.trans (GX.of s2)
      rcases fault_cases d1 with ef | ⟨p, ef, _, np, _⟩
      · rw [ef] at hf
        cases hf
        obtain ⟨n', rs', rfl, ok'⟩ := eq_of ef
        refine iteT ⟨_, rfl, a, l, c, _, 2, rfl, t2, by omega, by decide, by decide, fun H3 r e3 s3 r1 r2 => ⟨rfl, _, rfl, ?_⟩⟩
        have g3 := g2.trans (gx_sbt t2 e3)
        have h3 := h2.gx (gx_sbt t2 e3)
        by_cases c0 : r = 0
        · rw [decide_eq_true (by rw [c0])]
          refine iteT ⟨_, rfl, _, rfl, a, l, c, _, n', u1, rs', rfl, s3, by omega, h3.out, ok', fun H4 u4 d4 g4 t4 b4 h4 => ?_⟩
          exact rest _ H4 ⟨u4, d4, rfl, g3.trans g4, t4.mono (by omega), b4, h4⟩
        · rw [decide_eq_false (fun z => c0 (V.int.inj z))]
          exact iteF (rest _ H3 ⟨u1, _, rfl, g3, s3.mono (by omega), b1, h3⟩)
      · rw [ef] at hf
        have : uf ≠ .non := fun z => by
          subst z
          cases p <;> first | exact np rfl | cases hf
        rw [decide_eq_false this]
        exact iteF (rest _ H2 ⟨u1, d1, rfl, g2, t2.mono (by omega), b1, h2⟩)
end
end Ws
/-! ## Z1 -/
namespace Ws
open PySem PySem.Spec PyProof.Rows L2 RZ LamX
local macro_rules | `(tactic| walk_at "nf") => `(tactic| dsimp only [tNext, tSeq, tDrop, tRet, tRetN, tIfS, tAsg, gName, gTup, gCons, gNil, tVar, tC, tOp, tUn, rI, rI0, rU, rEq, rNe, tTest, tChain, tAnd, tOr, tNot, tAndV, tOrV, tNotV, tIf, tCB, tCKw, tCons, tNil, tTup, tLst, tCa, tCallS, tB, rIxT, rIxL, rIxS, cxOf, Cx.nox, Cx.wish, Cx.blk, L2.start, tPar, tPar3, tNever, tYes, tBits, tRz, tBM, rAppend, tyV, tXf, suiteEnds, gSub, rSetL, tBreak, rMax, tDGet, sDPut, tSl, tNoPart, tPart, tDisp, tPairs, tDGet2, tDNewK])
local macro_rules | `(tactic| walk_at "sx") => `(tactic| simp only [wipe, List.cons.injEq, and_assoc, exists_and_left, and_true, List.map_cons, List.map_nil, List.length_cons, List.length_nil, List.cons_append, List.nil_append, List.append_nil, Nat.reduceAdd, Nat.reduceSub, List.replicate, List.getElem?_cons_zero, List.getElem?_cons_succ, List.set_cons_zero, List.set_cons_succ, Option.some.injEq, V.int.injEq, V.bl.injEq, V.ref.injEq, V.str.injEq, exists_eq_left', exists_eq_left, true_and, Bool.true_eq_false, Bool.false_eq_true, if_true, if_false])

local macro_rules | `(tactic| walk_at "de") => `(tactic| repeat' first | exact DEs.nil | refine DEs.cons ?_ ?_ | refine DE.tup ?_ | exact DE.int | exact DE.str | exact DE.bl | exact DE.non | refine DE.lst (LE.lst ?_) | refine LE.re (LE.lst ?_) | refine LE.lst ?_ | refine LE.cat ?_ ?_ | apply LE.rep | apply DE.repT | exact DE.varI rfl | exact DE.var (by rfl) (by assumption) | apply DE.op0 | apply DE.opC | apply DE.un | exact rfl | exact ⟨by decide +kernel, by decide +kernel, by decide +kernel⟩ | exact ⟨by decide +kernel, by decide +kernel⟩)

/-! ### the law -/
def spLaw (K : PySem.W.Frag) (T : List (Addr × Str)) : Sp := fun vs H Q _ => ∃ (p : Addr) (is : List Int), vs = [.ref p] ∧ SqL K H p (is.map V.int) ∧ is.length ≤ 1000 ∧ Tabs T H ∧ ∀ H', Q (.bl true) H'
abbrev s_law : Stmt := top 50
abbrev nm_law : List Str := ["script", "state", "turn", "got", "far"]
abbrev pr_law : List Str := ["script"]
theorem sc_law : FnScope nm_law pr_law (defScope s_law) := ⟨rfl, rfl, rfl, by decide +kernel, rfl, by decide +kernel, by decide +kernel⟩
theorem fn_okG {P : Program} {w : World} {K : PySem.W.Frag} {mg : Str → Option Value} {base : Heap} {x : Str} {st : Stmt} {N ps : List Str} {c : Addr} {k : Nat} {sp : Sp} {f : Addr} {oc : Value} {od : Option Addr} {kV doc pm : Value} {an : Option Addr} {ct : Value} {osl : Array (Option Value)}
    (lk : K.lookup f = some ⟨oc, od, .func (PySem.W.fnOf x x (defArgs st) (defBody st) (defScope st) .none kV doc pm an (.ref c) ct), osl⟩) (hcd : PySem.W.codeIn K (.ref c) x = true) (S : FnScope N ps (defScope st)) (len : ∀ vs H Q E, sp vs H Q E → vs.length = ps.length)
    (hbody : ∀ (A : Around) (outer : List Env) (s : Shared) (H : Hp) (vs : List V) (Q : VK) (E : XK), A.guards = some [] → Room k (A.deeper (envOfC x (defScope st) s.heap.objs.size f (.ref c))) → sp vs H Q E →
      ∃ t, PSs (cxOf CX0 P w K mg base N x (defScope st) f (.ref c) A outer s H E).nox (defBody st) t ∧ t { nx := fun _ H' => Q .non H', rt := Q } (start N vs) H) : FnOkG P w K mg base CX0 (k + 1) f (PySem.W.fnOf x x (defArgs st) (defBody st) (defScope st) .none kV doc pm an (.ref c) ct) ps sp :=
  fn_ofG lk hcd S len fun A outer s H vs Q E hg hr hsp => by
    obtain ⟨t, h, q⟩ := hbody A outer s H vs Q E hg hr hsp
    exact ⟨t, h.nox, q⟩
theorem ok_one : EqOk 1 [] := ⟨by decide, by decide, by decide, fun r h => by cases h⟩
theorem ok_mod : EqOk 2 [.md 3 [1, -1] 0] := ⟨by decide, by decide, by decide, fun r h => by
  rw [List.mem_singleton.mp h]
  refine ⟨rfl, fun f hf => ?_, ⟨by decide, by decide⟩, fun m f c e => by cases e; exact ⟨by decide, by decide⟩⟩
  simp only [Cd.fs, List.mem_cons, List.not_mem_nil, or_false] at hf
  rcases hf with rfl | rfl <;> exact ⟨by decide, by decide⟩⟩
section
variable {P : Program} {w : World} {K : PySem.W.Frag} {mg : Str → Option Value} {base : Heap} {SE BR BQ : Addr} {c0 P0 : Addr} {TS : List (Addr × Str)}
theorem ok_law (B : Bl mg) (T : ErQ P w K mg base BR BQ) (SX : Ex2 K mg SE BR BQ) (DC : Dt K mg "_law_caught" s__law_caught pr__law_caught) (hTB : TabB base mg c0 P0) (hmT : (P0, ("law" : Str) ++ (".<locals>." : Str) ++ ("<lambda>" : Str)) ∈ TS) (hu : ∀ p ∈ TS, p.1 = P0 → p.2 = ("law" : Str) ++ (".<locals>." : Str) ++ ("<lambda>" : Str))
    (F1 : Df P w K mg base CX0 1 "_law_begin" pr__law_begin (spBegin K)) (F2 : DfG P w K mg base CX0 12 "_law_right" pr__law_right (spRight K TS)) (F6 : Df P w K mg base (L2.CX P w) 6 "solves" pr_solves (spSolves K BR BQ))
    (FL : DfG P w K mg base CX0 1 "_law_like" pr__law_like (spLike K))
    {f : Addr} {oc : Value} {od : Option Addr} {kV doc pm : Value} {an : Option Addr} {ct : Value} {osl : Array (Option Value)} (lk : K.lookup f = some ⟨oc, od, .func (PySem.W.fnOf "law" "law" (defArgs s_law) (defBody s_law) (defScope s_law) .none kV doc pm an (.ref c0) ct), osl⟩) (hcd : PySem.W.codeIn K (.ref c0) "law" = true) :
    FnOkG P w K mg base CX0 13 f (PySem.W.fnOf "law" "law" (defArgs s_law) (defBody s_law) (defScope s_law) .none kV doc pm an (.ref c0) ct) pr_law (spLaw K TS) := by
  refine fn_okG lk hcd sc_law (fun vs H Q E h => ?_) fun A outer s H vs Q E hG hr h => ?_
  · obtain ⟨p, is, rfl, _⟩ := h
    rfl
  · obtain ⟨p, is, rfl, hs, hl, hT, k⟩ := h
    refine ⟨_, (pss_cons (ps_set (i := 1) sc_law.nd rfl (Or.inl rfl) (pe_f F1 (hr.mono (by decide)) pass0 (pa_cons (pv 0) pa_nil))) (pss_cons (ps_for PassesOwn.never rfl (pi_range1 (by rfl) B.range (pa_cons pe_int pa_nil)) (pg_name (i := 2) sc_law.nd rfl (Or.inl rfl)) (pss_one (ps_if (pt_not (pt_val (pe_fG F2 hG (hr.mono (by decide)) pass0 (pa_cons (pv 1) pa_nil)))) (pss_one (ps_ret pe_bl)) pss_nil))) (pss_cons (ps_set (i := 4) sc_law.nd rfl (Or.inr rfl) (pe_tup (pa_cons (pe_op op_add (pe_op op_pow pe_int pe_int) pe_int) pa_nil))) (pss_cons (ps_set (i := 3) sc_law.nd rfl (Or.inl rfl) (pe_lst (pa_cons (pe_caught (k := 7) (q := ("law" : Str) ++ (".<locals>." : Str)) (TB := TS) (c := c0) (P := P0) DC B T SX hTB (by rfl) (by rfl) hmT hu (hr.mono (by decide)) (show LamS (defScope s_law) _ from lamS_by (by decide +kernel)) (fun A2 outer2 s2 H2 E2 f2 c2 hr2 => (pe_f (E := E2) F6 (hr2.mono (by decide)) (passes_call (takes_of rfl rfl rfl rfl) fun _ _ _ _ h => h) (pa_cons (pe_tup (pa_cons pe_int (pa_cons (pe_tup pa_nil) pa_nil))) (pa_cons (pv 4) pa_nil))))) (pa_cons (pe_f (E := E0) F6 (hr.mono (by decide)) passN (pa_cons (pe_tup (pa_cons pe_int (pa_cons (pe_tup (pa_cons (pe_tup (pa_cons pe_str (pa_cons pe_int (pa_cons (pe_tup (pa_cons pe_int (pa_cons (pe_un un_neg pe_int) pa_nil))) (pa_cons pe_int pa_nil))))) pa_nil)) pa_nil))) (pa_cons (pe_tup (pa_cons (pe_op op_pow pe_int pe_int) (pa_cons pe_int pa_nil))) pa_nil))) pa_nil)))) (pss_one (ps_ret (pe_fG FL hG (hr.mono (by decide)) pass0 (pa_cons (pv 3) (pa_cons (pe_lst (pa_cons (pe_tup (pa_cons pe_str (pa_cons (pv 4) (pa_cons pe_bl pa_nil)))) (pa_cons pe_bl pa_nil))) pa_nil))))))))), ?_⟩
    refine ⟨_, rfl, p, is, rfl, hs, hl, fun H1 a l c e1 t1 => ?_⟩
    dsimp only [gName]
    rw [show (L2.start nm_law [V.ref p]).set 1 (some (V.ref a)) = [some (.ref p), some (.ref a), none, none, none] from rfl]
    let Pv : Nat → L2.St → Hp → Prop := fun i σ H' => ∃ v2, σ = [some (.ref p), some (.ref a), v2, none, none] ∧ LSt H' a l c (i * 1000) ∧ Tabs TS H'
    refine seq_split (Pv 3) (fun τ H2 hR => ?_) fun rest => ?_
    · obtain ⟨v2, rfl, t2, T2⟩ := hR
      refine sv_val (K := K) (d := .tuple [.int (10 ^ 60 + 1)]) (S := [a, l]) (lst_st t2) T2 (DE.tup (DEs.one (DE.op0 (DE.opC DE.int DE.int (show CPow 10 60 by unfold CPow; decide) (k := 10 ^ 60) rfl) DE.int rfl))) fun H3 u e3 hu => ?_
      rw [show ([some (.ref p), some (.ref a), v2, none, none] : L2.St).set 4 (some u) = [some (.ref p), some (.ref a), v2, none, some u] from rfl]
      have t3 := t2.ext e3.1
      have T3 := e3.2 T2
      have hz : (isTn (.tuple [.int (10 ^ 60 + 1)]) (1 : Nat) && areB (.tuple [.int (10 ^ 60 + 1)]) 0 (10 ^ 60)) = false := by decide +kernel
      have hh : [Cd.md 3 [1, -1] 0].all (heldR [10 ^ 60, 1]) = true := by decide +kernel
      refine sv_val (d := .list [errD "row" (.tuple [.int (10 ^ 60 + 1)]), .bool true]) (S := [a, l]) (lst_st t3) T3 (DE.lst (LE.lst (DEs.cons (ce_solR ok_one hz (DEs.cons (DE.eq (DE.tup (DEs.cons DE.int (DEs.one (DE.tup DEs.nil)))) rfl) (DEs.one (DE.var rfl hu)))) (DEs.one (DE.eq (DE.solves (xs := [10 ^ 60, 1]) ok_mod rfl (fun x hx => ?_) (DE.eq (DE.tup (DEs.cons DE.int (DEs.one (DE.tup (DEs.one (DE.tup (DEs.cons DE.str (DEs.cons DE.int (DEs.cons (DE.tup (DEs.cons DE.int (DEs.one (DE.un DE.int rfl)))) (DEs.one DE.int)))))))))) rfl) (DE.eq (DE.tup (DEs.cons (DE.opC DE.int DE.int (show CPow 10 60 by unfold CPow; decide) (k := 10 ^ 60) rfl) (DEs.one DE.int))) rfl)) (congrArg PyData.bool hh)))))) fun H4 g e4 hg => ?_
      · simp only [List.mem_cons, List.not_mem_nil, or_false] at hx
        rcases hx with rfl | rfl
        · exact ⟨by decide +kernel, by decide +kernel⟩
        · exact ⟨by decide +kernel, by decide +kernel⟩
      · have hu4 := hu.ev e4
        refine like_ret (S := [a, l]) (T := TS) (N := 400) (M := 7) (lst_st (t3.ext e4.1)) (e4.2 T3) (DE.var rfl hg) (DE.lst (LE.lst (DEs.cons (DE.tup (DEs.cons DE.str (DEs.cons (DE.var rfl hu4) (DEs.one DE.bl)))) (DEs.one DE.bl)))) ?_ (by decide) (by decide) fun H5 e5 => k _
        exact ⟨by decide +kernel, by decide +kernel, by decide +kernel, by decide +kernel, by decide +kernel⟩
    · refine ⟨3, rfl, by decide, by decide, for_range (n := 3) Pv ⟨none, rfl, by rw [Nat.zero_mul]; exact t1, Tabs.same hT e1⟩ (fun i σ H6 hi p => ?_) (fun σ H6 p => rest σ H6 p)⟩
      obtain ⟨v2, rfl, t6, T6⟩ := p
      exact ⟨_, rfl, a, l, c, _, rfl, t6, by omega, T6, fun H7 x7 t7 T7 => ⟨_, rfl, iteF ⟨_, rfl, t7.mono (by omega), T7⟩⟩⟩
end
end Ws
/-! ## Z2 -/
namespace Ws
open PySem PySem.Spec PyProof.Rows L2 LamX
abbrev s_BR : Stmt := inClass (top 20) 0
abbrev s_BQ : Stmt := inClass (top 21) 0
theorem sc_BR : FnScope ["self", "value"] ["self", "value"] (defScope s_BR) := ⟨rfl, rfl, rfl, by decide +kernel, rfl, by decide +kernel, by decide +kernel⟩
theorem sc_BQ : FnScope ["self", "place"] ["self", "place"] (defScope s_BQ) := ⟨rfl, rfl, rfl, by decide +kernel, rfl, by decide +kernel, by decide +kernel⟩
theorem hb_BR (kV doc pm : Value) (an : Option Addr) (cdv ct : Value) (us : List Value) (hl : us.length = (["self", "value"] : List Str).length) : bindArgs (PySem.W.fnOf "__init__" "BadRow.__init__" (defArgs s_BR) (defBody s_BR) (defScope s_BR) .none kV doc pm an cdv ct) ⟨us, []⟩ = pure ((["self", "value"] : List Str).zip us) :=
  match us, hl with
  | [_, _], _ => rfl
theorem hb_BQ (kV doc pm : Value) (an : Option Addr) (cdv ct : Value) (us : List Value) (hl : us.length = (["self", "place"] : List Str).length) : bindArgs (PySem.W.fnOf "__init__" "BadEquations.__init__" (defArgs s_BQ) (defBody s_BQ) (defScope s_BQ) .none kV doc pm an cdv ct) ⟨us, []⟩ = pure ((["self", "place"] : List Str).zip us) :=
  match us, hl with
  | [_, _], _ => rfl
theorem hb_is_integer (kV doc pm : Value) (an : Option Addr) (cdv ct : Value) (us : List Value) (hl : us.length = pr_is_integer.length) : bindArgs (PySem.W.fnOf "is_integer" "is_integer" (defArgs s_is_integer) (defBody s_is_integer) (defScope s_is_integer) .none kV doc pm an cdv ct) ⟨us, []⟩ = pure (pr_is_integer.zip us) :=
  match us, hl with
  | [_], _ => rfl
theorem hb_is_between (kV doc pm : Value) (an : Option Addr) (cdv ct : Value) (us : List Value) (hl : us.length = pr_is_between.length) : bindArgs (PySem.W.fnOf "is_between" "is_between" (defArgs s_is_between) (defBody s_is_between) (defScope s_is_between) .none kV doc pm an cdv ct) ⟨us, []⟩ = pure (pr_is_between.zip us) :=
  match us, hl with
  | [_, _, _], _ => rfl
theorem hb_is_tuple_of (kV doc pm : Value) (an : Option Addr) (cdv ct : Value) (us : List Value) (hl : us.length = pr_is_tuple_of.length) : bindArgs (PySem.W.fnOf "is_tuple_of" "is_tuple_of" (defArgs s_is_tuple_of) (defBody s_is_tuple_of) (defScope s_is_tuple_of) .none kV doc pm an cdv ct) ⟨us, []⟩ = pure (pr_is_tuple_of.zip us) :=
  match us, hl with
  | [_, _], _ => rfl
theorem hb_are_between (kV doc pm : Value) (an : Option Addr) (cdv ct : Value) (us : List Value) (hl : us.length = pr_are_between.length) : bindArgs (PySem.W.fnOf "are_between" "are_between" (defArgs s_are_between) (defBody s_are_between) (defScope s_are_between) .none kV doc pm an cdv ct) ⟨us, []⟩ = pure (pr_are_between.zip us) :=
  match us, hl with
  | [_, _, _], _ => rfl
theorem hb_is_row (kV doc pm : Value) (an : Option Addr) (cdv ct : Value) (us : List Value) (hl : us.length = pr_is_row.length) : bindArgs (PySem.W.fnOf "is_row" "is_row" (defArgs s_is_row) (defBody s_is_row) (defScope s_is_row) .none kV doc pm an cdv ct) ⟨us, []⟩ = pure (pr_is_row.zip us) :=
  match us, hl with
  | [_, _], _ => rfl
theorem hb_weighed (kV doc pm : Value) (an : Option Addr) (cdv ct : Value) (us : List Value) (hl : us.length = pr_weighed.length) : bindArgs (PySem.W.fnOf "weighed" "weighed" (defArgs s_weighed) (defBody s_weighed) (defScope s_weighed) .none kV doc pm an cdv ct) ⟨us, []⟩ = pure (pr_weighed.zip us) :=
  match us, hl with
  | [_, _], _ => rfl
theorem hb_is_condition (kV doc pm : Value) (an : Option Addr) (cdv ct : Value) (us : List Value) (hl : us.length = pr_is_condition.length) : bindArgs (PySem.W.fnOf "is_condition" "is_condition" (defArgs s_is_condition) (defBody s_is_condition) (defScope s_is_condition) .none kV doc pm an cdv ct) ⟨us, []⟩ = pure (pr_is_condition.zip us) :=
  match us, hl with
  | [_, _], _ => rfl
theorem hb_value_of (kV doc pm : Value) (an : Option Addr) (cdv ct : Value) (us : List Value) (hl : us.length = pr_value_of.length) : bindArgs (PySem.W.fnOf "value_of" "value_of" (defArgs s_value_of) (defBody s_value_of) (defScope s_value_of) .none kV doc pm an cdv ct) ⟨us, []⟩ = pure (pr_value_of.zip us) :=
  match us, hl with
  | [_, _], _ => rfl
theorem hb_is_held (kV doc pm : Value) (an : Option Addr) (cdv ct : Value) (us : List Value) (hl : us.length = pr_is_held.length) : bindArgs (PySem.W.fnOf "is_held" "is_held" (defArgs s_is_held) (defBody s_is_held) (defScope s_is_held) .none kV doc pm an cdv ct) ⟨us, []⟩ = pure (pr_is_held.zip us) :=
  match us, hl with
  | [_, _], _ => rfl
theorem hb_are_held (kV doc pm : Value) (an : Option Addr) (cdv ct : Value) (us : List Value) (hl : us.length = pr_are_held.length) : bindArgs (PySem.W.fnOf "are_held" "are_held" (defArgs s_are_held) (defBody s_are_held) (defScope s_are_held) .none kV doc pm an cdv ct) ⟨us, []⟩ = pure (pr_are_held.zip us) :=
  match us, hl with
  | [_, _], _ => rfl
theorem hb_level_rows (kV doc pm : Value) (an : Option Addr) (cdv ct : Value) (us : List Value) (hl : us.length = pr_level_rows.length) : bindArgs (PySem.W.fnOf "level_rows" "level_rows" (defArgs s_level_rows) (defBody s_level_rows) (defScope s_level_rows) .none kV doc pm an cdv ct) ⟨us, []⟩ = pure (pr_level_rows.zip us) :=
  match us, hl with
  | [_], _ => rfl
theorem hb_need_equations (kV doc pm : Value) (an : Option Addr) (cdv ct : Value) (us : List Value) (hl : us.length = pr_need_equations.length) : bindArgs (PySem.W.fnOf "need_equations" "need_equations" (defArgs s_need_equations) (defBody s_need_equations) (defScope s_need_equations) .none kV doc pm an cdv ct) ⟨us, []⟩ = pure (pr_need_equations.zip us) :=
  match us, hl with
  | [_], _ => rfl
theorem hb_need_numbers_for (kV doc pm : Value) (an : Option Addr) (cdv ct : Value) (us : List Value) (hl : us.length = pr_need_numbers_for.length) : bindArgs (PySem.W.fnOf "need_numbers_for" "need_numbers_for" (defArgs s_need_numbers_for) (defBody s_need_numbers_for) (defScope s_need_numbers_for) .none kV doc pm an cdv ct) ⟨us, []⟩ = pure (pr_need_numbers_for.zip us) :=
  match us, hl with
  | [_, _], _ => rfl
theorem hb_homogeneous (kV doc pm : Value) (an : Option Addr) (cdv ct : Value) (us : List Value) (hl : us.length = pr_homogeneous.length) : bindArgs (PySem.W.fnOf "homogeneous" "homogeneous" (defArgs s_homogeneous) (defBody s_homogeneous) (defScope s_homogeneous) .none kV doc pm an cdv ct) ⟨us, []⟩ = pure (pr_homogeneous.zip us) :=
  match us, hl with
  | [_], _ => rfl
theorem hb_solves (kV doc pm : Value) (an : Option Addr) (cdv ct : Value) (us : List Value) (hl : us.length = pr_solves.length) : bindArgs (PySem.W.fnOf "solves" "solves" (defArgs s_solves) (defBody s_solves) (defScope s_solves) .none kV doc pm an cdv ct) ⟨us, []⟩ = pure (pr_solves.zip us) :=
  match us, hl with
  | [_, _], _ => rfl
theorem hb__law_mixed (kV doc pm : Value) (an : Option Addr) (cdv ct : Value) (us : List Value) (hl : us.length = pr__law_mixed.length) : bindArgs (PySem.W.fnOf "_law_mixed" "_law_mixed" (defArgs s__law_mixed) (defBody s__law_mixed) (defScope s__law_mixed) .none kV doc pm an cdv ct) ⟨us, []⟩ = pure (pr__law_mixed.zip us) :=
  match us, hl with
  | [_, _], _ => rfl
theorem hb__law_begin (kV doc pm : Value) (an : Option Addr) (cdv ct : Value) (us : List Value) (hl : us.length = pr__law_begin.length) : bindArgs (PySem.W.fnOf "_law_begin" "_law_begin" (defArgs s__law_begin) (defBody s__law_begin) (defScope s__law_begin) .none kV doc pm an cdv ct) ⟨us, []⟩ = pure (pr__law_begin.zip us) :=
  match us, hl with
  | [_], _ => rfl
theorem hb__law_draw (kV doc pm : Value) (an : Option Addr) (cdv ct : Value) (us : List Value) (hl : us.length = pr__law_draw.length) : bindArgs (PySem.W.fnOf "_law_draw" "_law_draw" (defArgs s__law_draw) (defBody s__law_draw) (defScope s__law_draw) .none kV doc pm an cdv ct) ⟨us, []⟩ = pure (pr__law_draw.zip us) :=
  match us, hl with
  | [_, _], _ => rfl
theorem hb__law_of (kV doc pm : Value) (an : Option Addr) (cdv ct : Value) (us : List Value) (hl : us.length = pr__law_of.length) : bindArgs (PySem.W.fnOf "_law_of" "_law_of" (defArgs s__law_of) (defBody s__law_of) (defScope s__law_of) .none kV doc pm an cdv ct) ⟨us, []⟩ = pure (pr__law_of.zip us) :=
  match us, hl with
  | [_, _], _ => rfl
theorem hb__law_like (kV doc pm : Value) (an : Option Addr) (cdv ct : Value) (us : List Value) (hl : us.length = pr__law_like.length) : bindArgs (PySem.W.fnOf "_law_like" "_law_like" (defArgs s__law_like) (defBody s__law_like) (defScope s__law_like) .none kV doc pm an cdv ct) ⟨us, []⟩ = pure (pr__law_like.zip us) :=
  match us, hl with
  | [_, _], _ => rfl
theorem hb__law_worth (kV doc pm : Value) (an : Option Addr) (cdv ct : Value) (us : List Value) (hl : us.length = pr__law_worth.length) : bindArgs (PySem.W.fnOf "_law_worth" "_law_worth" (defArgs s__law_worth) (defBody s__law_worth) (defScope s__law_worth) .none kV doc pm an cdv ct) ⟨us, []⟩ = pure (pr__law_worth.zip us) :=
  match us, hl with
  | [_, _], _ => rfl
theorem hb__law_held (kV doc pm : Value) (an : Option Addr) (cdv ct : Value) (us : List Value) (hl : us.length = pr__law_held.length) : bindArgs (PySem.W.fnOf "_law_held" "_law_held" (defArgs s__law_held) (defBody s__law_held) (defScope s__law_held) .none kV doc pm an cdv ct) ⟨us, []⟩ = pure (pr__law_held.zip us) :=
  match us, hl with
  | [_, _], _ => rfl
theorem hb__law_bare (kV doc pm : Value) (an : Option Addr) (cdv ct : Value) (us : List Value) (hl : us.length = pr__law_bare.length) : bindArgs (PySem.W.fnOf "_law_bare" "_law_bare" (defArgs s__law_bare) (defBody s__law_bare) (defScope s__law_bare) .none kV doc pm an cdv ct) ⟨us, []⟩ = pure (pr__law_bare.zip us) :=
  match us, hl with
  | [_], _ => rfl
theorem hb__law_condition (kV doc pm : Value) (an : Option Addr) (cdv ct : Value) (us : List Value) (hl : us.length = pr__law_condition.length) : bindArgs (PySem.W.fnOf "_law_condition" "_law_condition" (defArgs s__law_condition) (defBody s__law_condition) (defScope s__law_condition) .none kV doc pm an cdv ct) ⟨us, []⟩ = pure (pr__law_condition.zip us) :=
  match us, hl with
  | [_, _], _ => rfl
theorem hb__law_equations (kV doc pm : Value) (an : Option Addr) (cdv ct : Value) (us : List Value) (hl : us.length = pr__law_equations.length) : bindArgs (PySem.W.fnOf "_law_equations" "_law_equations" (defArgs s__law_equations) (defBody s__law_equations) (defScope s__law_equations) .none kV doc pm an cdv ct) ⟨us, []⟩ = pure (pr__law_equations.zip us) :=
  match us, hl with
  | [_, _], _ => rfl
theorem hb__law_onto (kV doc pm : Value) (an : Option Addr) (cdv ct : Value) (us : List Value) (hl : us.length = pr__law_onto.length) : bindArgs (PySem.W.fnOf "_law_onto" "_law_onto" (defArgs s__law_onto) (defBody s__law_onto) (defScope s__law_onto) .none kV doc pm an cdv ct) ⟨us, []⟩ = pure (pr__law_onto.zip us) :=
  match us, hl with
  | [_, _, _], _ => rfl
theorem hb__law_caught (kV doc pm : Value) (an : Option Addr) (cdv ct : Value) (us : List Value) (hl : us.length = pr__law_caught.length) : bindArgs (PySem.W.fnOf "_law_caught" "_law_caught" (defArgs s__law_caught) (defBody s__law_caught) (defScope s__law_caught) .none kV doc pm an cdv ct) ⟨us, []⟩ = pure (pr__law_caught.zip us) :=
  match us, hl with
  | [_], _ => rfl
theorem hb__law_is_number (kV doc pm : Value) (an : Option Addr) (cdv ct : Value) (us : List Value) (hl : us.length = pr__law_is_number.length) : bindArgs (PySem.W.fnOf "_law_is_number" "_law_is_number" (defArgs s__law_is_number) (defBody s__law_is_number) (defScope s__law_is_number) .none kV doc pm an cdv ct) ⟨us, []⟩ = pure (pr__law_is_number.zip us) :=
  match us, hl with
  | [_, _, _], _ => rfl
theorem hb__law_is_condition (kV doc pm : Value) (an : Option Addr) (cdv ct : Value) (us : List Value) (hl : us.length = pr__law_is_condition.length) : bindArgs (PySem.W.fnOf "_law_is_condition" "_law_is_condition" (defArgs s__law_is_condition) (defBody s__law_is_condition) (defScope s__law_is_condition) .none kV doc pm an cdv ct) ⟨us, []⟩ = pure (pr__law_is_condition.zip us) :=
  match us, hl with
  | [_, _], _ => rfl
theorem hb__law_fault (kV doc pm : Value) (an : Option Addr) (cdv ct : Value) (us : List Value) (hl : us.length = pr__law_fault.length) : bindArgs (PySem.W.fnOf "_law_fault" "_law_fault" (defArgs s__law_fault) (defBody s__law_fault) (defScope s__law_fault) .none kV doc pm an cdv ct) ⟨us, []⟩ = pure (pr__law_fault.zip us) :=
  match us, hl with
  | [_], _ => rfl
theorem hb__law_bent_row (kV doc pm : Value) (an : Option Addr) (cdv ct : Value) (us : List Value) (hl : us.length = pr__law_bent_row.length) : bindArgs (PySem.W.fnOf "_law_bent_row" "_law_bent_row" (defArgs s__law_bent_row) (defBody s__law_bent_row) (defScope s__law_bent_row) .none kV doc pm an cdv ct) ⟨us, []⟩ = pure (pr__law_bent_row.zip us) :=
  match us, hl with
  | [_, _], _ => rfl
theorem hb__law_bent (kV doc pm : Value) (an : Option Addr) (cdv ct : Value) (us : List Value) (hl : us.length = pr__law_bent.length) : bindArgs (PySem.W.fnOf "_law_bent" "_law_bent" (defArgs s__law_bent) (defBody s__law_bent) (defScope s__law_bent) .none kV doc pm an cdv ct) ⟨us, []⟩ = pure (pr__law_bent.zip us) :=
  match us, hl with
  | [_, _], _ => rfl
theorem hb__law_needed (kV doc pm : Value) (an : Option Addr) (cdv ct : Value) (us : List Value) (hl : us.length = pr__law_needed.length) : bindArgs (PySem.W.fnOf "_law_needed" "_law_needed" (defArgs s__law_needed) (defBody s__law_needed) (defScope s__law_needed) .none kV doc pm an cdv ct) ⟨us, []⟩ = pure (pr__law_needed.zip us) :=
  match us, hl with
  | [_, _], _ => rfl
theorem hb__law_numbers (kV doc pm : Value) (an : Option Addr) (cdv ct : Value) (us : List Value) (hl : us.length = pr__law_numbers.length) : bindArgs (PySem.W.fnOf "_law_numbers" "_law_numbers" (defArgs s__law_numbers) (defBody s__law_numbers) (defScope s__law_numbers) .none kV doc pm an cdv ct) ⟨us, []⟩ = pure (pr__law_numbers.zip us) :=
  match us, hl with
  | [_, _], _ => rfl
theorem hb__law_right (kV doc pm : Value) (an : Option Addr) (cdv ct : Value) (us : List Value) (hl : us.length = pr__law_right.length) : bindArgs (PySem.W.fnOf "_law_right" "_law_right" (defArgs s__law_right) (defBody s__law_right) (defScope s__law_right) .none kV doc pm an cdv ct) ⟨us, []⟩ = pure (pr__law_right.zip us) :=
  match us, hl with
  | [_], _ => rfl
theorem hb_law (kV doc pm : Value) (an : Option Addr) (cdv ct : Value) (us : List Value) (hl : us.length = pr_law.length) : bindArgs (PySem.W.fnOf "law" "law" (defArgs s_law) (defBody s_law) (defScope s_law) .none kV doc pm an cdv ct) ⟨us, []⟩ = pure (pr_law.zip us) :=
  match us, hl with
  | [_], _ => rfl
structure DAll (K : PySem.W.Frag) (mg : Str → Option Value) : Prop where
  is_integer : Dt K mg "is_integer" s_is_integer pr_is_integer
  is_between : Dt K mg "is_between" s_is_between pr_is_between
  is_tuple_of : Dt K mg "is_tuple_of" s_is_tuple_of pr_is_tuple_of
  are_between : Dt K mg "are_between" s_are_between pr_are_between
  is_row : Dt K mg "is_row" s_is_row pr_is_row
  weighed : Dt K mg "weighed" s_weighed pr_weighed
  is_condition : Dt K mg "is_condition" s_is_condition pr_is_condition
  value_of : Dt K mg "value_of" s_value_of pr_value_of
  is_held : Dt K mg "is_held" s_is_held pr_is_held
  are_held : Dt K mg "are_held" s_are_held pr_are_held
  level_rows : Dt K mg "level_rows" s_level_rows pr_level_rows
  need_equations : Dt K mg "need_equations" s_need_equations pr_need_equations
  need_numbers_for : Dt K mg "need_numbers_for" s_need_numbers_for pr_need_numbers_for
  homogeneous : Dt K mg "homogeneous" s_homogeneous pr_homogeneous
  solves : Dt K mg "solves" s_solves pr_solves
  _law_mixed : Dt K mg "_law_mixed" s__law_mixed pr__law_mixed
  _law_begin : Dt K mg "_law_begin" s__law_begin pr__law_begin
  _law_draw : Dt K mg "_law_draw" s__law_draw pr__law_draw
  _law_of : Dt K mg "_law_of" s__law_of pr__law_of
  _law_like : Dt K mg "_law_like" s__law_like pr__law_like
  _law_worth : Dt K mg "_law_worth" s__law_worth pr__law_worth
  _law_held : Dt K mg "_law_held" s__law_held pr__law_held
  _law_bare : Dt K mg "_law_bare" s__law_bare pr__law_bare
  _law_condition : Dt K mg "_law_condition" s__law_condition pr__law_condition
  _law_equations : Dt K mg "_law_equations" s__law_equations pr__law_equations
  _law_onto : Dt K mg "_law_onto" s__law_onto pr__law_onto
  _law_caught : Dt K mg "_law_caught" s__law_caught pr__law_caught
  _law_is_number : Dt K mg "_law_is_number" s__law_is_number pr__law_is_number
  _law_is_condition : Dt K mg "_law_is_condition" s__law_is_condition pr__law_is_condition
  _law_fault : Dt K mg "_law_fault" s__law_fault pr__law_fault
  _law_bent_row : Dt K mg "_law_bent_row" s__law_bent_row pr__law_bent_row
  _law_bent : Dt K mg "_law_bent" s__law_bent pr__law_bent
  _law_numbers : Dt K mg "_law_numbers" s__law_numbers pr__law_numbers
section
variable {P : Program} {w : World} {K : PySem.W.Frag} {mg : Str → Option Value} {base : Heap} {SE BR BQ : Addr}
theorem ok_BR {fI : Addr} {fd : FuncData} (T : ErT K mg "BadRow" "value" "BadRow.__init__" s_BR BR fI fd) : ErC P w K mg base "BadRow" "value" BR := T.ok sc_BR fun cdv A outer s H E => pss_one (ps_ost (pv 0) (pv 1))
theorem ok_BQ {fI : Addr} {fd : FuncData} (T : ErT K mg "BadEquations" "place" "BadEquations.__init__" s_BQ BQ fI fd) : ErC P w K mg base "BadEquations" "place" BQ := T.ok sc_BQ fun cdv A outer s H E => pss_one (ps_ost (pv 0) (pv 1))
def lamN (x : Str) : Str := x ++ (".<locals>." : Str) ++ ("<lambda>" : Str)
theorem all_ok (B : Bl mg) (C0 : Cs0 mg) (C1 : Cs1 mg) (C2 : Cs2 mg) (T : ErQ P w K mg base BR BQ) (SX : Ex2 K mg SE BR BQ) (D : DAll K mg) {cn cr cl tn tr tl : Addr} (h1 : tn ≠ tr) (h2 : tn ≠ tl) (h3 : tr ≠ tl)
    (TN : TabB base mg cn tn) (TR : TabB base mg cr tr) (TL : TabB base mg cl tl) (DN : DtC K mg "_law_needed" s__law_needed pr__law_needed cn) (DR : DtC K mg "_law_right" s__law_right pr__law_right cr)
    {f : Addr} {oc : Value} {od : Option Addr} {kV doc pm : Value} {an : Option Addr} {ct : Value} {osl : Array (Option Value)} (lk : K.lookup f = some ⟨oc, od, .func (PySem.W.fnOf "law" "law" (defArgs s_law) (defBody s_law) (defScope s_law) .none kV doc pm an (.ref cl) ct), osl⟩) (hcd : PySem.W.codeIn K (.ref cl) "law" = true) :
    FnOkG P w K mg base CX0 13 f (PySem.W.fnOf "law" "law" (defArgs s_law) (defBody s_law) (defScope s_law) .none kV doc pm an (.ref cl) ct) pr_law (spLaw K [(tn, lamN "_law_needed"), (tr, lamN "_law_right"), (tl, lamN "law")]) := by
  have u1 : ∀ p ∈ [(tn, lamN "_law_needed"), (tr, lamN "_law_right"), (tl, lamN "law")], p.1 = tn → p.2 = lamN "_law_needed" := fun p hp e => by
    simp only [List.mem_cons, List.not_mem_nil, or_false] at hp
    rcases hp with rfl | rfl | rfl
    · rfl
    · exact absurd e.symm h1
    · exact absurd e.symm h2
  have u2 : ∀ p ∈ [(tn, lamN "_law_needed"), (tr, lamN "_law_right"), (tl, lamN "law")], p.1 = tr → p.2 = lamN "_law_right" := fun p hp e => by
    simp only [List.mem_cons, List.not_mem_nil, or_false] at hp
    rcases hp with rfl | rfl | rfl
    · exact absurd e h1
    · rfl
    · exact absurd e.symm h3
  have u3 : ∀ p ∈ [(tn, lamN "_law_needed"), (tr, lamN "_law_right"), (tl, lamN "law")], p.1 = tl → p.2 = lamN "law" := fun p hp e => by
    simp only [List.mem_cons, List.not_mem_nil, or_false] at hp
    rcases hp with rfl | rfl | rfl
    · exact absurd e h2
    · exact absurd e h3
    · rfl
  have m1 : (tn, lamN "_law_needed") ∈ [(tn, lamN "_law_needed"), (tr, lamN "_law_right"), (tl, lamN "law")] := List.mem_cons_self ..
  have m2 : (tr, lamN "_law_right") ∈ [(tn, lamN "_law_needed"), (tr, lamN "_law_right"), (tl, lamN "law")] := List.mem_cons_of_mem _ (List.mem_cons_self ..)
  have m3 : (tl, lamN "law") ∈ [(tn, lamN "_law_needed"), (tr, lamN "_law_right"), (tl, lamN "law")] := List.mem_cons_of_mem _ (List.mem_cons_of_mem _ (List.mem_cons_self ..))
  generalize [(tn, lamN "_law_needed"), (tr, lamN "_law_right"), (tl, lamN "law")] = TS at u1 u2 u3 m1 m2 m3 ⊢
  have is_integer := ok_is_integer (P := P) (w := w) (base := base) B D.is_integer
  have is_between := ok_is_between B is_integer D.is_between
  have is_tuple_of := ok_is_tuple_of (P := P) (w := w) (base := base) B D.is_tuple_of
  have are_between := ok_are_between B is_between D.are_between
  have is_row := ok_is_row C0 is_tuple_of are_between D.is_row
  have weighed := ok_weighed (P := P) (w := w) (base := base) B D.weighed
  have is_condition := ok_is_condition B C1 is_between is_tuple_of D.is_condition
  have value_of := ok_value_of weighed D.value_of
  have is_held := ok_is_held (P := P) (w := w) (base := base) D.is_held
  have are_held := ok_are_held B is_held value_of D.are_held
  have level := ok_level (P := P) (w := w) (base := base) B D.level_rows
  have need_eq := ok_need_eq B C2 T is_between is_tuple_of is_condition D.need_equations
  have need_nums := ok_need_nums T need_eq is_row D.need_numbers_for
  have homog := ok_homog need_eq level D.homogeneous
  have solves := ok_solves need_nums are_held D.solves
  have mixed := ok_mixed (P := P) (w := w) (K := K) (base := base) B D._law_mixed
  have draw := ok_draw B mixed D._law_draw
  have lof := ok_of B draw D._law_of
  have like := ok_like (P := P) (w := w) (base := base) B D._law_like
  have begin' := ok_begin (P := P) (w := w) (base := base) B D._law_begin
  have worth := ok_law_worth (P := P) (w := w) (base := base) B D._law_worth
  have held := ok_law_held worth B D._law_held
  have bare := ok_law_bare (P := P) (w := w) (base := base) B D._law_bare
  have num := ok_law_num (P := P) (w := w) (base := base) B D._law_is_number
  have cond := ok_law_cond B num D._law_is_condition
  have fault := ok_law_fault B num cond D._law_fault
  have condition := ok_law_condition B draw D._law_condition
  have equations := ok_law_equations B draw condition D._law_equations
  have onto := ok_law_onto (P := P) (w := w) (base := base) B D._law_onto
  have numbers := ok_law_numbers B draw lof D._law_numbers
  have bent_row := ok_bent_row B draw lof D._law_bent_row
  have bent := ok_bent B draw lof bent_row D._law_bent
  have needed := ok_needed B T SX D._law_caught TN m1 u1 draw bent fault need_eq homog solves bare like DN
  have right := ok_right B T SX D._law_caught TR m2 u2 draw equations numbers need_eq homog solves bare held onto lof like needed DR
  exact ok_law B T SX D._law_caught TL m3 u3 begin' right solves like lk hcd
end
end Ws
/-! ## Z3 -/
namespace Ws
open PySem PySem.Spec PyProof.Rows L2 LamX
/-! ### the end, with tables and guards -/
def tab0 : Obj := { cls := .none, data := .fields #[] }
theorem lawCallGT {P : Program} {w : World} {K : PySem.W.Frag} {mg mb : Str → Option Value} {k : Nat} {fa a : Addr} {cs : List (Addr × Addr)} {fd : FuncData} {x : Str} {sp : Sp} {s₁ : Shared} {vs : List Value} {ns : List Int}
    (KX : K.In s₁.heap) (hns : s₁.heap.Ns mainGlobals mg) (hb : s₁.heap.Ns builtinsNs mb) (hbb : ∀ y : Str, y ≠ "__name__" → mb y = bootBuiltins y) (hlim : s₁.heap.NoLimit) (hg : s₁.gens = #[])
    (tE : ∀ p ∈ cs, s₁.heap.get? p.2 = some tab0) (tK : ∀ p ∈ cs, K.lookup p.2 = none) (tC : ∀ p ∈ cs, PySem.W.CodeHd s₁.heap p.1 p.2)
    (bmn : ∃ (bm : Addr) (ob : Obj), mg "__builtins__" = some (.ref bm) ∧ bm ≠ builtinsNs ∧ s₁.heap.get? bm = some ob ∧ ob.cls = .type "module" ∧ ob.dict = some builtinsNs ∧ ob.data = .plain)
    (ha : s₁.heap.get? a = some { cls := .type "list", data := .seq vs.toArray }) (hi : IntsAre vs ns) (hl : ns.length ≤ sizeLine) (hr : Room k callerA)
    (F : ∀ base : Heap, K.In base → base.Ns mainGlobals mg → (∀ p ∈ cs, TabB base mg p.1 p.2) → FnOkG P w K mg base CX0 k fa fd [x] sp) (hbind : ∀ (s : Shared) (u : Value), BindsTo s fd ⟨[u], []⟩ [(x, u)])
    (hsp : ∀ H : Hp, (∀ p ∈ cs, H p.2 = some (.tbl #[])) → SqL K H a (ns.map V.int) → sp [.ref a] H (fun v _ => v = .bl true) fun _ _ _ => False) :
    codeAny (model P w) callerA (.call (.ref fa) ⟨[.ref a], []⟩) (fun r s' => r = .ok (.ret (.bool true)) ∧ PySem.OldK s₁.heap s'.heap ∧ s'.os = s₁.os ∧ AllBare s'.gens) s₁ := by
  have rv := vals_ints hi
  have lv := hi.length
  have noTab : ∀ p ∈ cs, p.2 ≠ a := fun p hp z => by
    have q := tE p hp
    rw [z, ha] at q
    exact nomatch congrArg Obj.data (Option.some.inj q)
  have main : ∀ T : Hp, (∀ p ∈ cs, T p.2 = some (.tbl #[])) → SqL K T a (ns.map V.int) → HOk P w T s₁.heap →
      (∀ b u, T b = some u → (b = a ∧ ∃ ob xs, u = .frz ob (.lst xs)) ∨ ∃ p ∈ cs, b = p.2 ∧ u = .tbl #[]) → (T a ≠ none → K.lookup a = none) →
      codeAny (model P w) callerA (.call (.ref fa) ⟨[.ref a], []⟩) (fun r s' => r = .ok (.ret (.bool true)) ∧ PySem.OldK s₁.heap s'.heap ∧ s'.os = s₁.os ∧ AllBare s'.gens) s₁ := fun T tT tS tk tA tKa => by
    have off : ∀ {b : Addr} {o : Obj}, s₁.heap.get? b = some o → (∀ xs n, o.data ≠ .seq xs n) → o.data ≠ .fields #[] → T b = none := fun {b o} z d1 d2 => by
      cases t : T b with
      | none => rfl
      | some u =>
        rcases tA b u t with ⟨rfl, _⟩ | ⟨p, hp, rfl, _⟩
        · cases ha.symm.trans z
          exact absurd rfl (d1 _ _)
        · cases (tE p hp).symm.trans z
          exact absurd rfl d2
    have dicts : ∀ {b : Addr} {m : Str → Option Value}, s₁.heap.Ns b m → (hidT s₁.heap T).Ns b m := fun {b m} z =>
      let ⟨o, es, ep, g1, g2, g3⟩ := z
      ⟨o, es, ep, hidT_get g1 (off g1 (fun xs n q => nomatch g2.symm.trans q) (fun q => nomatch g2.symm.trans q)), g2, g3⟩
    have kin : K.In (hidT s₁.heap T) := fun b o z => hidT_get (KX b o z) (by
      cases t : T b with
      | none => rfl
      | some u =>
        rcases tA b u t with ⟨rfl, _⟩ | ⟨p, hp, rfl, _⟩
        · rw [tKa (fun y => by rw [t] at y; exact nomatch y)] at z
          exact nomatch z
        · rw [tK p hp] at z
          exact nomatch z)
    have tabs : ∀ p ∈ cs, TabB (hidT s₁.heap T) mg p.1 p.2 := fun p hp => by
      have e0 := tE p hp
      refine ⟨?_, ?_, fun z => ?_⟩
      · obtain ⟨o, us, c1, c2, c3, c4, c5, c6, c7, g, r1, r2, r3⟩ := tC p hp
        exact ⟨o, us, c1, c2, c3, c4, c5, c6, c7, hidT_get g (off g (fun xs n q => nomatch r2.symm.trans q) (fun q => by
          have q2 := r2.symm.trans q
          cases q2
          exact nomatch r3.1)), r1, r2, r3⟩
      · obtain ⟨bm, ob, b1, b2, b3, b4, b5, b6⟩ := bmn
        refine ⟨bm, ob, b1, b2, fun q => ?_, fun q => ?_, hidT_get b3 (off b3 (fun xs n q => nomatch b6.symm.trans q) (fun q => nomatch b6.symm.trans q)), b4, b5, b6⟩
        · obtain ⟨o, es, ep, g1, g2, _⟩ := hns
          rw [q, g1] at b3
          cases b3
          exact nomatch b6.symm.trans g2
        · rw [q, e0] at b3
          cases b3
          exact nomatch b6
      · obtain ⟨o, es, ep, g1, g2, _⟩ := hns
        rw [z, e0] at g1
        cases g1
        exact nomatch g2
    obtain ⟨mc, lim1, lim2⟩ := hlim
    have mods : Mod K mg (hidT s₁.heap T) := ⟨kin, dicts hns, ⟨mb, dicts hb, hbb⟩, ⟨mc, dicts lim1, lim2⟩⟩
    have nil : ∀ {b : Addr}, b ∈ frs ([] : List Env) → False := fun {b} z => by cases z
    have env : Env0 P w K mg (hidT s₁.heap T) callerA [] s₁ T := ⟨rfl, mods, fun b o z => of_hidT z, Nat.le_of_eq (hidT_size ..), trivial, fun b z => (nil z).elim, tk, .of_eq hg⟩
    refine codeAny_mono ((F _ kin (dicts hns) tabs).run _ [] s₁ T ⟨[.ref a], []⟩ [.ref a] [.ref a] _ _ rfl hr env (hbind _ _) (.cons rfl .nil) (hsp T tT tS)) fun r s' z => ?_
    cases r with
    | error e => exact False.elim z
    | ok fl =>
      cases fl with
      | ret u =>
        obtain ⟨v, H2, z1, z2, un, z4, z5, z6⟩ := z
        obtain rfl : v = .bl true := z6
        have same : ∀ b o, (∀ p ∈ cs, b ≠ p.2) → s₁.heap.get? b = some o → s'.heap.get? b = some o := fun b o nb g => by
          cases t : T b with
          | none => exact un.keep b o g t (fun y => nil y) (fun y => nomatch y)
          | some u =>
            rcases tA b u t with ⟨e, ob, xs, rfl⟩ | ⟨p, hp, e, _⟩
            · have g1 := (tk b _ t).1
              have g2 := (z4 b _ (un.frzs b ob _ t)).1
              rw [g1] at g
              cases g
              exact g2
            · exact absurd e (nb p hp)
        have more : ∀ p ∈ cs, ∃ ys : Array Value, s'.heap.get? p.2 = some { cls := .none, data := .fields ys } := fun p hp => by
          obtain ⟨ys, y⟩ := un.tbls p.2 #[] (tT p hp)
          exact ⟨_, z4 p.2 _ y⟩
        refine ⟨by rw [show u = Value.bool true from z5], ⟨fun b o g => ?_, fun b o g => ?_⟩, z1, z2⟩
        · by_cases c : ∃ p ∈ cs, b = p.2
          · obtain ⟨p, hp, rfl⟩ := c
            obtain ⟨ys, hy⟩ := more p hp
            cases (tE p hp).symm.trans g
            exact .inr (.inl ⟨((tC p hp).tab (tE p hp)).isCodeTable, rfl, #[], ys, rfl, by rw [Array.empty_append]; exact hy⟩)
          · exact .inl (same b o (fun p hp e => c ⟨p, hp, e⟩) g)
        · by_cases c : ∃ p ∈ cs, b = p.2
          · obtain ⟨p, hp, rfl⟩ := c
            obtain ⟨ys, hy⟩ := more p hp
            exact ⟨_, hy⟩
          · exact ⟨o, same b o (fun p hp e => c ⟨p, hp, e⟩) g⟩
      | next => exact False.elim z
      | brk => exact False.elim z
      | cont => exact False.elim z
  have pick : ∀ (U : Option HO) (b : Addr) (u : HO), (if ∃ p ∈ cs, b = p.2 then some (.tbl #[]) else if b = a then U else none) = some u → (b = a ∧ U = some u) ∨ ∃ p ∈ cs, b = p.2 ∧ u = .tbl #[] := fun U b u z => by
    by_cases c : ∃ p ∈ cs, b = p.2
    · rw [if_pos c] at z
      obtain ⟨p, hp, e⟩ := c
      exact .inr ⟨p, hp, e, (Option.some.inj z).symm⟩
    · rw [if_neg c] at z
      by_cases d : b = a
      · rw [if_pos d] at z
        exact .inl ⟨d, z⟩
      · rw [if_neg d] at z
        exact nomatch z
  have atT : ∀ (U : Option HO), ∀ p ∈ cs, (if ∃ q ∈ cs, p.2 = q.2 then some (HO.tbl #[]) else if p.2 = a then U else none) = some (.tbl #[]) := fun U p hp => if_pos ⟨p, hp, rfl⟩
  have atA : ∀ (U : Option HO), (if ∃ q ∈ cs, a = q.2 then some (HO.tbl #[]) else if a = a then U else none) = U := fun U => by
    rw [if_neg (fun ⟨p, hp, e⟩ => noTab p hp e.symm), if_pos rfl]
  cases own : K.lookup a with
  | some o =>
    obtain rfl : o = { cls := .type "list", data := .seq vs.toArray } := Option.some.inj ((KX a o own).symm.trans ha)
    refine main (fun b => if ∃ p ∈ cs, b = p.2 then some (.tbl #[]) else if b = a then none else none) (atT none) (.inr ⟨_, _, _, own, rfl, rfl, rfl, by simp only [List.size_toArray]; omega, by simpa using rv⟩) (fun b u z => ?_) (fun b u z => ?_) fun z => (z (atA none)).elim
    · rcases pick none b u z with ⟨_, q⟩ | ⟨p, hp, rfl, rfl⟩
      · exact nomatch q
      · exact tE p hp
    · rcases pick none b u z with ⟨_, q⟩ | q
      · exact nomatch q
      · exact .inr q
  | none =>
    refine main (fun b => if ∃ p ∈ cs, b = p.2 then some (.tbl #[]) else if b = a then some (.frz { cls := .type "list", data := .seq vs.toArray } (.lst (ns.map V.int))) else none) (atT _) (.inl (.inr ⟨_, atA _⟩)) (fun b u z => ?_) (fun b u z => ?_) fun _ => own
    · rcases pick _ b u z with ⟨rfl, q⟩ | ⟨p, hp, rfl, rfl⟩
      · obtain rfl := Option.some.inj q
        exact ⟨ha, by simpa using hl, vs, _, rv, ha⟩
      · exact tE p hp
    · rcases pick _ b u z with ⟨e, q⟩ | q
      · exact .inl ⟨e, _, _, (Option.some.inj q).symm⟩
      · exact .inr q
end Ws
/-! ## Z4 -/
namespace Ws
open PySem PySem.Spec PyProof.Rows L2 LamX
theorem walkGT {l : PySem.W.OpenLaw} {n k : Nat} {q : Program} {loose : List Str} {XP : (Str → Option Value) → Heap → Prop} {YP : World → Heap → Prop} {d : DefRec} {K : Params → PySem.W.Frag} {x : Str}
    (hn : l.most = some n) (hn2 : n ≤ sizeLine) (hdf : d.params.defaults = []) (hr : Room k callerA) (hY : ∀ (w : World) (h : Heap), YP w h → (K w.params).In h)
    (F : ∀ (w : World) (mg : Str → Option Value) (fa : Addr) (h : Heap), (K w.params).In h → h.Ns mainGlobals mg → XP mg h → mg d.name = some (.ref fa) →
      (∀ (y : Str) (g : Addr), ((recsOf q).any fun e => e.name == y) = true → mg y = some (.ref g) → OwnTab (K w.params) g h) →
      ∃ (fd : FuncData) (cs : List (Addr × Addr)) (sp : Sp), (∀ p ∈ cs, h.get? p.2 = some tab0) ∧ (∀ p ∈ cs, (K w.params).lookup p.2 = none) ∧ (∀ p ∈ cs, PySem.W.CodeHd h p.1 p.2) ∧ (∀ (s : Shared) (u : Value), BindsTo s fd ⟨[u], []⟩ [(x, u)]) ∧
        (∀ (H : Hp) (a : Addr) (ns : List Int), ns.length ≤ n → (∀ p ∈ cs, H p.2 = some (.tbl #[])) → SqL (K w.params) H a (ns.map V.int) → sp [.ref a] H (fun v _ => v = .bl true) fun _ _ _ => False) ∧
        ∀ base : Heap, (K w.params).In base → base.Ns mainGlobals mg → (∀ p ∈ cs, TabB base mg p.1 p.2) → FnOkG l.prog w (K w.params) mg base CX0 k fa fd [x] sp) :
    PySem.W.WalkO q loose XP YP l.row.toRowW d [] (fun f vs => PySem.call f vs) := by
  refine Att.attach_callB hn hdf fun w s₀ s₁ mg mb fa o pm cd doc a vs ns G Y ho hd hcd hmg hobj hints hlen hbits hg => ?_
  have KX := hY w _ Y
  have own : ∀ (y : Str) (g : Addr), ((recsOf q).any fun e => e.name == y) = true → mg y = some (.ref g) → OwnTab (K w.params) g s₁.heap := fun y g hy hm c P o1 fd1 e dd vs1 sl k1 k2 k3 k4 k5 => by
    obtain ⟨r, mr, nr⟩ := List.any_eq_true.mp hy
    obtain rfl : r.name = y := beq_iff_eq.mp nr
    obtain ⟨a2, o2, fd2, c2, P2, h1, h2, h3, h4, h5, ⟨oc, vc, e1, _, e3, e4⟩, hP⟩ := G.T.tab r mr
    cases hm.symm.trans h1
    cases (KX _ _ k1).symm.trans h2
    cases k2.symm.trans h3
    cases k3.symm.trans h4
    cases (KX _ _ k4).symm.trans e1
    cases e3
    cases k5.symm.trans e4
    exact hP
  obtain ⟨fd, cs, sp, tE, tK, tC, hb, hsp, hF⟩ := F w mg fa _ KX G.T.g G.X hmg own
  exact lawCallGT KX G.T.g G.T.b G.T.builtins G.T.nolimit hg tE tK tC G.T.bmain hobj hints (Nat.le_trans hlen hn2) hr hF hb fun H hH hS => hsp H a ns hlen hH hS
section
variable {K : PySem.W.Frag} {mg : Str → Option Value} {h : Heap}
/-- a def whose code object is at c, with the table at t -/
structure AtC (K : PySem.W.Frag) (mg : Str → Option Value) (x : Str) (st : Stmt) (f c t : Addr) : Prop where
  ex : ∃ (oc : Value) (od : Option Addr) (kV doc pm : Value) (an : Option Addr) (ct : Value) (osl : Array (Option Value)) (e : Value) (dd : Option Addr) (vs : Array Value) (sl : Array (Option Value)), K.lookup f = some ⟨oc, od, .func (PySem.W.fnOf x x (defArgs st) (defBody st) (defScope st) .none kV doc pm an (.ref c) ct), osl⟩ ∧ K.lookup c = some ⟨e, dd, .fields vs, sl⟩ ∧ vs[11]? = some (.ref t)
  code : PySem.W.codeIn K (.ref c) x = true
  keep : PySem.W.keepIn K (.ref f) = true
  at_ : mg x = some (.ref f)
  hd : PySem.W.codeHdIn K c t = true
  no : K.lookup t = none
theorem AtC.mk' {x : Str} {st : Stmt} {f c t : Addr} {oc : Value} {od : Option Addr} {kV doc pm : Value} {an : Option Addr} {ct : Value} {osl : Array (Option Value)} {e : Value} {dd : Option Addr} {vs : Array Value} {sl : Array (Option Value)} (X : K.In h) (G : h.Ns mainGlobals mg) (a : PySem.W.nsIn K mainGlobals x = some (some (.ref f)))
    (l : K.lookup f = some ⟨oc, od, .func (PySem.W.fnOf x x (defArgs st) (defBody st) (defScope st) .none kV doc pm an (.ref c) ct), osl⟩) (l2 : K.lookup c = some ⟨e, dd, .fields vs, sl⟩) (v : vs[11]? = some (.ref t)) (cd : PySem.W.codeIn K (.ref c) x = true) (kp : PySem.W.keepIn K (.ref f) = true) (hd : PySem.W.codeHdIn K c t = true) (no : K.lookup t = none) : AtC K mg x st f c t :=
  ⟨⟨oc, od, kV, doc, pm, an, ct, osl, e, dd, vs, sl, l, l2, v⟩, cd, kp, PySem.W.mg_of X G a, hd, no⟩
theorem AtC.dtC {x : Str} {st : Stmt} {ps : List Str} {f c t : Addr} (A : AtC K mg x st f c t)
    (hb : ∀ (kV doc pm : Value) (an : Option Addr) (cdv ct : Value) (us : List Value), us.length = ps.length → bindArgs (PySem.W.fnOf x x (defArgs st) (defBody st) (defScope st) .none kV doc pm an cdv ct) ⟨us, []⟩ = pure (ps.zip us)) : DtC K mg x st ps c := by
  obtain ⟨oc, od, kV, doc, pm, an, ct, osl, e, dd, vs, sl, l, l2, v⟩ := A.ex
  exact ⟨f, oc, od, kV, doc, pm, an, ct, osl, l, A.code, A.keep, A.at_, (fun_mk l A.code A.keep).binds hb⟩
theorem AtC.tab {x : Str} {st : Stmt} {f c t : Addr} (A : AtC K mg x st f c t) (own : OwnTab K f h) : h.get? t = some tab0 := by
  obtain ⟨oc, od, kV, doc, pm, an, ct, osl, e, dd, vs, sl, l, l2, v⟩ := A.ex
  exact own c t _ _ e dd vs sl l rfl rfl l2 v
theorem Bl.mk' (X : K.In h) (G : h.Ns mainGlobals mg) (z1 : PySem.W.nsIn K mainGlobals "isinstance" = some none) (z2 : PySem.W.nsIn K mainGlobals "int" = some none) (z3 : PySem.W.nsIn K mainGlobals "bool" = some none) (z4 : PySem.W.nsIn K mainGlobals "tuple" = some none)
    (z5 : PySem.W.nsIn K mainGlobals "list" = some none) (z6 : PySem.W.nsIn K mainGlobals "str" = some none) (z7 : PySem.W.nsIn K mainGlobals "len" = some none) (z8 : PySem.W.nsIn K mainGlobals "all" = some none) (z9 : PySem.W.nsIn K mainGlobals "any" = some none) (z10 : PySem.W.nsIn K mainGlobals "sum" = some none)
    (z11 : PySem.W.nsIn K mainGlobals "max" = some none) (z12 : PySem.W.nsIn K mainGlobals "min" = some none) (z13 : PySem.W.nsIn K mainGlobals "range" = some none) (z14 : PySem.W.nsIn K mainGlobals "enumerate" = some none) (z15 : PySem.W.nsIn K mainGlobals "repr" = some none) (z16 : PySem.W.nsIn K mainGlobals "abs" = some none)
    (z17 : PySem.W.nsIn K mainGlobals "sorted" = some none) (z18 : PySem.W.nsIn K mainGlobals "zip" = some none) : Bl mg :=
  have m := fun {x : Str} (z : PySem.W.nsIn K mainGlobals x = some none) => PySem.W.mg_none_of X G z
  ⟨m z1, m z2, m z3, m z4, m z5, m z6, m z7, m z8, m z9, m z10, m z11, m z12, m z13, m z14, m z15, m z16, m z17, m z18⟩
theorem Cs0.mk' (y1 : ∃ v, mg "MOST_NUMBER" = some v ∧ PySem.W.ReadsLit h v (.int (10 ^ 60)) []) : Cs0 mg := by
  obtain ⟨v, e, r⟩ := y1
  cases r
  exact ⟨⟨_, e⟩⟩
theorem Cs1.mk' {t1 t2 t3 : Tok} (X : K.In h) (G : h.Ns mainGlobals mg) (y1 : PySem.W.nsIn K mainGlobals "MOST_REST" = some (some (.int 1000 t1))) (y2 : PySem.W.nsIn K mainGlobals "MOST_CONST" = some (some (.int 1000 t2))) (y3 : PySem.W.nsIn K mainGlobals "MOST_WEIGHT" = some (some (.int 100 t3))) : Cs1 mg :=
  ⟨⟨_, PySem.W.mg_of X G y1⟩, ⟨_, PySem.W.mg_of X G y2⟩, ⟨_, PySem.W.mg_of X G y3⟩⟩
theorem Cs2.mk' {t1 t2 : Tok} (X : K.In h) (G : h.Ns mainGlobals mg) (y1 : PySem.W.nsIn K mainGlobals "MOST_UNKNOWNS" = some (some (.int 12 t1))) (y2 : PySem.W.nsIn K mainGlobals "MOST_CONDITIONS" = some (some (.int 12 t2))) : Cs2 mg :=
  ⟨⟨_, PySem.W.mg_of X G y1⟩, ⟨_, PySem.W.mg_of X G y2⟩⟩
theorem kit_of {S c : Addr} (h2 : PySem.W.isClsIn K S = true) (h3 : PySem.W.typeIn K (.ref S) = some (.type "type")) (h4 : PySem.W.subIn K (.ref c) (.ref S) = some true) : PySem.W.kitOne K (.ref c) (.ref S) = some true := by
  have e2 : ((PySem.W.clsIn K S).isSome && PySem.W.typeIn K (.ref S) == some (.type "type")) = true := by
    have h2' : (PySem.W.clsIn K S).isSome = true := h2
    rw [h2', h3] <;> rfl
  unfold PySem.W.kitOne
  split
  · rfl
  · show (if ((PySem.W.clsIn K S).isSome && PySem.W.typeIn K (.ref S) == some (.type "type")) = true then PySem.W.subIn K (.ref c) (.ref S) else none) = some true
    rw [if_pos e2]
    exact h4
theorem Ex2.mk' {SE BR BQ : Addr} (X : K.In h) (G : h.Ns mainGlobals mg) (_m1 : mg "BadRow" = some (.ref BR)) (_m2 : mg "BadEquations" = some (.ref BQ)) (s1 : PySem.W.nsIn K mainGlobals "SayError" = some (some (.ref SE))) (s3 : PySem.W.isClsIn K SE = true) (s4 : PySem.W.typeIn K (.ref SE) = some (.type "type"))
    (x0 : ExcC K BQ) (x1 : ExcC K BR) (s5 : PySem.W.subIn K (.ref BQ) (.ref SE) = some true) (s6 : PySem.W.subIn K (.ref BR) (.ref SE) = some true)
    (b2 : PySem.W.isClsIn K BQ = true) (b3 : PySem.W.typeIn K (.ref BQ) = some (.type "type")) (b4 : PySem.W.subIn K (.ref BQ) (.ref BQ) = some true) (b5 : PySem.W.subIn K (.ref BR) (.ref BQ) = some false)
    (t2 : PySem.W.isClsIn K BR = true) (t3 : PySem.W.typeIn K (.ref BR) = some (.type "type")) (t4 : PySem.W.subIn K (.ref BR) (.ref BR) = some true) : Ex2 K mg SE BR BQ := by
  refine ⟨PySem.W.mg_of X G s1, fun i hi => ?_, fun i hi => ?_, fun i j hij hi => ?_⟩
  · match i, hi with
    | 0, _ => exact x0
    | 1, _ => exact x1
  · match i, hi with
    | 0, _ => exact kit_of s3 s4 s5
    | 1, _ => exact kit_of s3 s4 s6
  · match i, j, hij, hi with
    | 0, 0, _, _ => exact exm_of x0.hs b2 b3 b4
    | 1, 0, _, _ => exact exm_of x0.hs b2 b3 b5
    | 1, 1, _, _ => exact exm_of x1.hs t2 t3 t4
theorem fin {l : PySem.W.OpenLaw} {q : Program} {w : World} {fa f fn fr cn cr cl tn tr tl : Addr} {SE BR BQ fR fQ : Addr} {fdR fdQ : FuncData} (X : K.In h) (G : h.Ns mainGlobals mg) (hmg : mg "law" = some (.ref fa))
    (own : ∀ (y : Str) (g : Addr), ((recsOf q).any fun e => e.name == y) = true → mg y = some (.ref g) → OwnTab K g h)
    (q1 : ((recsOf q).any fun e => e.name == "_law_needed") = true) (q2 : ((recsOf q).any fun e => e.name == "_law_right") = true) (q3 : ((recsOf q).any fun e => e.name == "law") = true)
    (AN : AtC K mg "_law_needed" s__law_needed fn cn tn) (AR : AtC K mg "_law_right" s__law_right fr cr tr) (AL : AtC K mg "law" s_law f cl tl) (h1 : tn ≠ tr) (h2 : tn ≠ tl) (h3 : tr ≠ tl)
    (B : Bl mg) (C0 : Cs0 mg) (C1 : Cs1 mg) (C2 : Cs2 mg) (ER : ErT K mg "BadRow" "value" "BadRow.__init__" s_BR BR fR fdR) (EQ : ErT K mg "BadEquations" "place" "BadEquations.__init__" s_BQ BQ fQ fdQ) (SX : Ex2 K mg SE BR BQ) (D : DAll K mg) :
    ∃ (fd : FuncData) (cs : List (Addr × Addr)) (sp : Sp), (∀ p ∈ cs, h.get? p.2 = some tab0) ∧ (∀ p ∈ cs, K.lookup p.2 = none) ∧ (∀ p ∈ cs, PySem.W.CodeHd h p.1 p.2) ∧ (∀ (s : Shared) (u : Value), BindsTo s fd ⟨[u], []⟩ [("script", u)]) ∧
        (∀ (H : Hp) (a : Addr) (ns : List Int), ns.length ≤ 63 → (∀ p ∈ cs, H p.2 = some (.tbl #[])) → SqL K H a (ns.map V.int) → sp [.ref a] H (fun v _ => v = .bl true) fun _ _ _ => False) ∧
        ∀ base : Heap, K.In base → base.Ns mainGlobals mg → (∀ p ∈ cs, TabB base mg p.1 p.2) → FnOkG l.prog w K mg base CX0 13 fa fd ["script"] sp := by
  obtain rfl : fa = f := Value.ref.inj (Option.some.inj (hmg.symm.trans AL.at_))
  have tn0 := AN.tab (own _ _ q1 AN.at_)
  have tr0 := AR.tab (own _ _ q2 AR.at_)
  have tl0 := AL.tab (own _ _ q3 AL.at_)
  obtain ⟨oc, od, kV, doc, pm, an, ct, osl, e, dd, vs, sl, l1, l2, v⟩ := AL.ex
  have all3 : ∀ {Pp : Addr × Addr → Prop}, Pp (cn, tn) → Pp (cr, tr) → Pp (cl, tl) → ∀ p ∈ [(cn, tn), (cr, tr), (cl, tl)], Pp p := fun a b c p hp => by
    simp only [List.mem_cons, List.not_mem_nil, or_false] at hp
    rcases hp with rfl | rfl | rfl
    · exact a
    · exact b
    · exact c
  refine ⟨_, [(cn, tn), (cr, tr), (cl, tl)], spLaw K [(tn, lamN "_law_needed"), (tr, lamN "_law_right"), (tl, lamN "law")], all3 tn0 tr0 tl0, all3 AN.no AR.no AL.no, all3 (PySem.W.codeHd_of_K X AN.hd) (PySem.W.codeHd_of_K X AR.hd) (PySem.W.codeHd_of_K X AL.hd),
    fun s u => .of_eq (hb_law kV doc pm an (.ref cl) ct [u] rfl), fun H a ns hl hH hS => ⟨a, ns, rfl, hS, by omega, ?_, fun _ => rfl⟩, fun base Kb Gb TB => ?_⟩
  · have t1 : H tn = some (.tbl #[]) := hH (cn, tn) (List.mem_cons_self ..)
    have t2 : H tr = some (.tbl #[]) := hH (cr, tr) (List.mem_cons_of_mem _ (List.mem_cons_self ..))
    have t3 : H tl = some (.tbl #[]) := hH (cl, tl) (List.mem_cons_of_mem _ (List.mem_cons_of_mem _ (List.mem_cons_self ..)))
    intro p hp
    simp only [List.mem_cons, List.not_mem_nil, or_false] at hp
    rcases hp with rfl | rfl | rfl
    · exact TabS.nil t1
    · exact TabS.nil t2
    · exact TabS.nil t3
  · exact all_ok B C0 C1 C2 ⟨ok_BR ER, ok_BQ EQ⟩ SX D h1 h2 h3 (TB (cn, tn) (List.mem_cons_self ..)) (TB (cr, tr) (List.mem_cons_of_mem _ (List.mem_cons_self ..))) (TB (cl, tl) (List.mem_cons_of_mem _ (List.mem_cons_of_mem _ (List.mem_cons_self ..)))) (AN.dtC hb__law_needed) (AR.dtC hb__law_right) l1 AL.code
end
end Ws
open PySem PySem.W PyProof.Rows
set_option maxRecDepth 100000 in
set_option maxHeartbeats 0 in
theorem PySem.Challenge.cw_wholesay_k28_whole_equations_held_holds : PySem.Challenge.rw_wholesay_k28_whole_equations_held.Holds := by
  w_on; o_law; k_head; (case hw => w_witness2)
  k_fill
  refine Ws.walkGT (l := PySem.Challenge.rw_wholesay_k28_whole_equations_held) (n := 63) (k := 13) (x := "script") rfl (by decide) rfl ⟨rfl, by decide, by decide⟩ (fun w h Y => PySem.W.km_in_of Y) ?F
  case F =>
    intro w mg fa h KX G hX hmg own
    refine' (fun D_is_integer => ?rD0) (Ws.Dt.mk' (x := "is_integer") (st := Ws.s_is_integer) (ps := Ws.pr_is_integer) KX G ?a0 ?l0 ?c0 ?k0 Ws.hb_is_integer)
    case' a0 => k_is
    case' l0 => k_is
    case' c0 => k_is
    case' k0 => k_is
    refine' (fun D_is_between => ?rD1) (Ws.Dt.mk' (x := "is_between") (st := Ws.s_is_between) (ps := Ws.pr_is_between) KX G ?a1 ?l1 ?c1 ?k1 Ws.hb_is_between)
    case' a1 => k_is
    case' l1 => k_is
    case' c1 => k_is
    case' k1 => k_is
    refine' (fun D_is_tuple_of => ?rD2) (Ws.Dt.mk' (x := "is_tuple_of") (st := Ws.s_is_tuple_of) (ps := Ws.pr_is_tuple_of) KX G ?a2 ?l2 ?c2 ?k2 Ws.hb_is_tuple_of)
    case' a2 => k_is
    case' l2 => k_is
    case' c2 => k_is
    case' k2 => k_is
    refine' (fun D_are_between => ?rD3) (Ws.Dt.mk' (x := "are_between") (st := Ws.s_are_between) (ps := Ws.pr_are_between) KX G ?a3 ?l3 ?c3 ?k3 Ws.hb_are_between)
    case' a3 => k_is
    case' l3 => k_is
    case' c3 => k_is
    case' k3 => k_is
    refine' (fun D_is_row => ?rD4) (Ws.Dt.mk' (x := "is_row") (st := Ws.s_is_row) (ps := Ws.pr_is_row) KX G ?a4 ?l4 ?c4 ?k4 Ws.hb_is_row)
    case' a4 => k_is
    case' l4 => k_is
    case' c4 => k_is
    case' k4 => k_is
    refine' (fun D_weighed => ?rD5) (Ws.Dt.mk' (x := "weighed") (st := Ws.s_weighed) (ps := Ws.pr_weighed) KX G ?a5 ?l5 ?c5 ?k5 Ws.hb_weighed)
    case' a5 => k_is
    case' l5 => k_is
    case' c5 => k_is
    case' k5 => k_is
    refine' (fun D_is_condition => ?rD6) (Ws.Dt.mk' (x := "is_condition") (st := Ws.s_is_condition) (ps := Ws.pr_is_condition) KX G ?a6 ?l6 ?c6 ?k6 Ws.hb_is_condition)
    case' a6 => k_is
    case' l6 => k_is
    case' c6 => k_is
    case' k6 => k_is
    refine' (fun D_value_of => ?rD7) (Ws.Dt.mk' (x := "value_of") (st := Ws.s_value_of) (ps := Ws.pr_value_of) KX G ?a7 ?l7 ?c7 ?k7 Ws.hb_value_of)
    case' a7 => k_is
    case' l7 => k_is
    case' c7 => k_is
    case' k7 => k_is
    refine' (fun D_is_held => ?rD8) (Ws.Dt.mk' (x := "is_held") (st := Ws.s_is_held) (ps := Ws.pr_is_held) KX G ?a8 ?l8 ?c8 ?k8 Ws.hb_is_held)
    case' a8 => k_is
    case' l8 => k_is
    case' c8 => k_is
    case' k8 => k_is
    refine' (fun D_are_held => ?rD9) (Ws.Dt.mk' (x := "are_held") (st := Ws.s_are_held) (ps := Ws.pr_are_held) KX G ?a9 ?l9 ?c9 ?k9 Ws.hb_are_held)
    case' a9 => k_is
    case' l9 => k_is
    case' c9 => k_is
    case' k9 => k_is
    refine' (fun D_level_rows => ?rD10) (Ws.Dt.mk' (x := "level_rows") (st := Ws.s_level_rows) (ps := Ws.pr_level_rows) KX G ?a10 ?l10 ?c10 ?k10 Ws.hb_level_rows)
    case' a10 => k_is
    case' l10 => k_is
    case' c10 => k_is
    case' k10 => k_is
    refine' (fun D_need_equations => ?rD11) (Ws.Dt.mk' (x := "need_equations") (st := Ws.s_need_equations) (ps := Ws.pr_need_equations) KX G ?a11 ?l11 ?c11 ?k11 Ws.hb_need_equations)
    case' a11 => k_is
    case' l11 => k_is
    case' c11 => k_is
    case' k11 => k_is
    refine' (fun D_need_numbers_for => ?rD12) (Ws.Dt.mk' (x := "need_numbers_for") (st := Ws.s_need_numbers_for) (ps := Ws.pr_need_numbers_for) KX G ?a12 ?l12 ?c12 ?k12 Ws.hb_need_numbers_for)
    case' a12 => k_is
    case' l12 => k_is
    case' c12 => k_is
    case' k12 => k_is
    refine' (fun D_homogeneous => ?rD13) (Ws.Dt.mk' (x := "homogeneous") (st := Ws.s_homogeneous) (ps := Ws.pr_homogeneous) KX G ?a13 ?l13 ?c13 ?k13 Ws.hb_homogeneous)
    case' a13 => k_is
    case' l13 => k_is
    case' c13 => k_is
    case' k13 => k_is
    refine' (fun D_solves => ?rD14) (Ws.Dt.mk' (x := "solves") (st := Ws.s_solves) (ps := Ws.pr_solves) KX G ?a14 ?l14 ?c14 ?k14 Ws.hb_solves)
    case' a14 => k_is
    case' l14 => k_is
    case' c14 => k_is
    case' k14 => k_is
    refine' (fun D__law_mixed => ?rD15) (Ws.Dt.mk' (x := "_law_mixed") (st := Ws.s__law_mixed) (ps := Ws.pr__law_mixed) KX G ?a15 ?l15 ?c15 ?k15 Ws.hb__law_mixed)
    case' a15 => k_is
    case' l15 => k_is
    case' c15 => k_is
    case' k15 => k_is
    refine' (fun D__law_begin => ?rD16) (Ws.Dt.mk' (x := "_law_begin") (st := Ws.s__law_begin) (ps := Ws.pr__law_begin) KX G ?a16 ?l16 ?c16 ?k16 Ws.hb__law_begin)
    case' a16 => k_is
    case' l16 => k_is
    case' c16 => k_is
    case' k16 => k_is
    refine' (fun D__law_draw => ?rD17) (Ws.Dt.mk' (x := "_law_draw") (st := Ws.s__law_draw) (ps := Ws.pr__law_draw) KX G ?a17 ?l17 ?c17 ?k17 Ws.hb__law_draw)
    case' a17 => k_is
    case' l17 => k_is
    case' c17 => k_is
    case' k17 => k_is
    refine' (fun D__law_of => ?rD18) (Ws.Dt.mk' (x := "_law_of") (st := Ws.s__law_of) (ps := Ws.pr__law_of) KX G ?a18 ?l18 ?c18 ?k18 Ws.hb__law_of)
    case' a18 => k_is
    case' l18 => k_is
    case' c18 => k_is
    case' k18 => k_is
    refine' (fun D__law_like => ?rD19) (Ws.Dt.mk' (x := "_law_like") (st := Ws.s__law_like) (ps := Ws.pr__law_like) KX G ?a19 ?l19 ?c19 ?k19 Ws.hb__law_like)
    case' a19 => k_is
    case' l19 => k_is
    case' c19 => k_is
    case' k19 => k_is
    refine' (fun D__law_worth => ?rD20) (Ws.Dt.mk' (x := "_law_worth") (st := Ws.s__law_worth) (ps := Ws.pr__law_worth) KX G ?a20 ?l20 ?c20 ?k20 Ws.hb__law_worth)
    case' a20 => k_is
    case' l20 => k_is
    case' c20 => k_is
    case' k20 => k_is
    refine' (fun D__law_held => ?rD21) (Ws.Dt.mk' (x := "_law_held") (st := Ws.s__law_held) (ps := Ws.pr__law_held) KX G ?a21 ?l21 ?c21 ?k21 Ws.hb__law_held)
    case' a21 => k_is
    case' l21 => k_is
    case' c21 => k_is
    case' k21 => k_is
    refine' (fun D__law_bare => ?rD22) (Ws.Dt.mk' (x := "_law_bare") (st := Ws.s__law_bare) (ps := Ws.pr__law_bare) KX G ?a22 ?l22 ?c22 ?k22 Ws.hb__law_bare)
    case' a22 => k_is
    case' l22 => k_is
    case' c22 => k_is
    case' k22 => k_is
    refine' (fun D__law_condition => ?rD23) (Ws.Dt.mk' (x := "_law_condition") (st := Ws.s__law_condition) (ps := Ws.pr__law_condition) KX G ?a23 ?l23 ?c23 ?k23 Ws.hb__law_condition)
    case' a23 => k_is
    case' l23 => k_is
    case' c23 => k_is
    case' k23 => k_is
    refine' (fun D__law_equations => ?rD24) (Ws.Dt.mk' (x := "_law_equations") (st := Ws.s__law_equations) (ps := Ws.pr__law_equations) KX G ?a24 ?l24 ?c24 ?k24 Ws.hb__law_equations)
    case' a24 => k_is
    case' l24 => k_is
    case' c24 => k_is
    case' k24 => k_is
    refine' (fun D__law_onto => ?rD25) (Ws.Dt.mk' (x := "_law_onto") (st := Ws.s__law_onto) (ps := Ws.pr__law_onto) KX G ?a25 ?l25 ?c25 ?k25 Ws.hb__law_onto)
    case' a25 => k_is
    case' l25 => k_is
    case' c25 => k_is
    case' k25 => k_is
    refine' (fun D__law_caught => ?rD26) (Ws.Dt.mk' (x := "_law_caught") (st := Ws.s__law_caught) (ps := Ws.pr__law_caught) KX G ?a26 ?l26 ?c26 ?k26 Ws.hb__law_caught)
    case' a26 => k_is
    case' l26 => k_is
    case' c26 => k_is
    case' k26 => k_is
    refine' (fun D__law_is_number => ?rD27) (Ws.Dt.mk' (x := "_law_is_number") (st := Ws.s__law_is_number) (ps := Ws.pr__law_is_number) KX G ?a27 ?l27 ?c27 ?k27 Ws.hb__law_is_number)
    case' a27 => k_is
    case' l27 => k_is
    case' c27 => k_is
    case' k27 => k_is
    refine' (fun D__law_is_condition => ?rD28) (Ws.Dt.mk' (x := "_law_is_condition") (st := Ws.s__law_is_condition) (ps := Ws.pr__law_is_condition) KX G ?a28 ?l28 ?c28 ?k28 Ws.hb__law_is_condition)
    case' a28 => k_is
    case' l28 => k_is
    case' c28 => k_is
    case' k28 => k_is
    refine' (fun D__law_fault => ?rD29) (Ws.Dt.mk' (x := "_law_fault") (st := Ws.s__law_fault) (ps := Ws.pr__law_fault) KX G ?a29 ?l29 ?c29 ?k29 Ws.hb__law_fault)
    case' a29 => k_is
    case' l29 => k_is
    case' c29 => k_is
    case' k29 => k_is
    refine' (fun D__law_bent_row => ?rD30) (Ws.Dt.mk' (x := "_law_bent_row") (st := Ws.s__law_bent_row) (ps := Ws.pr__law_bent_row) KX G ?a30 ?l30 ?c30 ?k30 Ws.hb__law_bent_row)
    case' a30 => k_is
    case' l30 => k_is
    case' c30 => k_is
    case' k30 => k_is
    refine' (fun D__law_bent => ?rD31) (Ws.Dt.mk' (x := "_law_bent") (st := Ws.s__law_bent) (ps := Ws.pr__law_bent) KX G ?a31 ?l31 ?c31 ?k31 Ws.hb__law_bent)
    case' a31 => k_is
    case' l31 => k_is
    case' c31 => k_is
    case' k31 => k_is
    refine' (fun D__law_numbers => ?rD33) (Ws.Dt.mk' (x := "_law_numbers") (st := Ws.s__law_numbers) (ps := Ws.pr__law_numbers) KX G ?a33 ?l33 ?c33 ?k33 Ws.hb__law_numbers)
    case' a33 => k_is
    case' l33 => k_is
    case' c33 => k_is
    case' k33 => k_is
    refine' (fun A__law_needed => ?rA0) (Ws.AtC.mk' (x := "_law_needed") (st := Ws.s__law_needed) KX G ?Aa0 ?Al0 ?Am0 ?Av0 ?Ac0 ?Ak0 ?Ah0 ?An0)
    case' Aa0 => k_is
    case' Al0 => k_is
    case' Am0 => k_is
    case' Av0 => rfl
    case' Ac0 => k_is
    case' Ak0 => k_is
    case' Ah0 => kernel_rfl
    case' An0 => kernel_rfl
    refine' (fun A__law_right => ?rA1) (Ws.AtC.mk' (x := "_law_right") (st := Ws.s__law_right) KX G ?Aa1 ?Al1 ?Am1 ?Av1 ?Ac1 ?Ak1 ?Ah1 ?An1)
    case' Aa1 => k_is
    case' Al1 => k_is
    case' Am1 => k_is
    case' Av1 => rfl
    case' Ac1 => k_is
    case' Ak1 => k_is
    case' Ah1 => kernel_rfl
    case' An1 => kernel_rfl
    refine' (fun A_law => ?rA2) (Ws.AtC.mk' (x := "law") (st := Ws.s_law) KX G ?Aa2 ?Al2 ?Am2 ?Av2 ?Ac2 ?Ak2 ?Ah2 ?An2)
    case' Aa2 => k_is
    case' Al2 => k_is
    case' Am2 => k_is
    case' Av2 => rfl
    case' Ac2 => k_is
    case' Ak2 => k_is
    case' Ah2 => kernel_rfl
    case' An2 => kernel_rfl
    refine' (fun E_BR => ?rEBR) (Ws.ErT.mk' (x := "BadRow") (f := "value") (q := "BadRow.__init__") (st := Ws.s_BR) KX G ?eaCBR ?exLBR ?ervBR ?esaBR ?egaBR ?eggBR ?enbBR ?ea1BR ?et1BR ?el1BR ?ec1BR ?ek1BR ?ekCBR ?eeCBR ?etCBR ?ehCBR Ws.hb_BR)
    case' eaCBR => k_is
    case' exLBR => k_is
    case' ervBR => decide +kernel
    case' esaBR => k_is
    case' egaBR => k_is
    case' eggBR => k_is
    case' enbBR => k_is
    case' ea1BR => k_is
    case' et1BR => k_is
    case' el1BR => k_is
    case' ec1BR => k_is
    case' ek1BR => k_is
    case' ekCBR => k_is
    case' eeCBR => k_is
    case' etCBR => k_is
    case' ehCBR => k_is
    refine' (fun E_BQ => ?rEBQ) (Ws.ErT.mk' (x := "BadEquations") (f := "place") (q := "BadEquations.__init__") (st := Ws.s_BQ) KX G ?eaCBQ ?exLBQ ?ervBQ ?esaBQ ?egaBQ ?eggBQ ?enbBQ ?ea1BQ ?et1BQ ?el1BQ ?ec1BQ ?ek1BQ ?ekCBQ ?eeCBQ ?etCBQ ?ehCBQ Ws.hb_BQ)
    case' eaCBQ => k_is
    case' exLBQ => k_is
    case' ervBQ => decide +kernel
    case' esaBQ => k_is
    case' egaBQ => k_is
    case' eggBQ => k_is
    case' enbBQ => k_is
    case' ea1BQ => k_is
    case' et1BQ => k_is
    case' el1BQ => k_is
    case' ec1BQ => k_is
    case' ek1BQ => k_is
    case' ekCBQ => k_is
    case' eeCBQ => k_is
    case' etCBQ => k_is
    case' ehCBQ => k_is
    refine' (fun X_ => ?rX) (Ws.Ex2.mk' KX G E_BR.mgC E_BQ.mgC ?xs1 ?xs3 ?xs4 ⟨?xq0, ?xq1, ?xq2, ?xq3, ?xq4, ?xq5, ?xq6, ?xq7⟩ ⟨?xr0, ?xr1, ?xr2, ?xr3, ?xr4, ?xr5, ?xr6, ?xr7⟩ ?xs5 ?xs6 ?xb2 ?xb3 ?xb4 ?xb5 ?xt2 ?xt3 ?xt4)
    case' xs1 => k_is
    case' xs3 => k_is
    case' xs4 => k_is
    case' xq0 => k_is
    case' xq1 => k_is
    case' xq2 => k_is
    case' xq3 => k_is
    case' xq4 => k_is
    case' xq5 => k_is
    case' xq6 => k_is
    case' xq7 => k_is
    case' xr0 => k_is
    case' xr1 => k_is
    case' xr2 => k_is
    case' xr3 => k_is
    case' xr4 => k_is
    case' xr5 => k_is
    case' xr6 => k_is
    case' xr7 => k_is
    case' xs5 => k_is
    case' xs6 => k_is
    case' xb2 => k_is
    case' xb3 => k_is
    case' xb4 => k_is
    case' xb5 => k_is
    case' xt2 => k_is
    case' xt3 => k_is
    case' xt4 => k_is
    refine' (fun B_ => ?rB) (Ws.Bl.mk' KX G ?z1 ?z2 ?z3 ?z4 ?z5 ?z6 ?z7 ?z8 ?z9 ?z10 ?z11 ?z12 ?z13 ?z14 ?z15 ?z16 ?z17 ?z18)
    case' z1 => k_is
    case' z2 => k_is
    case' z3 => k_is
    case' z4 => k_is
    case' z5 => k_is
    case' z6 => k_is
    case' z7 => k_is
    case' z8 => k_is
    case' z9 => k_is
    case' z10 => k_is
    case' z11 => k_is
    case' z12 => k_is
    case' z13 => k_is
    case' z14 => k_is
    case' z15 => k_is
    case' z16 => k_is
    case' z17 => k_is
    case' z18 => k_is
    refine' (fun C0_ => ?rC0) (Ws.Cs0.mk' (h := h) ?y0)
    case' y0 => exact hX.2.val _ (List.mem_cons_self ..)
    refine' (fun C1_ => ?rC1) (Ws.Cs1.mk' KX G ?y1 ?y2 ?y3)
    case' y1 => k_is
    case' y2 => k_is
    case' y3 => k_is
    refine' (fun C2_ => ?rC2) (Ws.Cs2.mk' KX G ?y4 ?y5)
    case' y4 => k_is
    case' y5 => k_is
    exact Ws.fin KX G hmg own (by decide +kernel) (by decide +kernel) (by decide +kernel) A__law_needed A__law_right A_law (by decide) (by decide) (by decide) B_ C0_ C1_ C2_ E_BR E_BQ X_ ⟨D_is_integer, D_is_between, D_is_tuple_of, D_are_between, D_is_row, D_weighed, D_is_condition, D_value_of, D_is_held, D_are_held, D_level_rows, D_need_equations, D_need_numbers_for, D_homogeneous, D_solves, D__law_mixed, D__law_begin, D__law_draw, D__law_of, D__law_like, D__law_worth, D__law_held, D__law_bare, D__law_condition, D__law_equations, D__law_onto, D__law_caught, D__law_is_number, D__law_is_condition, D__law_fault, D__law_bent_row, D__law_bent, D__law_numbers⟩
