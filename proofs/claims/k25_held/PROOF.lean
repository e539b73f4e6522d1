import PyProof.Rows.All
import Wide.All
import OpenK.AllK
import Wide.FinOn
import KE.GoesMore
import HandS.ForExc
import HandS.ForMost
import HandS.IsInst
import HandS.Walk
import HandS.TupMul
import HandS.TupAny
import HandS.Style
import HandS.ExcInit
import HandS.ExcField
import HandS.TryMany
import HandS.Wide
import HandS.WideBits
import HandS.SortKw
import KE.DataMinMax
import HandS.ExcIs
import HandS.TryOnly
import HandS.WordsExc
import HandS.ExcOwn
import HandS.Ends
import HandS.Lambda
import HandS.Deep
import HandS.SetFor
import HandS.DictComp
import HandS.Conv
import KE.DataAny
import KE.DataFind
import KE.DataEq
import KE.KTupSum
import KE.SortData
import KE.DataCmp
import PyProof.TupleOfSeq
import HandS.ExcValue
import HandS.TupSets
import KE.KDictKeyed
import KE.KeyNested
import HandS.Zip
import HandS.More
import HandS.Defaults
import KE.GoesZip
import KE.KIsAll
import PySem.Challenge.RW_wholesay_k25_whole_unions_sums_stars
set_option Elab.async false
set_option linter.all false
set_option maxRecDepth 100000
set_option maxHeartbeats 2000000
/-! ## Wa -/
/-! enumerate over a tuple -/
namespace Ws
open PySem PySem.Spec PyProof.Rows L2
open AutoSeq1 (wpAny_loadPart')
theorem meets_enum_newT (l : Addr) (items : Array Value) (n : Nat) (dct : Option Addr) (sl : Array (Option Value)) :
    Meets (Builtin.«enumerate.__new__» ⟨[.type "enumerate", .ref l], []⟩) (fun _ R s => s.heap.get? l = some { cls := .type "tuple", dict := dct, data := .seq items n, slots := sl } ∧
      R (.ok (.ret (.ref (s.heap.push { cls := .type "tuple_iterator", data := .fields #[.ref l, .int 0 0] }).objs.size)))
        { s with heap := (s.heap.push { cls := .type "tuple_iterator", data := .fields #[.ref l, .int 0 0] }).push { cls := .type "enumerate", data := .fields #[.none, .bool false, .ref s.heap.objs.size, rawInt 0, .none, .none] } }) :=
  .of_wp fun prog w A R s h => by
    obtain ⟨hp, g, d, tk, os⟩ := s; obtain ⟨hl, h⟩ := h
    have hsub := sub_enumerate
    have hL : Heap.IsTuple (Shared.heap ⟨hp, g, d, tk, os⟩) l items := ⟨_, hl, rfl, n, rfl⟩
    wp_walk using wpAny_loadPart' hl
    refine wpAny_stack_any fun st => wpAny_pure ?_
    split
    · rename_i c _ _ _ _ _
      cases (c == Value.type "enumerate")
      · wp_walk using wpAny_loadPart' hl, wpAny_pyIter_tuple hL
        exact ⟨_, rfl, h⟩
      · wp_walk using wpAny_loadPart' hl, wpAny_pyIter_tuple hL
        exact ⟨_, rfl, h⟩
    · wp_walk using wpAny_loadPart' hl, wpAny_pyIter_tuple hL
      exact ⟨_, rfl, h⟩
section
variable {prog : Program} {w : World} {A : Around} {E : Value → Shared → Prop} {s : Shared}
theorem call_enum_tup {l : Addr} {items : Array Value} {Q : Value → Shared → Prop} (hL : s.heap.IsTuple l items)
    (h : ∀ h', IsEnum h' (s.heap.objs.size + 1) s.heap.objs.size 0 .none → h'.IsTupleIter s.heap.objs.size l 0 → h'.objs.size = s.heap.objs.size + 2 →
      (∀ b o, s.heap.get? b = some o → h'.get? b = some o) → Q (.ref (s.heap.objs.size + 1)) { s with heap := h' }) :
    wpAny (model prog w) A (call (.type "enumerate") [.ref l]) Q E s := by
  obtain ⟨⟨c, dct, dt, sl⟩, hl, hc, n, hd⟩ := hL
  replace hc : c = .type "tuple" := hc
  replace hd : dt = .seq items n := hd
  subst hc hd
  refine callType_new F.called_enumerate (by decide) (F.typeCall_enumerate_1 _) (F.newCall_enumerate_1 _) (fun obj => F.args_object_init_2 obj _) F.entry_enumerate_new
    (meets_enum_newT l items n dct sl) ⟨hl, ?_⟩
  have hz : (s.heap.push { cls := .type "tuple_iterator", data := .fields #[.ref l, .int 0 0] }).objs.size = s.heap.objs.size + 1 := Heap.size_push ..
  show _ ∧ _
  rw [hz]
  have he : IsEnum ((s.heap.push { cls := .type "tuple_iterator", data := .fields #[.ref l, .int 0 0] }).push
      { cls := .type "enumerate", data := .fields #[.none, .bool false, .ref s.heap.objs.size, rawInt 0, .none, .none] }) (s.heap.objs.size + 1) s.heap.objs.size 0 .none := by
    have := Heap.get?_push_size (s.heap.push { cls := .type "tuple_iterator", data := .fields #[.ref l, .int 0 0] })
      (o := { cls := .type "enumerate", data := .fields #[.none, .bool false, .ref s.heap.objs.size, rawInt 0, .none, .none] }) rfl
    rw [hz] at this; exact this
  refine ⟨⟨_, he, rfl⟩, h _ he ⟨_, Heap.get?_push_of_some _ (Heap.get?_push_size _ rfl), rfl, rfl⟩ (by rw [Heap.size_push, hz]) fun b o x => Heap.get?_push_of_some _ (Heap.get?_push_of_some _ x)⟩
end
/-- the tuple at a as it stands at each turn, each item in a new pair -/
def Iteu (K : PySem.W.Frag) (a : Addr) : It :=
  ⟨fun i H => ∃ (xs : List V) (x : V), SqT K H a xs ∧ xs[i]? = some x, fun i H v H' => ∃ T x, v = .ref T ∧ H T = none ∧ H' = upd H T (.tup [.int (i : Nat), x]) ∧ ∀ xs, SqT K H a xs → xs[i]? = some x, fun i H => ∃ xs : List V, SqT K H a xs ∧ xs.length ≤ i⟩
theorem turn_enumT {P : Program} {w : World} {K : PySem.W.Frag} {elts : List Expr} {kk : Nat} {tpos : Pos} (a e it : Addr) :
    Turn P w K (.Tuple elts kk tpos) (Iteu K a) [e, it] e (fun i h => (∃ old, IsEnum h e it ((i : Nat) : Int) old) ∧ h.IsTupleIter it a i ∧ e ≠ it) where
  mem := by simp
  obj := fun i h st b hb => by
    obtain ⟨⟨old, he⟩, ⟨o, ho, hc, hd⟩, _⟩ := st
    have e' : b = e ∨ b = it := by simpa using hb
    rcases e' with z | z
    · rw [z]; exact ⟨_, he, fun v q => nomatch q⟩
    · rw [z]; exact ⟨o, ho, fun v q => by rw [hd] at q; cases q⟩
  keep := fun i h h' st k => let ⟨⟨old, he⟩, hi, hne⟩ := st; ⟨⟨old, k e (by simp) _ he⟩, hi.at fun o q => k it (by simp) o q, hne⟩
  item := by
    intro X hP hw hK hc i pins s σ H E I hf st hg
    subst hP hw hK
    obtain ⟨⟨old, he⟩, hit, hne⟩ := st
    obtain ⟨xs, x, hq, hx⟩ := hg
    obtain ⟨its, rv, p, hz⟩ := I.tuple hq
    obtain ⟨u, hu, ru⟩ := rv.get hx
    have hel : e < s.heap.objs.size := Heap.lt_size he
    have hil : it < s.heap.objs.size := by obtain ⟨_, q, _⟩ := hit; exact Heap.lt_size q
    have hae : a ≠ e := fun z => by
      obtain ⟨o, q, _, n, d⟩ := p
      rw [z, he] at q; cases q; cases d
    have hai : a ≠ it := fun z => by
      obtain ⟨o, q, _, n, d⟩ := p
      obtain ⟨o2, q2, _, d2⟩ := hit
      rw [z, q2] at q; cases q; rw [d2] at d; cases d
    have hlen : i < its.toArray.size := by
      have := (List.getElem?_eq_some_iff.mp hu).1
      simpa using this
    refine wpAny_pyNext_enum_itemD (Draws.tuple (A := X.A.in1) (I.ok.hd hc) it a hai its.toArray) he ⟨hit, p⟩ hlen hne (by simp only [List.mem_cons, List.not_mem_nil, or_false, not_or]; exact ⟨hne, Ne.symm hae⟩) fun x' h' tk hP ho hit' hT hsz hk => ?_
    have ex : x' = u := by
      have q : its.toArray[i]? = some x' := hP
      have q2 : its.toArray[i]? = some u := by simpa using hu
      rw [q2] at q
      exact (Option.some.inj q).symm
    subst ex
    refine ⟨_, rfl, wpAny_letOwnedTupleGo_enum (s := { s with heap := h', toks := tk + 1 }) ho fun h'' he' sb => ?_⟩
    have hT2 : h''.get? s.heap.objs.size = some { cls := .type "tuple", data := .seq #[.int i tk, x'] } := (sb.2 _ (Nat.ne_of_gt hel)).trans hT
    have new : ObjOk X.prog X.w (upd H s.heap.objs.size (.tup [.int (i : Nat), x])) h'' s.heap.objs.size (.tup [.int (i : Nat), x]) :=
      ⟨by show 2 ≤ sizeLine; decide, [.int i tk, x'], .cons ⟨_, rfl⟩ (.cons ru .nil), ⟨_, hT2, rfl, _, rfl⟩⟩
    have I1 : Inv X pins σ (upd H s.heap.objs.size (.tup [.int (i : Nat), x])) { s with heap := h'', toks := tk + 1 } :=
      I.turnedNew (ch := [e, it]) (fun b ob hb q => (sb.2 b (fun z => hb (by simp [z]))).trans (hk b ob (fun z => hb (by simp [z])) (fun z => hb (by simp [z])) q)) hf (Nat.le_refl _) new
    refine ⟨.ref s.heap.objs.size, _, I1, rfl, ⟨_, x, rfl, I.hok.fresh (Nat.le_refl _), rfl, fun ys hy => by rw [I.tuple_inj hy hq]; exact hx⟩, ⟨⟨x', ?_⟩, hit'.1.at fun o q => (sb.2 it (Ne.symm hne)).trans q, hne⟩, fun b hb => ?_⟩
    · have e1 : ((i + 1 : Nat) : Int) = (i : Int) + 1 := by omega
      rw [e1]; exact he'
    · have hb' : b < s.heap.objs.size := by
        have e' : b = e ∨ b = it := by simpa using hb
        rcases e' with z | z
        · rw [z]; exact hel
        · rw [z]; exact hil
      rw [upd_ne (Nat.ne_of_lt hb')]
      exact (hf b hb).1
  done := by
    intro X hP hw hK hc i pins s σ H E I hf st hg
    subst hP hw hK
    obtain ⟨⟨old, he⟩, hit, hne⟩ := st
    obtain ⟨xs, hq, hx⟩ := hg
    obtain ⟨its, rv, p, hz⟩ := I.tuple hq
    obtain ⟨f0, f1, f2, f3, f4, f5⟩ := hf it (by simp)
    have hl := rv.length
    have hai : a ≠ it := fun z => by
      obtain ⟨o, q, _, n, d⟩ := p
      obtain ⟨o2, q2, _, d2⟩ := hit
      rw [z, q2] at q; cases q; rw [d2] at d; cases d
    have hT : s.TypeIs (.ref e) "enumerate" := ⟨_, he, rfl⟩
    unfold pyNext
    refine wpAny_bind (wpAny_attempt (wpAny_callSpecial?_slot (name := Str.ofString "__next__") hT F.slot_enumerate_next
      (wpAny_call_entry F.slot_enumerate_next hT F.entry_enumerate_next ?_ (F.args_enumerate_next_1 _))))
    show wpAny _ _ (field (.ref e) 2 >>= _) _ _ _
    refine wpAny_bind (wpAny_field he rfl (x := .ref it) rfl ?_)
    refine wpAny_bind (wpAny_nextOf_tuple_end (A := X.A.in1) (I.ok.hd hc) hit p (by simp; omega) fun h' x he' hx' => ?_)
    obtain ⟨o, ho, hc'⟩ := hx'
    refine wpAny_bind (wpAny_isInstance (T := "StopIteration") (b := true) ⟨o, ho, hc'⟩ isSubtype_stop ?_)
    exact wpAny_pure ⟨rfl, I.turned (t' := s.toks) (fun b o hb q => he' b o hb q) f0 f1 f3 f4 f5⟩
  self := fun A i s Q E st h => let ⟨⟨_, he⟩, _⟩ := st; wpAny_pyIter_enum he h
def iEnumT (K : PySem.W.Frag) (ta : TA) : TI := fun σ H R => ta σ H fun vs H1 => ∃ a xs, vs = [.ref a] ∧ SqT K H1 a xs ∧ R (Iteu K a) H1
theorem pi_enumT {X : Cx} {e : Expr} {ta : TA} {p pos tpos : Pos} {elts : List Expr} {kk : Nat} (hg : Gl X "enumerate") (hm : X.mg "enumerate" = none) (ha : PA X [e] ta) (hs : starEach [e] X.env = [(false, eval e X.env)] := by rfl) :
    PI X (.Tuple elts kk tpos) (.Call (.Name "enumerate" p) [e] [] pos) (iEnumT X.K ta) := by
  refine ⟨fun pins s σ H R I h => ?_⟩
  refine Call_ (ld_blt I hg hm boot_enumerate (PyProof.Rows.callWith_type1 (thn (ha.run pos pins s σ H _ I h) fun us s1 ⟨vs, H1, I1, r1, q1⟩ => ?_) hs rfl))
  obtain ⟨a, xs, ex, hq, q⟩ := q1
  subst ex
  cases r1 with
  | cons r rr =>
    cases rr
    cases r
    obtain ⟨its, rv, p', hz⟩ := I1.tuple hq
    refine call_enum_tup p' fun h' he hit hsz hk => wpAny_pyIter_enum he ?_
    have I2 : Inv X pins σ H1 { s1 with heap := h' } := I1.kept (t' := s1.toks) hk
    refine ⟨s1.heap.objs.size + 1, [s1.heap.objs.size + 1, s1.heap.objs.size], _, _, H1, rfl, I2, turn_enumT a (s1.heap.objs.size + 1) s1.heap.objs.size, ⟨⟨.none, he⟩, hit, Nat.succ_ne_self _⟩, fun b hb => ?_, q⟩
    have e' : b = s1.heap.objs.size + 1 ∨ b = s1.heap.objs.size := by simpa using hb
    have hle : s1.heap.objs.size ≤ b := by
      rcases e' with z | z
      · rw [z]; exact Nat.le_add_right _ _
      · rw [z]; exact Nat.le_refl _
    exact I1.fpOk hle (I1.hok.fresh hle)
theorem walk_enumT {K : PySem.W.Frag} {a : Addr} {xs : List V} : Walk (Iteu K a) xs.length (fun H => SqT K H a xs) (YPair (fun i => some (.int (i : Nat))) (fun i => xs[i]?)) := by
  refine ⟨fun i _ hi q => ⟨xs, xs[i], q, by simp [hi]⟩, fun _ q => ⟨xs, q, Nat.le_refl _⟩, fun i H v H' _ q y => ?_⟩
  obtain ⟨T, x, h1, h2, h3, h4⟩ := y
  exact ⟨T, .int (i : Nat), x, h1, h2, h3, rfl, h4 xs q⟩
end Ws
/-! ## Wb -/
namespace Ws
open PySem PySem.Spec PyProof.Rows L2
/-! ### defs that know that no guard runs around them (for repr) -/
structure FnOkG (P : Program) (w : World) (K : PySem.W.Frag) (mg : Str → Option Value) (base : Heap) (CX : CXT) (k : Nat) (f : Addr) (fd : FuncData) (ps : List Str) (sp : Sp) : Prop where
  len : ∀ vs H Q E, sp vs H Q E → vs.length = ps.length
  run : ∀ (A : Around) (outer : List Env) (s : Shared) (H : Hp) (args : Args) (us : List Value) (vs : List V) (Q : VK) (E : XK), A.guards = some [] → Room k A → Env0 P w K mg base A outer s H → BindsTo s fd args (ps.zip us) → Vals vs us → sp vs H Q E →
    codeAny (model P w) A (.call (.ref f) args) (CR CX outer P w H s Q E) s
theorem FnOkG.of {P : Program} {w : World} {K : PySem.W.Frag} {mg : Str → Option Value} {base : Heap} {CX : CXT} {k : Nat} {f : Addr} {fd : FuncData} {ps : List Str} {sp : Sp} (F : FnOk P w K mg base CX k f fd ps sp) : FnOkG P w K mg base CX k f fd ps sp :=
  ⟨F.len, fun A outer s H args us vs Q E _ hr he hb hv hs => F.run A outer s H args us vs Q E hr he hb hv hs⟩
theorem fn_ofG {CX : CXT} {P : Program} {w : World} {K : PySem.W.Frag} {mg : Str → Option Value} {base : Heap} {k : Nat} {f : Addr} {name qual : Str} {params : Arguments} {body : List Stmt} {scope : Scope} {dV kV doc pm cdv ct oc : Value} {an od : Option Addr}
    {osl : Array (Option Value)} {N ps : List Str} {sp : Sp} (lk : K.lookup f = some ⟨oc, od, .func (PySem.W.fnOf name qual params body scope dV kV doc pm an cdv ct), osl⟩) (hcd : PySem.W.codeIn K cdv qual = true) (S : FnScope N ps scope)
    (len : ∀ vs H Q E, sp vs H Q E → vs.length = ps.length)
    (hbody : ∀ (A : Around) (outer : List Env) (s : Shared) (H : Hp) (vs : List V) (Q : VK) (E : XK), A.guards = some [] → Room k (A.deeper (envOfC qual scope s.heap.objs.size f cdv)) → sp vs H Q E →
      ∃ t, PSs (cxOf CX P w K mg base N qual scope f cdv A outer s H E) body t ∧ t { nx := fun _ H' => Q .non H', rt := Q } (start N vs) H) :
    FnOkG P w K mg base CX (k + 1) f (PySem.W.fnOf name qual params body scope dV kV doc pm an cdv ct) ps sp := by
  refine ⟨len, fun A outer s H args us vs Q E hG hr e0 hb r hsp => ?_⟩
  have hl := len _ _ _ _ hsp
  have KX : K.In s.heap := e0.mod.kin.keeps fun b o e => (e0.bs b o e).1
  have lim : s.heap.NoLimit := e0.mod.nolimit.keeps fun b o e => (e0.bs b o e).1
  have hkind : ∀ y ∈ ps.zip us, scope.names.lookup y.1 = some .local ∨ (scope.names.lookup y.1 = some .cell ∧ ((cellsFrom (s.heap.objs.size + 1) scope.names []).lookup y.1).isSome = true) := fun ⟨n, v⟩ hy => by
    rcases S.par n (List.of_mem_zip hy).1 with q | q
    · exact .inl q
    · exact .inr ⟨q, PySem.W.cellsFrom_some _ _ _ (.inl q)⟩
  refine codeAny_call_function hr.depth (KX _ _ lk) rfl S.co S.gen rfl (PySem.W.codeRec_of KX hcd) (hb _ _ _ _ ?_)
  refine wpAny_newFunctionEnv_cells S.kind hkind fun env he s1 x => ?_
  subst he
  refine ⟨lim.keeps x.toInCall.keep, codeAny_func ?_⟩
  obtain ⟨t, ht, hq⟩ := hbody A outer s H vs Q E hG (hr.deeper _) hsp
  have I : Inv (cxOf CX P w K mg base N qual scope f cdv A outer s H E) [] (start N vs) H s1 := inv_start S hr.hd e0 hl r x
  refine wpAny_mono (ht.run [] s1 (start N vs) H _ I hq) (fun fl s' hs => ?_) fun e s' hs => hs
  have fin : ∀ {σ' : L2.St} {H' : Hp} {v : V} {u : Value}, Inv (cxOf CX P w K mg base N qual scope f cdv A outer s H E) [] σ' H' s' → RelV v u → Q v H' → CE outer P w H s Q u s' :=
    fun {σ' H' v u} J rv q => ⟨v, H', J.os, J.bare, J.base, J.hok, rv, q⟩
  cases fl with
  | ret u =>
    obtain ⟨v, σ', H', J, rv, q⟩ := hs
    exact fin J rv q
  | next =>
    obtain ⟨σ', H', J, q⟩ := hs
    exact fin (v := V.non) (u := Value.none) J rfl q
  | brk =>
    obtain ⟨_, _, _, q⟩ := hs
    exact False.elim q
  | cont =>
    obtain ⟨_, _, _, q⟩ := hs
    exact False.elim q
section
variable {X : Cx} {CX : CXT} {k : Nat} {f : Addr} {fd : FuncData} {ps : List Str} {sp : Sp} {E : XK} {x : Str} {p pos : Pos} {e : Expr} {es : List Expr} {t : TA}
theorem run_fnG {pins : List (Addr × Obj)} {σ : L2.St} {H : Hp} {s : Shared} {Q : VK} {us : List Value} {vs : List V} (F : FnOkG X.prog X.w X.K X.mg X.base CX k f fd ps sp) (hG : X.A.guards = some []) (hr : Room k X.A) (hb : Binds X.K fd ps []) (hx : Passes CX X E)
    (I : Inv X pins σ H s) (r : Vals vs us) (h : sp vs H Q E) : wpAny (model X.prog X.w) X.A (call (.ref f) us) (EP X pins σ Q) X.xe s := by
  have hl : (us ++ []).length = ps.length := by rw [List.append_nil, ← r.length]; exact F.len _ _ _ _ h
  refine wpAny_call (codeAny_mono (F.run X.A X.stack s H ⟨us, []⟩ us vs Q E hG hr I.env0 (by have := hb s us I.kIn hl; rw [List.append_nil] at this; exact this) r h) fun r s' hq => ?_)
  cases r with
  | error e => exact hx pins σ H s e s' I hq
  | ok fl =>
    cases fl with
    | ret u => exact I.after hq
    | next => exact False.elim hq
    | brk => exact False.elim hq
    | cont => exact False.elim hq
/-- f(..) without defaults -/
def tCa (sp : Sp) (E : XK) (t : TA) : TE := fun σ H Q => t σ H fun vs H1 => sp vs H1 Q E
theorem pe_callG (F : FnOkG X.prog X.w X.K X.mg X.base CX k f fd ps sp) (hG : X.A.guards = some []) (hr : Room k X.A) (hg : Gl X x) (hm : X.mg x = some (.ref f)) (hk : PySem.W.keepIn X.K (.ref f) = true) (hb : Binds X.K fd ps []) (hx : Passes CX X E)
    (ha : PA X (e :: es) t) (hdb : (x == ("__debug__" : Str)) = false := by decide) (he : starEach (e :: es) X.env = (false, eval e X.env) :: starEach es X.env := by rfl) (hpl : (backTo pos (starEach es X.env)).any (·.1) = false := by rfl) :
    PE X (.Call (.Name x p) (e :: es) [] pos) (tCa sp E t) := by
  refine ⟨fun pins s σ H Q I h => ?_⟩
  refine wpAny_Call_Name_kw (ld_glob I hg hm ?_ hdb)
  refine PySem.W.callWith_K (h₀ := X.base) I.ok.mod.kin hk (thn (ha.run pos pins s σ H _ I h) fun us s1 ⟨vs, H1, I1, r, q⟩ => ⟨I1.kIn, ?_⟩) he hpl
  exact run_fnG F hG hr hb hx I1 r q
end
/-! ### repr of data -/
theorem call_reprD {X : Cx} (hG : X.A.guards = some []) (hu : X.A.units + 64 < cLine) : CallR X (.builtin "repr") (fun xs H Q => ∃ v d, xs = [v] ∧ Dp X.K H v d ∧ d.showable = true ∧ d.hasDict = false ∧ d.depth ≤ 60 ∧ d.shown.length ≤ sizeLine ∧ Q (.str d.shown) H) := by
  intro pins s σ H xs us Q I r h
  obtain ⟨v, d, rfl, hd, h1, h2, h3, h4, q⟩ := h
  obtain ⟨u, rfl, ru⟩ := vals1 r
  cases hd with
  | non =>
    cases ru
    exact PySem.P.repr_of_none ⟨.str _, H, I.tok _, ⟨_, rfl⟩, q⟩
  | bl b =>
    cases ru
    exact PySem.P.repr_of_bool ⟨.str _, H, I.tok _, ⟨_, rfl⟩, q⟩
  | int i =>
    obtain ⟨t, rfl⟩ := ru
    exact PySem.P.repr_of_int (by simpa [PyData.showable] using h1) ⟨.str _, H, I.tok _, ⟨_, rfl⟩, q⟩
  | str x =>
    obtain ⟨t, rfl⟩ := ru
    exact PySem.P.repr_of_str ⟨.str _, H, I.tok _, ⟨_, rfl⟩, q⟩ h4
  | lst hs ha =>
    obtain ⟨as, rd⟩ := Dp.reads I _ _ u (.lst hs ha) ru
    cases ru
    exact repr_of_reads' rd h1 (PyData.noDict_hsm h2) hG (by omega) (fun _ _ e => e) (fun h' u tk hk => ⟨.str _, H, I.kept hk, ⟨_, rfl⟩, q⟩) h4
  | tup hs ha =>
    obtain ⟨as, rd⟩ := Dp.reads I _ _ u (.tup hs ha) ru
    cases ru
    exact repr_of_reads' rd h1 (PyData.noDict_hsm h2) hG (by omega) (fun _ _ e => e) (fun h' u tk hk => ⟨.str _, H, I.kept hk, ⟨_, rfl⟩, q⟩) h4
end Ws
/-! ## Wc -/
namespace Ws
open PySem PySem.Spec PyProof.Rows L2
/-! ### several except clauses that name their error, by one name in slot i -/
def suiteEnds (D : Ends) (i : Nat) : Ends := { nx := fun σ' H' => D.nx (σ'.set i none) H', rt := D.rt, bk := fun σ' H' => D.bk (σ'.set i none) H', ct := fun σ' H' => D.ct (σ'.set i none) H' }
def wManyA (K : PySem.W.Frag) (i : Nat) (Wout : WX) (D : Ends) : List (Value × (Addr → Value → Option Addr → TS)) → WX
  | [] => Wout
  | (c, ts) :: r => fun cls d σ H => ∃ b, PySem.W.exmOne K cls c = some b ∧ (b = true → ∀ a, H a = none → ts a cls d (suiteEnds D i) (σ.set i (some (.ref a))) H) ∧ (b = false → wManyA K i Wout D r cls d σ H)
inductive HdsA (X : Cx) (n : Str) : List ExceptHandler → List (Value × (Addr → Value → Option Addr → TS)) → Prop
  | nil : HdsA X n [] []
  | cons {x : Str} {c : Value} {ts : Addr → Value → Option Addr → TS} {b₀ : Stmt} {suite : List Stmt} {np pos' : Pos} {hds : List ExceptHandler} {l : List (Value × (Addr → Value → Option Addr → TS))} (hc : Names X x c)
      (hsu : ∀ (a : Addr) (oe : Obj) (cls : Value) (d : Option Addr) (pn : List (Addr × Obj)), Zc cls d oe → (∃ vs, oe.data = .fields vs) → PSs (X.suite a ((a, oe) :: pn)) (b₀ :: suite) (ts a cls d)) (r : HdsA X n hds l) :
      HdsA X n (.ExceptHandler (some (.Name x np)) (some n) (b₀ :: suite) pos' :: hds) ((c, ts) :: l)
section
variable {X : Cx} {n : Str} {i : Nat} {body : List Stmt} {h₀ : ExceptHandler} {hds : List ExceptHandler} {l : List (Value × (Addr → Value → Option Addr → TS))} {pos : Pos} {tb : WX → TS} {Wout : WX}
theorem ps_try_manyA (hs : X.stack = X.env :: X.outer) (hf : X.env.frame = some X.env.locals) (hN : X.N.Nodup) (hi : X.N[i]? = some n) (hln : X.env.kindOf n = some .local) (tk : Takes X Wout)
    (hb : ∀ (W : WX) (pn : List (Addr × Obj)) (xe : Value → Shared → Prop), Takes (X.tr pn xe) W → PassesOwn (model X.prog X.w) X.A X.env xe → PSs (X.tr pn xe) body (tb W))
    (hh : HdsA X n (h₀ :: hds) l) : PS X (.Try body (h₀ :: hds) [] [] pos) (fun D σ H => tb (wManyA X.K i Wout D l) D σ H) := by
  refine ⟨fun pins s σ H D I h => ?_⟩
  have ok := I.ok
  have hfr : X.A.frames = some (X.env :: X.outer) := by rw [ok.frames, hs]
  have hloc : Loc X.env.scope n := .inl hln
  refine wpAny_Try_except ?_
  refine wpAny_mono ((hb (wManyA X.K i Wout D l) (X.pn ++ pins) (fun e s₁ => wpAny (model X.prog X.w) X.A (noteFrame e X.env) (fun _ s₂ => wpAny (model X.prog X.w) X.A (setFlight e none) (fun _ s₃ =>
    wpAny (model X.prog X.w) X.A (handleBy e X.env (h₀ :: hds)) (SP X pins D) X.xe s₃) X.xe s₂) X.xe s₁) (fun u s' xx => ?_) PassesOwn.looking).run [] s σ H D (I.toTry _) h) (fun f s1 hsp => ?_) (fun e s1 he => he)
  · -- the catch
    obtain ⟨a, B, sI, pins', σ', H', cls, d, rfl, J', nb, up, sky, na, os, ag, w⟩ := xx
    have J : Inv X pins σ' H' sI := J'.ofTry ok
    have sky' : Sky B (X.env :: X.outer) a (Zc cls d) X.env.locals s'.heap := by rw [← hs]; exact sky
    show wpAny (model X.prog X.w) X.A (noteFrame (.ref a) X.env) _ _ _
    refine Sky.land Zc.steady hfr hf sky' fun h3 fl3 up3 => ?_
    have J3 : Inv X pins σ' H' { s' with heap := h3 } := J.landed nb fl3.1 (up.trans up3) os ag
    obtain ⟨oe3, vs3, he3, hz3, hd3⟩ := fl3.there
    have notFr : ∀ {h : Heap} {o : Obj} {vs : Array Value}, h.FunFrames B (X.env :: X.outer) → h.get? a = some o → o.data = .fields vs → a ∉ frs (X.env :: X.outer) := fun {h o vs} ff e dd hm => by
      obtain ⟨_, o', e', hnf⟩ := ff.mem hm
      rw [e] at e'; cases e'
      exact hnf _ dd
    have nfr := notFr fl3.2.2.1 he3 hd3
    have nL : a ≠ X.env.locals := fun z => nfr (List.mem_filterMap.mpr ⟨X.env, List.mem_cons_self, by rw [hf, z]⟩)
    have nF : a ∉ X.fs := fun hm => by
      obtain ⟨e, he, q⟩ := List.mem_filterMap.mp hm
      exact nfr (List.mem_filterMap.mpr ⟨e, List.mem_cons_of_mem _ he, q⟩)
    have S3 := J3.suite he3 hd3 na nL nF
    have go : ∀ {hds' : List ExceptHandler} {l' : List (Value × (Addr → Value → Option Addr → TS))}, HdsA X n hds' l' → wManyA X.K i Wout D l' cls d σ' H' →
        wpAny (model X.prog X.w) X.A (handleBy (.ref a) X.env hds') (SP X pins D) X.xe { s' with heap := h3 } := by
      intro hds' l' hk
      induction hk with
      | nil =>
        intro w
        refine wpAny_handleBy_nil ?_
        obtain ⟨k1, k2, k3, oe, vs, T, oT, ts', he, hz, hd, h1, hr⟩ := id fl3
        unfold PySem.passOn
        refine wpAny_bind (wpAny_field he hd h1 ?_)
        rw [if_neg (show ¬ ((Value.ref T == Value.none) = true) from by simp)]
        have fin : wpAny (model X.prog X.w) X.A (setFlight (.ref a) X.env.frame) (fun _ s4 => wpAny (model X.prog X.w) X.A (throw (.ref a) : Sem Flow) (SP X pins D) X.xe s4) X.xe { s' with heap := h3 } := by
          rw [hf]
          refine HandSPX.setFlight_upZ fl3 fun h4 hh4 up4 => wpAny_throw (tk _ _ ?_)
          exact ⟨a, B, sI, pins, σ', H', cls, d, rfl, J, nb, (up.trans up3).trans up4, .inr (.inr (by rw [hs]; exact hh4)), na, os, ag, w⟩
        first
          | exact wpAny_bind (wpAny_pure (wpAny_bind fin))
          | exact wpAny_bind fin
      | @cons x c ts b₀ suite np pos' hds2 l2 hc hsu r ih =>
        intro w
        obtain ⟨b, hb1, hyes, hno⟩ := w
        refine wpAny_handleBy_cons (codeAny_handlers_test ?_) (by intro q; cases q)
        have LT : PySem.W.Looks (model X.prog X.w) h3 (typeOf (.ref a)) cls := fun A Q E s k q => wpAny_typeOf_ref (k _ _ he3) (by rw [hz3.1]; exact q)
        have LM := PySem.W.exm_one (M := model X.prog X.w) (J3.kIn) LT hb1
        have test : ∀ {Q : Value → Shared → Prop} {E : Value → Shared → Prop}, Q c { s' with heap := h3 } → wpAny (model X.prog X.w) (X.A.mark (some (.ref a))) (eval (.Name x np) X.env) Q E { s' with heap := h3 } := fun {Q E} q => by
          obtain ⟨hg, hdbg, hm | ⟨hm, hv, hnn⟩⟩ := hc
          · exact ld_glob (X := X.suite a ((a, oe3) :: (X.pn ++ pins))) S3 hg hm q hdbg
          · exact ld_blt (X := X.suite a ((a, oe3) :: (X.pn ++ pins))) S3 hg hm hv q hnn hdbg
        refine test (LM.here ?_)
        cases b with
        | true =>
          refine codeAny_handlers_suite_as ?_
          refine HandSPX.lands_againZ fl3 fun h4 fl4 up4 => ?_
          have J4 : Inv X pins σ' H' { s' with heap := h4 } := J.landed nb fl4.1 ((up.trans up3).trans up4) os ag
          obtain ⟨oe4, vs4, he4, hz4, hd4⟩ := fl4.there
          have S4 := J4.suite he4 hd4 na nL nF
          refine store_ok (X := X.suite a ((a, oe4) :: (X.pn ++ pins))) (v := .ref a) S4 hN hi hloc rfl (fun s5 S5 => ?_) (.inr hln)
          refine wpAny_mono ((hsu a oe4 cls d (X.pn ++ pins) hz4 ⟨_, hd4⟩).run [] s5 _ H' _ S5 (hyes rfl a na)) (fun f s6 hsp => ?_) (fun _ _ z => False.elim z)
          have end_ : ∀ {σ6 : L2.St} {H6 : Hp} {Q : Shared → Prop}, Inv (X.suite a ((a, oe4) :: (X.pn ++ pins))) [] σ6 H6 s6 → (∀ s7, Inv X pins (σ6.set i none) H6 s7 → Q s7) →
              wpAny (model X.prog X.w) X.A (do bindName X.env n .none; unbindBehindTheSuite X.env n pos') (fun _ s7 => Q s7) X.xe s6 := fun {σ6 H6 Q} S6 hq => gone_ok (S6.unsuite ok) hN hi hln hq
          cases f with
          | next =>
            obtain ⟨σ6, H6, S6, q6⟩ := hsp
            exact end_ S6 fun s7 J7 => ⟨_, _, J7, q6⟩
          | brk =>
            obtain ⟨σ6, H6, S6, q6⟩ := hsp
            exact end_ S6 fun s7 J7 => ⟨_, _, J7, q6⟩
          | cont =>
            obtain ⟨σ6, H6, S6, q6⟩ := hsp
            exact end_ S6 fun s7 J7 => ⟨_, _, J7, q6⟩
          | ret u =>
            obtain ⟨v6, σ6, H6, S6, r6, q6⟩ := hsp
            exact end_ S6 fun s7 J7 => ⟨_, _, _, J7, r6, q6⟩
        | false =>
          show wpAny _ X.A (handleBy (.ref a) X.env hds2) _ _ _
          exact ih (hno rfl)
    exact go hh w
  · cases f with
    | next =>
      obtain ⟨σ', H', J', q⟩ := hsp
      exact wpAny_execs_nil ⟨σ', H', J'.ofTry ok, q⟩
    | brk =>
      obtain ⟨σ', H', J', q⟩ := hsp
      exact ⟨σ', H', J'.ofTry ok, q⟩
    | cont =>
      obtain ⟨σ', H', J', q⟩ := hsp
      exact ⟨σ', H', J'.ofTry ok, q⟩
    | ret u =>
      obtain ⟨v, σ', H', J', r, q⟩ := hsp
      exact ⟨v, σ', H', J'.ofTry ok, r, q⟩
end
end Ws
/-! ## Wd -/
namespace L2
open PySem PySem.Spec PyProof.Rows
/-! ### data and heaps -/
theorem Same.seqT {K : PySem.W.Frag} {H H' : Hp} {a : Addr} {xs : List V} (e : Same H H') (h : SqT K H a xs) : SqT K H' a xs := by
  rcases h with (h | ⟨o, h⟩) | h
  · exact .inl (.inl (e _ _ h))
  · exact .inl (.inr ⟨o, e _ _ h⟩)
  · exact .inr h
theorem Same.new {H : Hp} {p : Addr} {o : HO} (h : H p = none) : Same H (upd H p o) := fun b u e => by
  rw [upd_ne (ne_of_none e h)]
  exact e
/-- what H does not know may change -/
theorem Same.mut {H H' : Hp} {p : Addr} {o : HO} (e : Same H H') (h : H p = none) : Same H (upd H' p o) := fun b u hb => by
  rw [upd_ne (ne_of_none hb h)]
  exact e b u hb
theorem Same.then_new {H H' : Hp} {p : Addr} {o : HO} (e : Same H H') (h : H' p = none) : Same H (upd H' p o) := Same.trans e (Same.new h)
section
variable {K : PySem.W.Frag} {H H' : Hp}
mutual
theorem Dp.same (e : Same H H') : ∀ (d : PyData) (v : V), Dp K H v d → Dp K H' v d
  | .none, _, h => by cases h; exact .non
  | .bool b, _, h => by cases h; exact .bl b
  | .int i, _, h => by cases h; exact .int i
  | .str x, _, h => by cases h; exact .str x
  | .list ds, _, h => by
    cases h with
    | lst hs ha => exact .lst (e.seq hs) (Dp.sameAll e ds _ ha)
  | .tuple ds, _, h => by
    cases h with
    | tup hs ha => exact .tup (Same.seqT e hs) (Dp.sameAll e ds _ ha)
  | .dict _, _, h => by cases h
theorem Dp.sameAll (e : Same H H') : ∀ (ds : List PyData) (vs : List V), DpAll K H vs ds → DpAll K H' vs ds
  | [], _, h => by cases h; exact .nil
  | d :: ds, _, h => by
    cases h with
    | cons h1 h2 => exact .cons (Dp.same e d _ h1) (Dp.sameAll e ds _ h2)
end
theorem Dp.to {v : V} {d : PyData} (h : Dp K H v d) (e : Same H H') : Dp K H' v d := Dp.same e d v h
theorem DpAll.to {vs : List V} {ds : List PyData} (h : DpAll K H vs ds) (e : Same H H') : DpAll K H' vs ds := Dp.sameAll e ds vs h
theorem DpAll.length : ∀ {ds : List PyData} {vs : List V}, DpAll K H vs ds → vs.length = ds.length
  | [], _, h => by cases h; rfl
  | d :: ds, _, h => by
    cases h with
    | cons h1 h2 => simp [DpAll.length h2]
theorem DpAll.get : ∀ {ds : List PyData} {vs : List V} {i : Nat} {d : PyData}, DpAll K H vs ds → ds[i]? = some d → ∃ v, vs[i]? = some v ∧ Dp K H v d
  | [], _, i, d, h, e => by simp at e
  | d' :: ds, _, 0, d, h, e => by
    cases h with
    | cons h1 h2 =>
      have e' : d' = d := by simpa using e
      subst e'
      exact ⟨_, rfl, h1⟩
  | d' :: ds, _, i + 1, d, h, e => by
    cases h with
    | cons h1 h2 =>
      obtain ⟨v, a, b⟩ := DpAll.get h2 (by simpa using e)
      exact ⟨v, by simpa using a, b⟩
theorem DpAll.getV : ∀ {ds : List PyData} {vs : List V} {i : Nat} {v : V}, DpAll K H vs ds → vs[i]? = some v → ∃ d, ds[i]? = some d ∧ Dp K H v d
  | [], _, i, d, h, e => by cases h; simp at e
  | d' :: ds, _, 0, d, h, e => by
    cases h with
    | cons h1 h2 =>
      simp at e
      subst e
      exact ⟨_, rfl, h1⟩
  | d' :: ds, _, i + 1, d, h, e => by
    cases h with
    | cons h1 h2 =>
      obtain ⟨v, a, b⟩ := DpAll.getV h2 (by simpa using e)
      exact ⟨v, by simpa using a, b⟩
theorem DpAll.append : ∀ {ds es : List PyData} {vs ws : List V}, DpAll K H vs ds → DpAll K H ws es → DpAll K H (vs ++ ws) (ds ++ es)
  | [], _, _, _, h, h' => by cases h; exact h'
  | d :: ds, _, _, _, h, h' => by
    cases h with
    | cons h1 h2 => exact .cons h1 (DpAll.append h2 h')
theorem DpAll.snoc {ds : List PyData} {vs : List V} {v : V} {d : PyData} (h : DpAll K H vs ds) (h1 : Dp K H v d) : DpAll K H (vs ++ [v]) (ds ++ [d]) := h.append (.cons h1 .nil)
theorem DpAll.take : ∀ {ds : List PyData} {vs : List V} (n : Nat), DpAll K H vs ds → DpAll K H (vs.take n) (ds.take n)
  | [], _, n, h => by cases h; simp; exact .nil
  | d :: ds, _, 0, h => .nil
  | d :: ds, _, n + 1, h => by
    cases h with
    | cons h1 h2 => exact .cons h1 (DpAll.take n h2)
theorem DpAll.drop : ∀ {ds : List PyData} {vs : List V} (n : Nat), DpAll K H vs ds → DpAll K H (vs.drop n) (ds.drop n)
  | [], _, n, h => by cases h; simp; exact .nil
  | d :: ds, _, 0, h => h
  | d :: ds, _, n + 1, h => by
    cases h with
    | cons h1 h2 => exact DpAll.drop n h2
theorem DpAll.set {v : V} {d : PyData} (h1 : Dp K H v d) : ∀ {ds : List PyData} {vs : List V} (n : Nat), DpAll K H vs ds → DpAll K H (vs.set n v) (ds.set n d)
  | [], _, n, h => by cases h; exact .nil
  | _ :: ds, _, 0, h => by
    cases h with
    | cons h0 h2 => exact .cons h1 h2
  | _ :: ds, _, n + 1, h => by
    cases h with
    | cons h0 h2 => exact .cons h0 (DpAll.set h1 n h2)
theorem DpAll.ints : ∀ (ns : List Int), DpAll K H (ns.map V.int) (ns.map PyData.int)
  | [] => .nil
  | n :: ns => .cons (.int n) (DpAll.ints ns)
theorem DpAll.ints_inv : ∀ {ns : List Int} {vs : List V}, DpAll K H vs (ns.map PyData.int) → vs = ns.map V.int
  | [], _, h => by cases h; rfl
  | n :: ns, _, h => by
    cases h with
    | cons h1 h2 =>
      cases h1
      rw [DpAll.ints_inv h2]
      rfl
theorem Dp.int_inv {v : V} {i : Int} (h : Dp K H v (.int i)) : v = .int i := by cases h; rfl
theorem Dp.bl_inv {v : V} {b : Bool} (h : Dp K H v (.bool b)) : v = .bl b := by cases h; rfl
theorem Dp.tup_inv {v : V} {ds : List PyData} (h : Dp K H v (.tuple ds)) : ∃ a xs, v = .ref a ∧ SqT K H a xs ∧ DpAll K H xs ds := by
  cases h with
  | tup hs ha => exact ⟨_, _, rfl, hs, ha⟩
theorem Dp.lst_inv {v : V} {ds : List PyData} (h : Dp K H v (.list ds)) : ∃ a xs, v = .ref a ∧ SqL K H a xs ∧ DpAll K H xs ds := by
  cases h with
  | lst hs ha => exact ⟨_, _, rfl, hs, ha⟩
theorem Dp.ints_tup {v : V} {ns : List Int} (h : Dp K H v (.tuple (ns.map PyData.int))) : ∃ a, v = .ref a ∧ SqT K H a (ns.map V.int) := by
  obtain ⟨a, xs, rfl, hs, ha⟩ := h.tup_inv
  rw [ha.ints_inv] at hs
  exact ⟨a, rfl, hs⟩
theorem Dp.tup_ints {a : Addr} {ns : List Int} (h : SqT K H a (ns.map V.int)) : Dp K H (.ref a) (.tuple (ns.map PyData.int)) := .tup h (DpAll.ints ns)
end
end L2
namespace Ws
open PySem PySem.Spec PyProof.Rows L2
/-! ### max(ints, default=d) -/
theorem fold_max (n : Int) : ∀ ns : List Int, (ns.foldl max n = n ∨ ns.foldl max n ∈ ns) ∧ n ≤ ns.foldl max n ∧ ∀ y ∈ ns, y ≤ ns.foldl max n := by
  intro ns
  induction ns generalizing n with
  | nil => exact ⟨.inl rfl, Int.le_refl _, fun y hy => absurd hy (by simp)⟩
  | cons a r ih =>
    obtain ⟨h1, h2, h3⟩ := ih (max n a)
    simp only [List.foldl_cons]
    refine ⟨?_, by omega, fun y hy => ?_⟩
    · rcases h1 with h1 | h1
      · rw [h1]
        rcases Int.le_total n a with z | z
        · right; rw [Int.max_eq_right z]; exact List.mem_cons_self ..
        · left; exact Int.max_eq_left z
      · right; exact List.mem_cons_of_mem _ h1
    · rcases List.mem_cons.mp hy with e | hy
      · rw [e]; omega
      · exact h3 y hy
theorem alike_ints (ns : List Int) : PySem.W.AlikeAll (ns.map PyData.int) := by
  refine ⟨fun x hx y hy => ?_, fun x hx => ?_⟩
  · obtain ⟨a, _, rfl⟩ := List.mem_map.mp hx
    obtain ⟨b, _, rfl⟩ := List.mem_map.mp hy
    simp [PySem.W.alike]
  · obtain ⟨a, _, rfl⟩ := List.mem_map.mp hx
    intro z
    cases z
theorem depth_ints : ∀ ns : List Int, PyData.depthAll (ns.map PyData.int) = 0
  | [] => rfl
  | n :: ns => by
    show max 0 (PyData.depthAll (ns.map PyData.int)) = 0
    rw [depth_ints ns]
    rfl
def rMaxD (K : PySem.W.Frag) : List V → List V → Hp → VK → Prop := fun xs zs H Q => ∃ (a : Addr) (ns : List Int) (d : V), xs = [.ref a] ∧ zs = [d] ∧ SqL K H a (ns.map V.int) ∧ (ns = [] → Q d H) ∧ ∀ m, m ∈ ns → (∀ y ∈ ns, y ≤ m) → Q (.int m) H
theorem call_maxD {X : Cx} (hc : X.calm = true) (hu : X.A.units + 64 < cLine) : CallRK X (.builtin "max") ["default"] (rMaxD X.K) := by
  intro pins s σ H xs zs us ws Q I r1 r2 h
  obtain ⟨a, ns, d, rfl, rfl, hs, h0, h1⟩ := h
  obtain ⟨u, rfl, ru⟩ := vals1 r1
  obtain ⟨u', rfl, ru'⟩ := vals1 r2
  cases ru
  obtain ⟨its, rv, p, hz⟩ := I.list hs
  obtain ⟨as, hr⟩ := Dp.readsAll I (ns.map PyData.int) (ns.map V.int) its (DpAll.ints ns) rv
  show wpAny _ _ (call (.builtin "max") [.ref a] [(Str.ofString "default", u')]) _ _ _
  refine PySem.W.max_list_default (xs := ns.map PyData.int) (I.ok.hd hc) p.isList (by simpa using hr) (alike_ints ns) (by rw [depth_ints]; omega) (fun e h' tk hk => ?_) (fun y ys i v h' tk bs e hv hR hk => ?_)
  · exact ⟨d, H, I.kept hk, ru', h0 (by simpa using e)⟩
  · cases ns with
    | nil => cases e
    | cons n r =>
      have e1 : PyData.int n = y := by
        simp only [List.map_cons, List.cons.injEq] at e
        exact e.1
      have e2 : r.map PyData.int = ys := by
        simp only [List.map_cons, List.cons.injEq] at e
        exact e.2
      subst e1 e2
      rw [PySem.W.maxD_ints] at hR
      cases hR with
      | int i t =>
        obtain ⟨g1, g2, g3⟩ := fold_max n r
        refine ⟨.int (r.foldl max n), H, I.kept hk, ⟨_, rfl⟩, h1 _ ?_ fun y hy => ?_⟩
        · rcases g1 with g1 | g1
          · rw [g1]; exact List.mem_cons_self ..
          · exact List.mem_cons_of_mem _ g1
        · rcases List.mem_cons.mp hy with e | hy
          · rw [e]; exact g2
          · exact g3 y hy
/-! ### a def as a fact of the module -/
structure Dt (K : PySem.W.Frag) (mg : Str → Option Value) (x : Str) (st : Stmt) (ps : List Str) : Prop where
  ex : ∃ (f : Addr) (fd : FuncData), Fun K x x st f fd ∧ mg x = some (.ref f) ∧ Binds K fd ps []
structure Df (P : Program) (w : World) (K : PySem.W.Frag) (mg : Str → Option Value) (base : Heap) (CX : CXT) (k : Nat) (x : Str) (ps : List Str) (sp : Sp) : Prop where
  ex : ∃ (f : Addr) (fd : FuncData), FnOk P w K mg base CX k f fd ps sp ∧ mg x = some (.ref f) ∧ PySem.W.keepIn K (.ref f) = true ∧ Binds K fd ps []
structure DfG (P : Program) (w : World) (K : PySem.W.Frag) (mg : Str → Option Value) (base : Heap) (CX : CXT) (k : Nat) (x : Str) (ps : List Str) (sp : Sp) : Prop where
  ex : ∃ (f : Addr) (fd : FuncData), FnOkG P w K mg base CX k f fd ps sp ∧ mg x = some (.ref f) ∧ PySem.W.keepIn K (.ref f) = true ∧ Binds K fd ps []
section
variable {P : Program} {w : World} {K : PySem.W.Frag} {mg : Str → Option Value} {base : Heap} {x : Str} {st : Stmt} {N ps : List Str} {k : Nat} {sp : Sp}
theorem Dt.mk' {h : Heap} {f : Addr} {oc : Value} {od an : Option Addr} {osl : Array (Option Value)} {kV doc pm cdv ct : Value} (X : K.In h) (G : h.Ns mainGlobals mg) (a : PySem.W.nsIn K mainGlobals x = some (some (.ref f)))
    (l : K.lookup f = some ⟨oc, od, .func (PySem.W.fnOf x x (defArgs st) (defBody st) (defScope st) .none kV doc pm an cdv ct), osl⟩) (c : PySem.W.codeIn K cdv x = true) (kp : PySem.W.keepIn K (.ref f) = true)
    (hb : ∀ (kV doc pm : Value) (an : Option Addr) (cdv ct : Value) (us : List Value), us.length = ps.length → bindArgs (PySem.W.fnOf x x (defArgs st) (defBody st) (defScope st) .none kV doc pm an cdv ct) ⟨us, []⟩ = pure (ps.zip us)) : Dt K mg x st ps :=
  ⟨f, _, fun_mk l c kp, PySem.W.mg_of X G a, (fun_mk l c kp).binds hb⟩
theorem Dt.ok (D : Dt K mg x st ps) (S : FnScope N ps (defScope st)) (len : ∀ vs H Q E, sp vs H Q E → vs.length = ps.length)
    (hbody : ∀ (f : Addr) (cdv : Value) (A : Around) (outer : List Env) (s : Shared) (H : Hp) (vs : List V) (Q : VK) (E : XK), Room k (A.deeper (envOfC x (defScope st) s.heap.objs.size f cdv)) → sp vs H Q E →
      ∃ t, PSs (cxOf CX0 P w K mg base N x (defScope st) f cdv A outer s H E).nox (defBody st) t ∧ t { nx := fun _ H' => Q .non H', rt := Q } (start N vs) H) : Df P w K mg base CX0 (k + 1) x ps sp := by
  obtain ⟨f, fd, F, m, b⟩ := D.ex
  exact ⟨f, fd, F.ok S len (hbody f), m, F.kp, b⟩
theorem Dt.okX (D : Dt K mg x st ps) (S : FnScope N ps (defScope st)) (len : ∀ vs H Q E, sp vs H Q E → vs.length = ps.length)
    (hbody : ∀ (f : Addr) (cdv : Value) (A : Around) (outer : List Env) (s : Shared) (H : Hp) (vs : List V) (Q : VK) (E : XK), Room k (A.deeper (envOfC x (defScope st) s.heap.objs.size f cdv)) → sp vs H Q E →
      ∃ t, PSs (cxOf (L2.CX P w) P w K mg base N x (defScope st) f cdv A outer s H E) (defBody st) t ∧ t { nx := fun _ H' => Q .non H', rt := Q } (start N vs) H) : Df P w K mg base (L2.CX P w) (k + 1) x ps sp := by
  obtain ⟨f, fd, F, m, b⟩ := D.ex
  exact ⟨f, fd, F.okX S len (hbody f), m, F.kp, b⟩
theorem Dt.okG (D : Dt K mg x st ps) (S : FnScope N ps (defScope st)) (len : ∀ vs H Q E, sp vs H Q E → vs.length = ps.length)
    (hbody : ∀ (f : Addr) (cdv : Value) (A : Around) (outer : List Env) (s : Shared) (H : Hp) (vs : List V) (Q : VK) (E : XK), A.guards = some [] → Room k (A.deeper (envOfC x (defScope st) s.heap.objs.size f cdv)) → sp vs H Q E →
      ∃ t, PSs (cxOf CX0 P w K mg base N x (defScope st) f cdv A outer s H E).nox (defBody st) t ∧ t { nx := fun _ H' => Q .non H', rt := Q } (start N vs) H) : DfG P w K mg base CX0 (k + 1) x ps sp := by
  obtain ⟨f, fd, F, m, b⟩ := D.ex
  obtain ⟨oc, od, kV, doc, pm, an, cdv, ct, osl, rfl, lk, hcd⟩ := F.ex
  refine ⟨f, _, fn_ofG lk hcd S len fun A outer s H vs Q E hg hr hsp => ?_, m, F.kp, b⟩
  obtain ⟨t, h, q⟩ := hbody f cdv A outer s H vs Q E hg hr hsp
  exact ⟨t, h.nox, q⟩
theorem Df.g {CX : CXT} (D : Df P w K mg base CX k x ps sp) : DfG P w K mg base CX k x ps sp := let ⟨f, fd, a, b, c, d⟩ := D.ex; ⟨f, fd, .of a, b, c, d⟩
end
section
variable {X : Cx} {CX : CXT} {k : Nat} {ps : List Str} {sp : Sp} {E : XK} {x : Str} {p pos : Pos} {e : Expr} {es : List Expr} {t : TA}
theorem pe_f (D : Df X.prog X.w X.K X.mg X.base CX k x ps sp) (hr : Room k X.A) (hx : Passes CX X E)
    (ha : PA X (e :: es) t) (hg : Gl X x := by rfl) (hdb : (x == ("__debug__" : Str)) = false := by decide) (he : starEach (e :: es) X.env = (false, eval e X.env) :: starEach es X.env := by rfl) (hpl : (backTo pos (starEach es X.env)).any (·.1) = false := by rfl) :
    PE X (.Call (.Name x p) (e :: es) [] pos) (tCa sp E t) := by
  obtain ⟨f, fd, F, m, kp, b⟩ := D.ex
  refine ⟨fun pins s σ H Q I h => ?_⟩
  refine (pe_call (dvs := []) F hr hg m kp b .nil hx ha hdb he hpl).run pins s σ H Q I ?_
  have e1 : tCall sp [] E t = tCa sp E t := by
    unfold tCall tCa
    simp only [List.append_nil]
  rw [e1]
  exact h
theorem pe_fG (D : DfG X.prog X.w X.K X.mg X.base CX k x ps sp) (hG : X.A.guards = some []) (hr : Room k X.A) (hx : Passes CX X E)
    (ha : PA X (e :: es) t) (hg : Gl X x := by rfl) (hdb : (x == ("__debug__" : Str)) = false := by decide) (he : starEach (e :: es) X.env = (false, eval e X.env) :: starEach es X.env := by rfl) (hpl : (backTo pos (starEach es X.env)).any (·.1) = false := by rfl) :
    PE X (.Call (.Name x p) (e :: es) [] pos) (tCa sp E t) := by
  obtain ⟨f, fd, F, m, kp, b⟩ := D.ex
  exact pe_callG F hG hr hg m kp b hx ha hdb he hpl
theorem pe_fS {E : L2.St → XK} (D : Df X.prog X.w X.K X.mg X.base CX k x ps sp) (hr : Room k X.A) (hx : ∀ σ, PassesAt CX X σ (E σ))
    (ha : PA X (e :: es) t) (hg : Gl X x := by rfl) (hdb : (x == ("__debug__" : Str)) = false := by decide) (he : starEach (e :: es) X.env = (false, eval e X.env) :: starEach es X.env := by rfl) (hpl : (backTo pos (starEach es X.env)).any (·.1) = false := by rfl) :
    PE X (.Call (.Name x p) (e :: es) [] pos) (tCallS sp E t) := by
  obtain ⟨f, fd, F, m, kp, b⟩ := D.ex
  exact pe_callS F hr hg m kp b hx ha hdb he hpl
end
end Ws
/-! ## We -/
/-! isinstance of a caught error that has fields -/
namespace Ws
open PySem PySem.Spec PySem.Calls PySem.W PyProof.Rows L2
section
variable {prog : Program} {w : World} {A : Around} {E : Value → Shared → Prop} {s : Shared} {K : Frag} {x D : Addr} {ox : Obj} {od : Option Obj}
theorem find_class {g a : Value} {name : Str} (C : ExcC K D) (ha : findIn K (.ref D) name = some (some a)) (hg : specialIn K a "__get__" = some (some g)) (ht : takesIn K a = some true) : findObj K D od name = some (.bind g a) := by
  obtain ⟨cd, hc, _⟩ := any_some C.hd
  have hc : clsIn K D = some cd := hc
  unfold findObj
  rw [hc, Option.bind_some, ha, Option.bind_some]
  simp [hg, ht]
theorem asked_class {Q : Option Value → Shared → Prop} (C : ExcC K D) (X : K.In s.heap) (I : InstAt s.heap x ox D od) (h : Q (some (.ref D)) { s with toks := s.toks + 1 }) : wpAny (model prog w) A (getAttr? (.ref x) "__class__") Q E s := by
  have hf : findObj K D od "__class__" = some (.bind (.builtin "getset_descriptor.__get__") (.builtin "object.__class__")) := find_class C C.ha C.hn C.ht
  obtain ⟨hp, g, d, t, os⟩ := s
  have l0 := I.type (M := model prog w)
  have l1 := looks_findIn (M := model prog w) X C.hg
  have l2 := looks_findIn (M := model prog w) X C.hk
  have l3 := looks_find (M := model prog w) X I hf
  have sub : Looks (model prog w) hp (isInstance (.ref x) (.type "BaseException")) true := l0.andThen (looks_subIn X C.hs)
  have n2 : (Value.builtin "BaseException.__getattribute__" == Value.builtin "object.__getattribute__") = false := by decide +kernel
  have n1 : (onTheHeap (Value.ref D) && Value.builtin "BaseException.__getattribute__" == Value.builtin "object.__getattribute__") = false := by rw [n2]; rfl
  have n0 : (false && onTheHeap (Value.builtin "BaseException.__getattribute__")) = false := rfl
  unfold getAttr? getAttrBy? getAttrBy
  refine wpAny_bind (wpAny_mkText (wpAny_bind (wpAny_attempt (wpAny_holding (wpAny_bind (l0.at (wpAny_bind (l1.at ?_))))))))
  show wpAny _ _ (if (onTheHeap (Value.ref D) && Value.builtin "BaseException.__getattribute__" == Value.builtin "object.__getattribute__") = true then _ else _) _ _ _
  rw [n1, if_neg Bool.false_ne_true]
  unfold getAttrByItsOwn hookBefore
  refine wpAny_bind ?_
  rw [if_pos (show onTheHeap (Value.ref D) = true from rfl)]
  refine l2.at (wpAny_bind (wpAny_attempt (wpAny_holding ?_)))
  unfold callGetattribute
  rw [n0, if_neg Bool.false_ne_true]
  unfold boundAndCalled
  rw [PySem.F.excAttr_ValueError.ga.bind (.ref x)]
  refine wpAny_bind (wpAny_pure ?_)
  show wpAny _ _ (call (.builtin "BaseException.__getattribute__") [.ref x, .str "__class__" t]) _ _ _
  refine wpAny_call (codeAny_call_builtin PySem.F.excAttr_ValueError.ga.plain PySem.F.entry_bexc_ga ?_)
  refine @check_slot (model prog w) _ _ ⟨hp, g, d, t + 1, os⟩ "BaseException.__getattribute__" "BaseException" "__getattribute__" (.ref x) [.str "__class__" t] [] _ (by decide +kernel) (by decide +kernel) sub (PySem.F.args_bexc_ga (.ref x) (.str "__class__" t)) ?_
  unfold Builtin.«object.__getattribute__»
  refine wpAny_bind (wpAny_of_eq (a := ((Value.ref x : Value), [Value.str "__class__" t])) (by first | rfl | (simp only [slotArgs]; rfl)) ?_)
  refine wpAny_bind (wpAny_pure (wpAny_bind (l0.at (wpAny_bind (l3.at ?_)))))
  show wpAny _ _ (holding [Value.builtin "object.__class__"] (call (.builtin "getset_descriptor.__get__") [.builtin "object.__class__", .ref x, .ref D]) >>= ret) _ _ _
  refine wpAny_bind (wpAny_holding (wpAny_call (class_get (s := ⟨hp, g, d, t + 1, os⟩) (ox := ox) (od := od) X I C.hm ?_)))
  refine wpAny_pure ?_
  show wpAny _ _ (handedOut (.ref D)) _ _ _
  rw [handedOut_of (v := .ref D) rfl]
  first
    | exact wpAny_pure (wpAny_pure h)
    | exact wpAny_pure h
    | exact wpAny_pure (wpAny_bind (wpAny_pure (wpAny_pure h)))
theorem kitx_err (C : ExcC K D) : KitX K (.ref x) (.ref D) (fun h => InstAt h x ox D od) where
  ty := fun _ _ _ I => I.type
  it := fun _ _ X _ => by
    obtain ⟨cd, hc, _⟩ := any_some C.hd
    unfold clsIn at hc
    split at hc
    · rename_i ho
      intro A' Q' E' s' k q
      unfold isType loadHead
      exact wpAny_bind (wpAny_loadPart (k _ _ (X _ _ ho)) (wpAny_pure q))
    · cases hc
  ne := fun h tp dd its n sl X htp => by
    obtain ⟨cd, hc, _⟩ := any_some C.hd
    refine Bool.eq_false_iff.mpr fun q => ?_
    have e : D = tp := Value.ref.inj (beq_iff_eq.mp q)
    subst e
    unfold clsIn at hc
    split at hc
    · rename_i ho
      have z := (X _ _ ho).symm.trans htp
      cases z
    · cases hc
  ca := fun X I k => asked_class C X I k
end
/-- isinstance(e, c), e the error of the suite, of the class cls, its fields in the dict d -/
def rIsX (K : Frag) (a : Addr) (cls : Value) (d : Option Addr) : List V → Hp → VK → Prop := fun xs H Q => ∃ (c : V) (cv : Value) (b : Bool) (D dd : Addr) (fs : List (Str × V)), xs = [.ref a, c] ∧ cls = .ref D ∧ ExcC K D ∧ d = some dd ∧ H dd = some (.xd fs) ∧ (∀ u, RelV c u → u = cv) ∧ kitOne K (.ref D) cv = some b ∧ Q (.bl b) H
theorem call_isX {X : Cx} {a : Addr} {cls : Value} {d : Option Addr} {oe : Obj} {pn : List (Addr × Obj)} (hz : Zc cls d oe) (hf : ∃ vs, oe.data = .fields vs) : CallR (X.suite a ((a, oe) :: pn)) (.builtin "isinstance") (rIsX X.K a cls d) := by
  intro pins s σ H xs us Q I r h
  obtain ⟨c, cv, b, D, dd, fs, rfl, rfl, C, rfl, hd, hcv, e, q⟩ := h
  cases r with
  | cons rx rr =>
    cases rr with
    | cons rt rr =>
      cases rr
      cases rx
      have ec := hcv _ rt
      subst ec
      obtain ⟨hget, _⟩ := I.pin (a, oe) (List.mem_append.mpr (.inl List.mem_cons_self))
      obtain ⟨vs, hv⟩ := hf
      have hx : ObjOk X.prog X.w H s.heap dd (.xd fs) := I.hok dd _ hd
      obtain ⟨mA, hns, hr⟩ := hx
      obtain ⟨od, ho, hl⟩ := lookIn_ns hns
      have J : PySem.W.InstAt s.heap a oe D (some od) := ⟨hget, hz.1, by unfold PySem.W.notCls; rw [hv] <;> rfl, by rw [hz.2]; exact ho⟩
      exact PySem.W.kia_one (kitx_err C) I.kIn J e (fun z => nomatch z) fun tk => ⟨.bl b, H, I.kept (t' := tk) fun _ _ z => z, rfl, q⟩
end Ws
/-! ## Wf -/
/-! tuple * int, the empty tuple too -/
namespace Ws
open PySem PySem.Spec PyProof.Rows L2
theorem tuple_mul0 (l : Addr) (n : Nat) (dd : Option Addr) (sl : Array (Option Value)) (x : Int) (u : Tok) (c0 : (decide (x < -(2 ^ 63)) || decide (x ≥ 2 ^ 63)) = false) (c1 : ((#[] : Array Value).isEmpty || x == 1) = true) :
    Meets (Builtin.«tuple.__mul__» ⟨[.ref l, .int x u], []⟩) (fun _ R s => s.heap.get? l = some { cls := .type "tuple", dict := dd, data := .seq #[] n, slots := sl } ∧
      R (.ok (.ret (Value.ref l))) s) :=
  .of_wp fun prog w A R s h => by
    obtain ⟨hp, g, d, tk, os⟩ := s
    obtain ⟨hl, h⟩ := h
    have f1 := AutoSeq1.idx_int
    wp_walk using wpAny_loadPart' hl
    repeat (first
      | (refine wpAny_ite_false (decide_eq_false (by rw [c0]; exact Bool.false_ne_true)) ?_; wp_walk using wpAny_loadPart' hl)
      | (refine wpAny_ite_true (decide_eq_true c1) ?_; wp_walk using wpAny_loadPart' hl))
    exact ⟨_, rfl, h⟩
/-- t * k, k written: the empty tuple is handed back, of another one a new one is made -/
def rRepA (K : PySem.W.Frag) : R2 := fun x y H Q => ∃ l k xs, x = .ref l ∧ y = .int k ∧ SqT K H l xs ∧ 2 ≤ k ∧ k ≤ 1000 ∧ xs.length ≤ 1000 ∧ (xs = [] → Q (.ref l) H) ∧ (xs ≠ [] → ∀ p, H p = none → Q (.ref p) (upd H p (.tup (List.replicate k.toNat xs).flatten)))
theorem op_repA {X : Cx} : OpR X (binaryOp .Mult) (rRepA X.K) := by
  intro pins s σ H x y v u Q I rx ry h
  obtain ⟨l, k, xs, rfl, rfl, hT, h1, h2, hz, q0, q⟩ := h
  by_cases hx : xs = []
  · subst hx
    have rx2 := rx
    cases rx
    obtain ⟨t, rfl⟩ := ry
    obtain ⟨its, r, ⟨⟨cls, dd, data, sl⟩, ho, hc, n, hd⟩, hs⟩ := I.tuple hT
    simp only at hc hd
    subst hc hd
    cases r
    have c0 : (decide (k < -(2 ^ 63)) || decide (k ≥ 2 ^ 63)) = false := by
      rw [decide_eq_false (by omega), decide_eq_false (by omega)] <;> rfl
    refine wpAny_binaryOp_repeat_ref (T := "tuple") (U := "int") (by decide) ⟨_, ho, rfl⟩ (fun s' => typeIs_int s' k t) noFill_tuple_mul F.fills_int_mul F.slot_int_rmul repeat_tuple F.slot_int_index.lookup
      (call_meets F.slot_int_rmul (typeIs_int s k t) F.entry_int_rmul (F.args_int_rmul_2 _ _) (int_rmul_tuple k t l (#[] : Array Value) n dd sl)
        ⟨ho, rfl, ⟨_, ho, rfl⟩, call_meets F.slot_tuple_mul ⟨_, ho, rfl⟩ F.entry_tuple_mul (F.args_tuple_mul_2 _ _) (tuple_mul0 l n dd sl k t c0 rfl) ⟨ho, ?_⟩⟩)
    exact ⟨.ref l, H, I, rx2, q0 rfl⟩
  · exact op_repT pins s σ H _ _ v u Q I rx ry ⟨l, k, xs, rfl, rfl, hT, hx, h1, h2, hz, q hx⟩
theorem tuple_mul1 (l : Addr) (items : Array Value) (n : Nat) (dd : Option Addr) (sl : Array (Option Value)) (x : Int) (u : Tok) (c0 : (decide (x < -(2 ^ 63)) || decide (x ≥ 2 ^ 63)) = false) (c1 : (items.isEmpty || x == 1) = true) :
    Meets (Builtin.«tuple.__mul__» ⟨[.ref l, .int x u], []⟩) (fun _ R s => s.heap.get? l = some { cls := .type "tuple", dict := dd, data := .seq items n, slots := sl } ∧
      R (.ok (.ret (Value.ref l))) s) :=
  .of_wp fun prog w A R s h => by
    obtain ⟨hp, g, d, tk, os⟩ := s
    obtain ⟨hl, h⟩ := h
    have f1 := AutoSeq1.idx_int
    wp_walk using wpAny_loadPart' hl
    repeat (first
      | (refine wpAny_ite_false (decide_eq_false (by rw [c0]; exact Bool.false_ne_true)) ?_; wp_walk using wpAny_loadPart' hl)
      | (refine wpAny_ite_true (decide_eq_true c1) ?_; wp_walk using wpAny_loadPart' hl))
    exact ⟨_, rfl, h⟩
/-- t * k, k from 1 on -/
def rRepB (K : PySem.W.Frag) : R2 := fun x y H Q => ∃ l k xs, x = .ref l ∧ y = .int k ∧ SqT K H l xs ∧ 1 ≤ k ∧ k ≤ 1000 ∧ xs.length ≤ 1000 ∧ (xs = [] ∨ k = 1 → Q (.ref l) H) ∧ (xs ≠ [] → k ≠ 1 → ∀ p, H p = none → Q (.ref p) (upd H p (.tup (List.replicate k.toNat xs).flatten)))
theorem op_repB {X : Cx} : OpR X (binaryOp .Mult) (rRepB X.K) := by
  intro pins s σ H x y v u Q I rx ry h
  obtain ⟨l, k, xs, rfl, rfl, hT, h1, h2, hz, q0, q⟩ := h
  by_cases hx : k = 1
  · subst hx
    have rx2 := rx
    cases rx
    obtain ⟨t, rfl⟩ := ry
    obtain ⟨its, r, ⟨⟨cls, dd, data, sl⟩, ho, hc, n, hd⟩, hs⟩ := I.tuple hT
    simp only at hc hd
    subst hc hd
    have c0 : (decide ((1 : Int) < -(2 ^ 63)) || decide ((1 : Int) ≥ 2 ^ 63)) = false := by decide
    refine wpAny_binaryOp_repeat_ref (T := "tuple") (U := "int") (by decide) ⟨_, ho, rfl⟩ (fun s' => typeIs_int s' 1 t) noFill_tuple_mul F.fills_int_mul F.slot_int_rmul repeat_tuple F.slot_int_index.lookup
      (call_meets F.slot_int_rmul (typeIs_int s 1 t) F.entry_int_rmul (F.args_int_rmul_2 _ _) (int_rmul_tuple 1 t l its.toArray n dd sl)
        ⟨ho, rfl, ⟨_, ho, rfl⟩, call_meets F.slot_tuple_mul ⟨_, ho, rfl⟩ F.entry_tuple_mul (F.args_tuple_mul_2 _ _) (tuple_mul1 l its.toArray n dd sl 1 t c0 (by simp)) ⟨ho, ?_⟩⟩)
    exact ⟨.ref l, H, I, rx2, q0 (.inr rfl)⟩
  · exact op_repA pins s σ H _ _ v u Q I rx ry ⟨l, k, xs, rfl, rfl, hT, by omega, h2, hz, fun e => q0 (.inl e), fun e => q e hx⟩
end Ws
/-! ## T45 -/
namespace Ws
open PySem PySem.Spec PyProof.Rows L2
/-! ### several except clauses that name their error, by one name in slot i -/
def wManyB (K : PySem.W.Frag) (i : Nat) (Wout : WX) (D : Ends) : List (Bool × Value × (Addr → Value → Option Addr → TS)) → WX
  | [] => Wout
  | (m, c, ts) :: r => fun cls d σ H => ∃ b, PySem.W.exmOne K cls c = some b ∧ (b = true → ∀ a, H a = none → (if m = true then ts a cls d (suiteEnds D i) (σ.set i (some (.ref a))) H else ts a cls d D σ H)) ∧ (b = false → wManyB K i Wout D r cls d σ H)
inductive HdsB (X : Cx) (n : Str) : List ExceptHandler → List (Bool × Value × (Addr → Value → Option Addr → TS)) → Prop
  | nil : HdsB X n [] []
  | cons {m : Bool} {x : Str} {c : Value} {ts : Addr → Value → Option Addr → TS} {b₀ : Stmt} {suite : List Stmt} {np pos' : Pos} {hds : List ExceptHandler} {l : List (Bool × Value × (Addr → Value → Option Addr → TS))} (hc : Names X x c)
      (hsu : ∀ (a : Addr) (oe : Obj) (cls : Value) (d : Option Addr) (pn : List (Addr × Obj)), Zc cls d oe → (∃ vs, oe.data = .fields vs) → PSs (X.suite a ((a, oe) :: pn)) (b₀ :: suite) (ts a cls d)) (r : HdsB X n hds l) :
      HdsB X n (.ExceptHandler (some (.Name x np)) (if m = true then some n else none) (b₀ :: suite) pos' :: hds) ((m, c, ts) :: l)
section
variable {X : Cx} {n : Str} {i : Nat} {body : List Stmt} {h₀ : ExceptHandler} {hds : List ExceptHandler} {l : List (Bool × Value × (Addr → Value → Option Addr → TS))} {pos : Pos} {tb : WX → TS} {Wout : WX}
theorem ps_try_manyB (hs : X.stack = X.env :: X.outer) (hf : X.env.frame = some X.env.locals) (hN : X.N.Nodup) (hi : X.N[i]? = some n) (hln : X.env.kindOf n = some .local) (tk : Takes X Wout)
    (hb : ∀ (W : WX) (pn : List (Addr × Obj)) (xe : Value → Shared → Prop), Takes (X.tr pn xe) W → PassesOwn (model X.prog X.w) X.A X.env xe → PSs (X.tr pn xe) body (tb W))
    (hh : HdsB X n (h₀ :: hds) l) : PS X (.Try body (h₀ :: hds) [] [] pos) (fun D σ H => tb (wManyB X.K i Wout D l) D σ H) := by
  refine ⟨fun pins s σ H D I h => ?_⟩
  have ok := I.ok
  have hfr : X.A.frames = some (X.env :: X.outer) := by rw [ok.frames, hs]
  have hloc : Loc X.env.scope n := .inl hln
  refine wpAny_Try_except ?_
  refine wpAny_mono ((hb (wManyB X.K i Wout D l) (X.pn ++ pins) (fun e s₁ => wpAny (model X.prog X.w) X.A (noteFrame e X.env) (fun _ s₂ => wpAny (model X.prog X.w) X.A (setFlight e none) (fun _ s₃ =>
    wpAny (model X.prog X.w) X.A (handleBy e X.env (h₀ :: hds)) (SP X pins D) X.xe s₃) X.xe s₂) X.xe s₁) (fun u s' xx => ?_) PassesOwn.looking).run [] s σ H D (I.toTry _) h) (fun f s1 hsp => ?_) (fun e s1 he => he)
  · -- the catch
    obtain ⟨a, B, sI, pins', σ', H', cls, d, rfl, J', nb, up, sky, na, os, ag, w⟩ := xx
    have J : Inv X pins σ' H' sI := J'.ofTry ok
    have sky' : Sky B (X.env :: X.outer) a (Zc cls d) X.env.locals s'.heap := by rw [← hs]; exact sky
    show wpAny (model X.prog X.w) X.A (noteFrame (.ref a) X.env) _ _ _
    refine Sky.land Zc.steady hfr hf sky' fun h3 fl3 up3 => ?_
    have J3 : Inv X pins σ' H' { s' with heap := h3 } := J.landed nb fl3.1 (up.trans up3) os ag
    obtain ⟨oe3, vs3, he3, hz3, hd3⟩ := fl3.there
    have notFr : ∀ {h : Heap} {o : Obj} {vs : Array Value}, h.FunFrames B (X.env :: X.outer) → h.get? a = some o → o.data = .fields vs → a ∉ frs (X.env :: X.outer) := fun {h o vs} ff e dd hm => by
      obtain ⟨_, o', e', hnf⟩ := ff.mem hm
      rw [e] at e'; cases e'
      exact hnf _ dd
    have nfr := notFr fl3.2.2.1 he3 hd3
    have nL : a ≠ X.env.locals := fun z => nfr (List.mem_filterMap.mpr ⟨X.env, List.mem_cons_self, by rw [hf, z]⟩)
    have nF : a ∉ X.fs := fun hm => by
      obtain ⟨e, he, q⟩ := List.mem_filterMap.mp hm
      exact nfr (List.mem_filterMap.mpr ⟨e, List.mem_cons_of_mem _ he, q⟩)
    have S3 := J3.suite he3 hd3 na nL nF
    have go : ∀ {hds' : List ExceptHandler} {l' : List (Bool × Value × (Addr → Value → Option Addr → TS))}, HdsB X n hds' l' → wManyB X.K i Wout D l' cls d σ' H' →
        wpAny (model X.prog X.w) X.A (handleBy (.ref a) X.env hds') (SP X pins D) X.xe { s' with heap := h3 } := by
      intro hds' l' hk
      induction hk with
      | nil =>
        intro w
        refine wpAny_handleBy_nil ?_
        obtain ⟨k1, k2, k3, oe, vs, T, oT, ts', he, hz, hd, h1, hr⟩ := id fl3
        unfold PySem.passOn
        refine wpAny_bind (wpAny_field he hd h1 ?_)
        rw [if_neg (show ¬ ((Value.ref T == Value.none) = true) from by simp)]
        have fin : wpAny (model X.prog X.w) X.A (setFlight (.ref a) X.env.frame) (fun _ s4 => wpAny (model X.prog X.w) X.A (throw (.ref a) : Sem Flow) (SP X pins D) X.xe s4) X.xe { s' with heap := h3 } := by
          rw [hf]
          refine HandSPX.setFlight_upZ fl3 fun h4 hh4 up4 => wpAny_throw (tk _ _ ?_)
          exact ⟨a, B, sI, pins, σ', H', cls, d, rfl, J, nb, (up.trans up3).trans up4, .inr (.inr (by rw [hs]; exact hh4)), na, os, ag, w⟩
        first
          | exact wpAny_bind (wpAny_pure (wpAny_bind fin))
          | exact wpAny_bind fin
      | @cons m x c ts b₀ suite np pos' hds2 l2 hc hsu r ih =>
        intro w
        obtain ⟨b, hb1, hyes, hno⟩ := w
        refine wpAny_handleBy_cons (codeAny_handlers_test ?_) (by intro q; cases q)
        have LT : PySem.W.Looks (model X.prog X.w) h3 (typeOf (.ref a)) cls := fun A Q E s k q => wpAny_typeOf_ref (k _ _ he3) (by rw [hz3.1]; exact q)
        have LM := PySem.W.exm_one (M := model X.prog X.w) (J3.kIn) LT hb1
        have test : ∀ {Q : Value → Shared → Prop} {E : Value → Shared → Prop}, Q c { s' with heap := h3 } → wpAny (model X.prog X.w) (X.A.mark (some (.ref a))) (eval (.Name x np) X.env) Q E { s' with heap := h3 } := fun {Q E} q => by
          obtain ⟨hg, hdbg, hm | ⟨hm, hv, hnn⟩⟩ := hc
          · exact ld_glob (X := X.suite a ((a, oe3) :: (X.pn ++ pins))) S3 hg hm q hdbg
          · exact ld_blt (X := X.suite a ((a, oe3) :: (X.pn ++ pins))) S3 hg hm hv q hnn hdbg
        refine test (LM.here ?_)
        cases b with
        | true =>
          cases m with
          | true =>
            refine codeAny_handlers_suite_as ?_
            refine HandSPX.lands_againZ fl3 fun h4 fl4 up4 => ?_
            have J4 : Inv X pins σ' H' { s' with heap := h4 } := J.landed nb fl4.1 ((up.trans up3).trans up4) os ag
            obtain ⟨oe4, vs4, he4, hz4, hd4⟩ := fl4.there
            have S4 := J4.suite he4 hd4 na nL nF
            refine store_ok (X := X.suite a ((a, oe4) :: (X.pn ++ pins))) (v := .ref a) S4 hN hi hloc rfl (fun s5 S5 => ?_) (.inr hln)
            refine wpAny_mono ((hsu a oe4 cls d (X.pn ++ pins) hz4 ⟨_, hd4⟩).run [] s5 _ H' _ S5 (by have := hyes rfl a na; rwa [if_pos rfl] at this)) (fun f s6 hsp => ?_) (fun _ _ z => False.elim z)
            have end_ : ∀ {σ6 : L2.St} {H6 : Hp} {Q : Shared → Prop}, Inv (X.suite a ((a, oe4) :: (X.pn ++ pins))) [] σ6 H6 s6 → (∀ s7, Inv X pins (σ6.set i none) H6 s7 → Q s7) →
                wpAny (model X.prog X.w) X.A (do bindName X.env n .none; unbindBehindTheSuite X.env n pos') (fun _ s7 => Q s7) X.xe s6 := fun {σ6 H6 Q} S6 hq => gone_ok (S6.unsuite ok) hN hi hln hq
            cases f with
            | next =>
              obtain ⟨σ6, H6, S6, q6⟩ := hsp
              exact end_ S6 fun s7 J7 => ⟨_, _, J7, q6⟩
            | brk =>
              obtain ⟨σ6, H6, S6, q6⟩ := hsp
              exact end_ S6 fun s7 J7 => ⟨_, _, J7, q6⟩
            | cont =>
              obtain ⟨σ6, H6, S6, q6⟩ := hsp
              exact end_ S6 fun s7 J7 => ⟨_, _, J7, q6⟩
            | ret u =>
              obtain ⟨v6, σ6, H6, S6, r6, q6⟩ := hsp
              exact end_ S6 fun s7 J7 => ⟨_, _, _, J7, r6, q6⟩
          | false =>
            refine codeAny_handlers_suite ?_
            refine HandSPX.lands_againZ fl3 fun h4 fl4 up4 => ?_
            have J4 : Inv X pins σ' H' { s' with heap := h4 } := J.landed nb fl4.1 ((up.trans up3).trans up4) os ag
            obtain ⟨oe4, vs4, he4, hz4, hd4⟩ := fl4.there
            have S4 := J4.suite he4 hd4 na nL nF
            refine wpAny_mono ((hsu a oe4 cls d (X.pn ++ pins) hz4 ⟨_, hd4⟩).run [] _ _ H' _ S4 (by have := hyes rfl a na; rwa [if_neg (by decide)] at this)) (fun f s6 hsp => ?_) (fun _ _ z => False.elim z)
            cases f with
            | next =>
              obtain ⟨σ6, H6, S6, q6⟩ := hsp
              exact ⟨_, _, S6.unsuite ok, q6⟩
            | brk =>
              obtain ⟨σ6, H6, S6, q6⟩ := hsp
              exact ⟨_, _, S6.unsuite ok, q6⟩
            | cont =>
              obtain ⟨σ6, H6, S6, q6⟩ := hsp
              exact ⟨_, _, S6.unsuite ok, q6⟩
            | ret u =>
              obtain ⟨v6, σ6, H6, S6, r6, q6⟩ := hsp
              exact ⟨_, _, _, S6.unsuite ok, r6, q6⟩
        | false =>
          show wpAny _ X.A (handleBy (.ref a) X.env hds2) _ _ _
          exact ih (hno rfl)
    exact go hh w
  · cases f with
    | next =>
      obtain ⟨σ', H', J', q⟩ := hsp
      exact wpAny_execs_nil ⟨σ', H', J'.ofTry ok, q⟩
    | brk =>
      obtain ⟨σ', H', J', q⟩ := hsp
      exact ⟨σ', H', J'.ofTry ok, q⟩
    | cont =>
      obtain ⟨σ', H', J', q⟩ := hsp
      exact ⟨σ', H', J'.ofTry ok, q⟩
    | ret u =>
      obtain ⟨v, σ', H', J', r, q⟩ := hsp
      exact ⟨v, σ', H', J'.ofTry ok, r, q⟩
end
end Ws
/-! ## G0 -/
/-! what serves every law: data, errors, the law's state, small data, the end -/
namespace Ws
open PySem PySem.Spec PyProof.Rows L2

/-! ### what kind of data -/
def tyName : PyData → String
  | .none => "NoneType"
  | .bool _ => "bool"
  | .int _ => "int"
  | .str _ => "str"
  | .list _ => "list"
  | .tuple _ => "tuple"
  | .dict _ => "dict"
def isI : PyData → Bool
  | .int _ => true
  | _ => false
def isBo : PyData → Bool
  | .bool _ => true
  | _ => false
def isIB (d : PyData) : Bool := isI d || isBo d
def isT : PyData → Bool
  | .tuple _ => true
  | _ => false
def isBt (d : PyData) (lo hi : Int) : Bool := match d with
  | .int i => decide (lo ≤ i) && decide (i ≤ hi)
  | _ => false
def isTn (d : PyData) (n : Int) : Bool := match d with
  | .tuple xs => decide ((xs.length : Int) = n)
  | _ => false
def areB (d : PyData) (lo hi : Int) : Bool := match d with
  | .tuple xs => xs.all fun x => isBt x lo hi
  | _ => false
section
variable {K : PySem.W.Frag} {H : Hp} {v : V} {d : PyData}
theorem dp_ty (h : Dp K H v d) : TyX K H v (.type (tyName d)) := by
  cases h with
  | non => exact .base .non
  | bl b => exact .base (.bl b)
  | int i => exact .base (.int i)
  | str x => exact .base (.str x)
  | lst hs ha =>
    rcases hs with (hs | ⟨o, hs⟩) | ⟨o, its, n, hk, hc, _⟩
    · exact .base (.lst hs)
    · exact .base (.frz hs)
    · exact .kList hk hc
  | tup hs ha =>
    rcases hs with (hs | ⟨o, hs⟩) | ⟨o, its, n, hk, hc, _⟩
    · exact .base (.tup hs)
    · exact .fTuple hs
    · exact .kTuple hk hc
theorem kit_int : ∀ d : PyData, PySem.W.kitOne K (.type (tyName d)) (.type "int") = some (isIB d)
  | .none => kit_ty (by decide +kernel)
  | .bool _ => kit_ty (by show kitB "bool" "int" = some true; decide +kernel)
  | .int _ => kit_ty (by show kitB "int" "int" = some true; decide +kernel)
  | .str _ => kit_ty (by show kitB "str" "int" = some false; decide +kernel)
  | .list _ => kit_ty (by show kitB "list" "int" = some false; decide +kernel)
  | .tuple _ => kit_ty (by show kitB "tuple" "int" = some false; decide +kernel)
  | .dict _ => kit_ty (by show kitB "dict" "int" = some false; decide +kernel)
theorem kit_bool : ∀ d : PyData, PySem.W.kitOne K (.type (tyName d)) (.type "bool") = some (isBo d)
  | .none => kit_ty (by decide +kernel)
  | .bool _ => kit_ty (by show kitB "bool" "bool" = some true; decide +kernel)
  | .int _ => kit_ty (by show kitB "int" "bool" = some false; decide +kernel)
  | .str _ => kit_ty (by show kitB "str" "bool" = some false; decide +kernel)
  | .list _ => kit_ty (by show kitB "list" "bool" = some false; decide +kernel)
  | .tuple _ => kit_ty (by show kitB "tuple" "bool" = some false; decide +kernel)
  | .dict _ => kit_ty (by show kitB "dict" "bool" = some false; decide +kernel)
theorem kit_tuple : ∀ d : PyData, PySem.W.kitOne K (.type (tyName d)) (.type "tuple") = some (isT d)
  | .none => kit_ty (by decide +kernel)
  | .bool _ => kit_ty (by show kitB "bool" "tuple" = some false; decide +kernel)
  | .int _ => kit_ty (by show kitB "int" "tuple" = some false; decide +kernel)
  | .str _ => kit_ty (by show kitB "str" "tuple" = some false; decide +kernel)
  | .list _ => kit_ty (by show kitB "list" "tuple" = some false; decide +kernel)
  | .tuple _ => kit_ty (by show kitB "tuple" "tuple" = some true; decide +kernel)
  | .dict _ => kit_ty (by show kitB "dict" "tuple" = some false; decide +kernel)
/-- what isinstance(x, int) asks and gives | .. bool | .. tuple -/
theorem isi_int {Q : VK} (h : Dp K H v d) (q : Q (.bl (isIB d)) H) : rIsi K [v, .ty "int"] H Q := ⟨v, _, _, _, _, rfl, .ty _, dp_ty h, kit_int d, q⟩
theorem isi_bool {Q : VK} (h : Dp K H v d) (q : Q (.bl (isBo d)) H) : rIsi K [v, .ty "bool"] H Q := ⟨v, _, _, _, _, rfl, .ty _, dp_ty h, kit_bool d, q⟩
theorem isi_tuple {Q : VK} (h : Dp K H v d) (q : Q (.bl (isT d)) H) : rIsi K [v, .ty "tuple"] H Q := ⟨v, _, _, _, _, rfl, .ty _, dp_ty h, kit_tuple d, q⟩
end

theorem slt {n : Nat} (h : n < 100000) : n < sizeLine := Nat.lt_of_lt_of_le h (by decide)
/-- a comprehension of scalars that changes nothing but its own list -/
theorem lcS {J : It} {n : Nat} {G : Hp → Prop} {Y : Nat → Hp → V → Hp → Prop} (w : Walk J n G Y) {g : TG} {te : TE} {vs : List Nat} {σ : L2.St} {H1 : Hp} {D : Addr} {Qd : Hp → Prop} (hD : H1 D = none) (hn : n < sizeLine) (R : Nat → V → Prop)
    (hG : ∀ H, Same H1 H → G H)
    (hs : ∀ i x H H' (Q : VK), i < n → Same H1 H → Y i H x H' → (∀ y H4, R i y → Same H H4 → Q y H4) → g x (wipe σ vs) H' fun σ2 H2 => wipe σ2 vs = wipe σ vs ∧ te σ2 H2 Q)
    (hd : ∀ H ys, Same H1 H → H D = some (.lst ys) → ys.length = n → (∀ i y, ys[i]? = some y → R i y) → Qd H) :
    ∃ W : Nat → Nat → Hp → Prop, (∃ m, W 0 m (upd H1 D (.lst []))) ∧ ∀ i m H, W i m H →
      (J.stop i H ∧ Qd H) ∨ (J.go i H ∧ ∃ Nx : Hp → Prop, (∀ H', Nx H' → ∃ m', m' < m ∧ W (i + 1) m' H') ∧ ∀ x H', J.yld i H x H' → g x (wipe σ vs) H' fun σ2 H2 => wipe σ2 vs = wipe σ vs ∧ tYes σ2 H2 fun b H3 =>
        if b = true then te σ2 H3 fun y H4 => ∃ acc, H4 D = some (.lst acc) ∧ acc.length < sizeLine ∧ Nx (upd H4 D (.lst (acc ++ [y]))) else Nx H3) := by
  refine lc_it w (fun i H => Same H1 H ∧ ∃ ys, H D = some (.lst ys) ∧ ys.length = i ∧ ∀ j y, ys[j]? = some y → R j y) ⟨Same.new hD, [], upd_same, rfl, fun j y h => by simp at h⟩ (fun i H _ p => hG H p.1) (fun i x H H' hi p y => ?_) (fun H p => ?_)
  · obtain ⟨s, ys, hy, hl, hr⟩ := p
    have q := hs i x H H' (fun y H4 => ∃ acc, H4 D = some (.lst acc) ∧ acc.length < sizeLine ∧ Same H1 (upd H4 D (.lst (acc ++ [y]))) ∧ ∃ ys, (upd H4 D (.lst (acc ++ [y]))) D = some (.lst ys) ∧ ys.length = i + 1 ∧ ∀ j y, ys[j]? = some y → R j y) hi s y (fun v H4 r s4 => ?_)
    · have e : (fun σ2 H2 => wipe σ2 vs = wipe σ vs ∧ tYes σ2 H2 fun b H3 =>
        if b = true then te σ2 H3 fun y H4 => ∃ acc, H4 D = some (.lst acc) ∧ acc.length < sizeLine ∧ Same H1 (upd H4 D (.lst (acc ++ [y]))) ∧ ∃ ys, (upd H4 D (.lst (acc ++ [y]))) D = some (.lst ys) ∧ ys.length = i + 1 ∧ ∀ j y, ys[j]? = some y → R j y
        else Same H1 H3 ∧ ∃ ys, H3 D = some (.lst ys) ∧ ys.length = i + 1 ∧ ∀ j y, ys[j]? = some y → R j y) =
        (fun σ2 H2 => wipe σ2 vs = wipe σ vs ∧ te σ2 H2 fun y H4 => ∃ acc, H4 D = some (.lst acc) ∧ acc.length < sizeLine ∧ Same H1 (upd H4 D (.lst (acc ++ [y]))) ∧ ∃ ys, (upd H4 D (.lst (acc ++ [y]))) D = some (.lst ys) ∧ ys.length = i + 1 ∧ ∀ j y, ys[j]? = some y → R j y) := by
        funext σ2 H2
        simp only [tYes, if_true]
      rw [e]
      exact q
    · refine ⟨ys, s4 _ _ hy, by omega, (Same.trans s s4).mut hD, _, upd_same, by simp [hl], fun j z hz => ?_⟩
      by_cases hj : j < ys.length
      · rw [List.getElem?_append_left hj] at hz
        exact hr j z hz
      · rw [List.getElem?_append_right (by omega)] at hz
        have e : j = i := by
          have := (List.getElem?_eq_some_iff.mp hz).1
          simp at this
          omega
        subst e
        rw [hl, Nat.sub_self] at hz
        simp at hz
        rw [← hz]
        exact r
  · obtain ⟨s, ys, hy, hl, hr⟩ := p
    exact hd H ys s hy hl hr
theorem vals_bl {n : Nat} {ys : List V} {f : Nat → Bool} (hl : ys.length = n) (h : ∀ i y, ys[i]? = some y → y = V.bl (f i)) : ys = ((List.range n).map f).map V.bl := by
  refine List.ext_getElem? fun i => ?_
  by_cases hi : i < n
  · have hi' : i < ys.length := by omega
    have e := h i ys[i] (by simp [hi'])
    simp [hi, hi', e]
  · rw [List.getElem?_eq_none (by omega), List.getElem?_eq_none (by simp; omega)]
theorem vals_int {n : Nat} {ys : List V} {f : Nat → Int} (hl : ys.length = n) (h : ∀ i y, ys[i]? = some y → y = V.int (f i)) : ys = ((List.range n).map f).map V.int := by
  refine List.ext_getElem? fun i => ?_
  by_cases hi : i < n
  · have hi' : i < ys.length := by omega
    have e := h i ys[i] (by simp [hi'])
    simp [hi, hi', e]
  · rw [List.getElem?_eq_none (by omega), List.getElem?_eq_none (by simp; omega)]

def nI (ns : List Nat) : List Int := ns.map fun (n : Nat) => (n : Int)
theorem nI_length (ns : List Nat) : (nI ns).length = ns.length := by simp [nI]
/-- a row as data -/
def rowD (ns : List Nat) : PyData := .tuple ((nI ns).map PyData.int)

/-! ### errors with one field -/
def spErr (C : Addr) (f : Str) : Sp := fun vs H Q _ => ∃ (a : Addr) (y : V), vs = [.ref a, y] ∧ H a = some (exo a C none) ∧ ∀ dx, H dx = none → dx ≠ a → Q .non (upd (upd H dx (exd dx [(f, y)])) a (exo a C (some dx)))
structure ErT (K : PySem.W.Frag) (mg : Str → Option Value) (x f q : Str) (st : Stmt) (C fI : Addr) (fd : FuncData) : Prop where
  oex : OexC K C
  xf : XfC K C
  no : PySem.W.findIn K (.ref C) f = some none
  mgC : mg x = some (.ref C)
  iC : PySem.W.findIn K (.ref C) "__init__" = some (some (.ref fI))
  tI : PySem.W.typeIn K (.ref fI) = some (.type "function")
  fn : Fun K "__init__" q st fI fd
  b : Binds K fd ["self", f] []
structure ErC (P : Program) (w : World) (K : PySem.W.Frag) (mg : Str → Option Value) (base : Heap) (x f : Str) (C : Addr) : Prop where
  ex : ∃ (fI : Addr) (fd : FuncData), PySem.W.findIn K (.ref C) "__init__" = some (some (.ref fI)) ∧ PySem.W.typeIn K (.ref fI) = some (.type "function") ∧ Binds K fd ["self", f] [] ∧ FnOk P w K mg base CX0 1 fI fd ["self", f] (spErr C f)
  oex : OexC K C
  xf : XfC K C
  no : PySem.W.findIn K (.ref C) f = some none
  mgC : mg x = some (.ref C)
/-- raise X(e): what the making of the error asks of its argument's value -/
def rzQ (C : Addr) (f : Str) (W : WX) (σ : L2.St) (y : V) (H1 : Hp) : Prop := ([y] : List V).length ≤ 1000 ∧ ∀ a, H1 a = none → spErr C f (.ref a :: ([y] ++ [])) (upd H1 a (exo a C none))
  (fun v H2 => v = .non ∧ ∃ (d : Addr) (fs : List (Str × V)), H2 a = some (exo a C (some d)) ∧ H2 d = some (exd d fs) ∧ H1 d = none ∧ W (.ref C) (some d) σ (upd (del H2 a) d (.xd fs))) (fun _ _ _ => False)
def tRz (C : Addr) (f : Str) (W : WX) (te : TE) : TS := fun _ σ H => te σ H fun y H1 => rzQ C f W σ y H1
theorem rz_ok {C : Addr} {f : Str} {W : WX} {σ : L2.St} {y : V} {H1 : Hp} (h : ∀ d, H1 d = none → W (.ref C) (some d) σ (upd H1 d (.xd [(f, y)]))) : rzQ C f W σ y H1 := by
  refine ⟨(by show 1 ≤ 1000; omega), fun a ha => ⟨a, y, rfl, upd_same, fun dx hd hne => ⟨rfl, dx, [(f, y)], upd_same, ?_, ?_, ?_⟩⟩⟩
  · rw [upd_ne hne, upd_same]
  · rwa [upd_ne hne] at hd
  · have hd1 : H1 dx = none := by rwa [upd_ne hne] at hd
    have e : upd (del (upd (upd (upd H1 a (exo a C none)) dx (exd dx [(f, y)])) a (exo a C (some dx))) a) dx (.xd [(f, y)]) = upd H1 dx (.xd [(f, y)]) := by
      funext b
      by_cases h1 : b = dx
      · rw [h1, upd_same, upd_same]
      · rw [upd_ne h1, upd_ne h1]
        by_cases h2 : b = a
        · rw [h2, del_same, ha]
        · rw [del_ne h2, upd_ne h2, upd_ne h1, upd_ne h2]
    rw [e]
    exact h dx hd1
theorem ps_rz {X : Cx} {x f : Str} {C : Addr} {W : WX} {e : Expr} {te : TE} {p pos pos' : Pos} (hc : X.calm = true) (T : ErC X.prog X.w X.K X.mg X.base x f C) (hr : Room 2 X.A) (tk : Takes X W) (hg : Gl X x) (he : PE X e te)
    (hdb : (x == ("__debug__" : Str)) = false := by decide) (hse : starEach [e] X.env = (false, eval e X.env) :: starEach [] X.env := by rfl) :
    PS X (.Raise (some (.Call (.Name x p) [e] [] pos)) none pos') (tRz C f W te) := by
  obtain ⟨fI, fd, iC, tI, bI, F⟩ := T.ex
  refine ⟨fun pins s σ H D I h => ?_⟩
  exact (ps_raise hc tk (pmk_oex T.oex iC tI F hr bI .nil pass0 hg T.mgC (pa_cons (hs := hse) he pa_nil) hdb hse (by rfl))).run pins s σ H D I h
section
variable {P : Program} {w : World} {K : PySem.W.Frag} {mg : Str → Option Value} {base : Heap} {C fI : Addr} {fd : FuncData}
theorem ErT.ok {x f q : Str} {st : Stmt} (T : ErT K mg x f q st C fI fd) (S : FnScope ["self", f] ["self", f] (defScope st))
    (hb : ∀ (cdv : Value) (A : Around) (outer : List Env) (s : Shared) (H : Hp) (E : XK), PSs (cxOf CX0 P w K mg base ["self", f] q (defScope st) fI cdv A outer s H E).nox (defBody st) (tOst K f (tVar 0) (tVar 1))) :
    ErC P w K mg base x f C := by
  refine ⟨⟨fI, fd, T.iC, T.tI, T.b, ?_⟩, T.oex, T.xf, T.no, T.mgC⟩
  refine T.fn.ok S (fun vs H Q E h => ?_) (fun cdv A outer s H vs Q E hr h => ?_)
  · obtain ⟨a, y, rfl, _⟩ := h
    rfl
  · obtain ⟨a, y, rfl, ha, k⟩ := h
    exact ⟨_, hb cdv A outer s H E, _, rfl, _, rfl, a, C, rfl, T.oex, T.no, .inl ⟨ha, k⟩⟩
theorem ErT.mk' {h : Heap} {x f q : Str} {st : Stmt} {nm qc : Str} {N : Addr} {bs bm : List Value} {sn : List Str} {sub : List Value} {ab : Bool} {col : Option Bool} {dd : Option Addr} {k0 k1 k2 k3 k5 : Option Value} {oc : Value} {od an : Option Addr} {osl : Array (Option Value)} {kV doc pm cdv ct : Value}
    (X : K.In h) (G : h.Ns mainGlobals mg) (aC : PySem.W.nsIn K mainGlobals x = some (some (.ref C))) (xL : K.lookup C = some (excClassObj nm qc C N bs bm true sn sub ab col dd k0 k1 k2 k3 k5 "ValueError.__new__")) (rv : PySem.HandSPX.refsVE bm = true)
    (sa : PySem.W.findIn K (.ref C) "__setattr__" = some (some (.builtin "object.__setattr__"))) (ga : PySem.W.findIn K (.ref C) "__getattribute__" = some (some (.builtin "BaseException.__getattribute__"))) (gg : PySem.W.findIn K (.ref C) "__getattr__" = some none) (nb : PySem.W.findIn K (.ref C) f = some none)
    (a1 : PySem.W.findIn K (.ref C) "__init__" = some (some (.ref fI))) (t1 : PySem.W.typeIn K (.ref fI) = some (.type "function")) (l1 : K.lookup fI = some ⟨oc, od, .func (PySem.W.fnOf "__init__" q (defArgs st) (defBody st) (defScope st) .none kV doc pm an cdv ct), osl⟩) (c1 : PySem.W.codeIn K cdv q = true) (k1' : PySem.W.keepIn K (.ref fI) = true)
    (kC : PySem.W.keepIn K (.ref C) = true) (eC : PySem.W.subIn K (.ref C) (.type "BaseException") = some true) (tC : PySem.W.typeIn K (.ref C) = some (.type "type")) (hC : PySem.W.hasDictIn K C = true)
    (hb : ∀ (kV doc pm : Value) (an : Option Addr) (cdv ct : Value) (us : List Value), us.length = (["self", f] : List Str).length → bindArgs (PySem.W.fnOf "__init__" q (defArgs st) (defBody st) (defScope st) .none kV doc pm an cdv ct) ⟨us, []⟩ = pure ((["self", f] : List Str).zip us)) :
    ErT K mg x f q st C fI (PySem.W.fnOf "__init__" q (defArgs st) (defBody st) (defScope st) .none kV doc pm an cdv ct) :=
  ⟨⟨⟨nm, qc, N, bs, bm, sn, sub, ab, col, dd, k0, k1, k2, k3, k5, xL, rv⟩, sa, eC, tC, kC⟩, ⟨ga, gg, eC, hC⟩, nb, PySem.W.mg_of X G aC, a1, t1, fun_mk l1 c1 k1', (fun_mk l1 c1 k1').binds hb⟩

end

def itm : PyData → List PyData
  | .tuple xs => xs
  | _ => []
def boOf : PyData → Bool
  | .bool b => b
  | _ => false
def iOf : PyData → Int
  | .int i => i
  | _ => 0

section
variable {K : PySem.W.Frag} {H : Hp}
theorem _root_.L2.DpAll.at_ {xs : List V} {ds : List PyData} (h : DpAll K H xs ds) {i : Nat} (hi : i < ds.length) : ∃ x, xs[i]? = some x ∧ atI xs (i : Int) = some x ∧ Dp K H x (ds.getD i .none) := by
  obtain ⟨x, h1, h2⟩ := DpAll.get h (i := i) (d := ds.getD i .none) (by simp [hi])
  exact ⟨x, h1, atI_nat h1, h2⟩
theorem isTn_tup {d : PyData} {n : Int} (h : isTn d n = true) : ∃ ds, d = .tuple ds ∧ (ds.length : Int) = n := by
  cases d with
  | tuple ds => exact ⟨ds, rfl, by simpa [isTn] using h⟩
  | _ => cases h
end

/-- x is not b -/
def rNotBA : R2 := fun x y H Q => ∃ b : Bool, y = .bl b ∧ Q (.bl (!decide (x = .bl b))) H
theorem op_notBA {X : Cx} : OpR X (compareOp .IsNot) rNotBA := by
  intro pins s σ H x y v u Q I rx ry h
  obtain ⟨b, rfl, q⟩ := h
  cases (show u = Value.bool b from ry)
  have fin : ∀ c, (x = .bl b) = (c = true) → decide (x = .bl b) = c → EP X pins σ Q (.bool (!c)) s := fun c _ e => ⟨.bl (!c), H, I, rfl, by rw [← e]; exact q⟩
  by_cases e : x = .bl b
  · subst e
    cases (show v = Value.bool b from rx)
    exact wpAny_isNot_self rfl ⟨.bl false, H, I, rfl, by simpa using q⟩
  · have e2 : (!decide (x = .bl b)) = true := by simpa using e
    rw [e2] at q
    have go : plainIs v (.bool b) = true ∧ v ≠ .bool b := by
      cases x with
      | non => cases (show v = Value.none from rx); exact ⟨rfl, fun z => by cases z⟩
      | bl c => cases (show v = Value.bool c from rx); exact ⟨rfl, fun z => by cases z; exact e rfl⟩
      | int i => obtain ⟨t, rfl⟩ := rx; exact ⟨rfl, fun z => by cases z⟩
      | str i => obtain ⟨t, rfl⟩ := rx; exact ⟨rfl, fun z => by cases z⟩
      | byt i => obtain ⟨t, rfl⟩ := rx; exact ⟨rfl, fun z => by cases z⟩
      | flt i => obtain ⟨t, rfl⟩ := rx; exact ⟨rfl, fun z => by cases z⟩
      | ref i => cases (show v = Value.ref i from rx); exact ⟨rfl, fun z => by cases z⟩
      | ty i => cases (show v = Value.type i from rx); exact ⟨rfl, fun z => by cases z⟩
    exact wpAny_isNot_other go.1 go.2 ⟨.bl true, H, I, rfl, q⟩

theorem exm_of {K : PySem.W.Frag} {S c : Addr} {b : Bool} (h1 : PySem.W.subIn K (.ref S) (.type "BaseException") = some true) (h2 : PySem.W.isClsIn K S = true) (h3 : PySem.W.typeIn K (.ref S) = some (.type "type")) (h4 : PySem.W.subIn K (.ref c) (.ref S) = some b) :
    PySem.W.exmOne K (.ref c) (.ref S) = some b := by
  have e1 : (PySem.W.subIn K (.ref S) (.type "BaseException") == some true) = true := by rw [h1] <;> rfl
  have e2 : ((PySem.W.clsIn K S).isSome && PySem.W.typeIn K (.ref S) == some (.type "type")) = true := by
    have h2' : (PySem.W.clsIn K S).isSome = true := h2
    rw [h2', h3] <;> rfl
  show (if (PySem.W.subIn K (.ref S) (.type "BaseException") == some true) = true then (if ((PySem.W.clsIn K S).isSome && PySem.W.typeIn K (.ref S) == some (.type "type")) = true then PySem.W.subIn K (.ref c) (.ref S) else none) else none) = some b
  rw [if_pos e1, if_pos e2]
  exact h4

theorem getD_map {α β : Type} (f : α → β) (l : List α) (i : Nat) (d : α) (e : β) (h : i < l.length) : (l.map f).getD i e = f (l.getD i d) := by simp [h]

/-! ### repr of small data -/
structure Sm (N D : Nat) (d : PyData) : Prop where
  sh : d.showable = true
  lv : d.leavesShort 61 = true
  nd : d.hasDict = false
  bk : d.bulk ≤ N
  dp : d.depth ≤ D
structure SmA (N D : Nat) (xs : List PyData) : Prop where
  sh : PyData.showableAll xs = true
  lv : PyData.leavesShortAll 61 xs = true
  nd : PyData.hasDictAll xs = false
  bk : PyData.bulkAll xs ≤ N
  dp : PyData.depthAll xs ≤ D
theorem Sm.none' {N D : Nat} : Sm N D .none := ⟨rfl, rfl, rfl, Nat.zero_le _, Nat.zero_le _⟩
theorem Sm.bl' {N D : Nat} {b : Bool} : Sm N D (.bool b) := ⟨rfl, rfl, rfl, Nat.zero_le _, Nat.zero_le _⟩
theorem log_60 {n : Nat} (h : n < 10 ^ 60) : n.log2 < 1920 := by
  by_cases e : n = 0
  · subst e; decide
  · have : n.log2 < 200 := by
      rw [Nat.log2_lt e]
      exact Nat.lt_of_lt_of_le h (by decide)
    omega
theorem Sm.int' {N D : Nat} {i : Int} (h : i.natAbs < 10 ^ 60) : Sm N D (.int i) := by
  refine ⟨by simp only [PyData.showable, decide_eq_true_eq]; exact log_60 h, ?_, rfl, Nat.zero_le _, Nat.zero_le _⟩
  have e := int_text_length_le10 (k := 60) (by decide) h
  simp only [PyData.leavesShort, decide_eq_true_eq]
  show (Str.ofString (toString i)).length ≤ 61
  rw [PySem.ofString_length]; exact e
theorem SmA.nil' {N D : Nat} : SmA N D [] := ⟨rfl, rfl, rfl, Nat.zero_le _, Nat.zero_le _⟩
theorem SmA.cons' {N n m D : Nat} {x : PyData} {xs : List PyData} (h : Sm n D x) (r : SmA m D xs) (e : n + 1 + m ≤ N) : SmA N D (x :: xs) := by
  refine ⟨by simp only [PyData.showableAll, h.sh, r.sh, Bool.and_self], by simp only [PyData.leavesShortAll, h.lv, r.lv, Bool.and_self], by simp only [PyData.hasDictAll, h.nd, r.nd, Bool.or_self], ?_, ?_⟩
  · have := h.bk
    have := r.bk
    simp only [PyData.bulkAll]
    omega
  · have := h.dp
    have := r.dp
    simp only [PyData.depthAll]
    omega
theorem SmA.of_all {n D : Nat} : ∀ {xs : List PyData}, (∀ x ∈ xs, Sm n D x) → SmA ((n + 1) * xs.length) D xs
  | [], _ => SmA.nil'
  | x :: xs, h => SmA.cons' (h x (List.mem_cons_self ..)) (SmA.of_all fun y hy => h y (List.mem_cons_of_mem _ hy)) (by rw [List.length_cons, Nat.mul_succ]; omega)
theorem SmA.mono {N M D : Nat} {xs : List PyData} (h : SmA N D xs) (e : N ≤ M) : SmA M D xs := ⟨h.sh, h.lv, h.nd, Nat.le_trans h.bk e, h.dp⟩
theorem SmA.tup {N D : Nat} {xs : List PyData} (h : SmA N D xs) : Sm N (D + 1) (.tuple xs) :=
  ⟨by simpa only [PyData.showable] using h.sh, by simpa only [PyData.leavesShort] using h.lv, by simpa only [PyData.hasDict] using h.nd, by simpa only [PyData.bulk] using h.bk, by simp only [PyData.depth]; have := h.dp; omega⟩
theorem Sm.mono {N M D C : Nat} {d : PyData} (h : Sm N D d) (e : N ≤ M) (f : D ≤ C) : Sm M C d := ⟨h.sh, h.lv, h.nd, Nat.le_trans h.bk e, Nat.le_trans h.dp f⟩
theorem Sm.fits {N D : Nat} {d : PyData} (h : Sm N D d) (e : N ≤ 200000) : d.shown.length ≤ sizeLine := by
  have h1 := PyData.shown_le_bulk 61 (by decide) d h.lv
  have h2 := h.bk
  rw [sizeLine_eq]
  omega
theorem Sm.ints {N : Nat} {ns : List Nat} (h : ∀ n ∈ ns, n < 10 ^ 60) (e : ns.length ≤ N) : Sm N 1 (rowD ns) := by
  refine SmA.tup (SmA.mono (SmA.of_all (n := 0) fun x hx => ?_) (by rw [List.length_map, nI_length]; omega))
  obtain ⟨i, hi, rfl⟩ := List.mem_map.mp hx
  obtain ⟨n, hn, rfl⟩ := List.mem_map.mp hi
  exact Sm.int' (by have := h n hn; simpa using this)
def spLike (K : PySem.W.Frag) : Sp := fun vs H Q _ => ∃ (v u : V) (d : PyData) (N D : Nat), vs = [v, u] ∧ Dp K H v d ∧ Dp K H u d ∧ Sm N D d ∧ N ≤ 200000 ∧ D ≤ 60 ∧ Q (.bl true) H

/-! ### the law's state -/
/-- all but the dict at a and the list at l stands as before -/
def Sbt (a l : Addr) (H H' : Hp) : Prop := ∀ b o, H b = some o → b ≠ a → b ≠ l → H' b = some o
theorem Sbt.refl {a l : Addr} (H : Hp) : Sbt a l H H := fun _ _ e _ _ => e
theorem Sbt.trans {a l : Addr} {H H1 H2 : Hp} (h : Sbt a l H H1) (k : Sbt a l H1 H2) : Sbt a l H H2 := fun b o e h1 h2 => k b o (h b o e h1 h2) h1 h2
theorem Sbt.of {a l : Addr} {H H1 : Hp} (h : Same H H1) : Sbt a l H H1 := fun b o e _ _ => h b o e
theorem Sbt.same {a l : Addr} {H H1 H2 : Hp} (h : Sbt a l H H1) (k : Same H1 H2) : Sbt a l H H2 := fun b o e h1 h2 => k b o (h b o e h1 h2)
theorem Sbt.mut {a l p : Addr} {o : HO} {H H1 : Hp} (h : Sbt a l H H1) (n : H p = none) : Sbt a l H (upd H1 p o) := fun b u e h1 h2 => by
  rw [upd_ne (ne_of_none e n)]
  exact h b u e h1 h2
theorem Sbt.a {a l : Addr} {o : HO} {H H1 : Hp} (h : Sbt a l H H1) : Sbt a l H (upd H1 a o) := fun b u e h1 h2 => by
  rw [upd_ne h1]
  exact h b u e h1 h2
theorem Sbt.l {a l : Addr} {o : HO} {H H1 : Hp} (h : Sbt a l H H1) : Sbt a l H (upd H1 l o) := fun b u e h1 h2 => by
  rw [upd_ne h2]
  exact h b u e h1 h2
def stK (c l : Addr) (m : Nat) : List (Key × V) := [(.inr "cells", .ref c), (.inr "lefts", .ref l), (.inr "at", .int m)]
structure LStX (H : Hp) (a l : Addr) (n : Nat) (c : Addr) (cs ls : List Int) (m : Nat) : Prop where
  top : H a = some (.dK (stK c l m))
  cells : H c = some (.lst (cs.map V.int))
  lefts : H l = some (.lst (ls.map V.int))
  len : ls.length = cs.length
  pos : 0 < cs.length
  few : m ≤ n
  apart : c ≠ l
def LSt (H : Hp) (a l c : Addr) (n : Nat) : Prop := ∃ cs ls m, LStX H a l n c cs ls m
theorem LSt.same {H H' : Hp} {a l c : Addr} {n : Nat} (h : LSt H a l c n) (e : Same H H') : LSt H' a l c n := by
  obtain ⟨cs, ls, m, h⟩ := h
  exact ⟨cs, ls, m, e _ _ h.top, e _ _ h.cells, e _ _ h.lefts, h.len, h.pos, h.few, h.apart⟩
theorem LSt.mono {H : Hp} {a l c : Addr} {n k : Nat} (h : LSt H a l c n) (e : n ≤ k) : LSt H a l c k := by
  obtain ⟨cs, ls, m, h⟩ := h
  exact ⟨cs, ls, m, h.top, h.cells, h.lefts, h.len, h.pos, Nat.le_trans h.few e, h.apart⟩
/-- what is not the state's own may change -/
theorem LSt.put {H : Hp} {a l c p : Addr} {n : Nat} {o : HO} (h : LSt H a l c n) (e1 : p ≠ a) (e2 : p ≠ l) (e3 : p ≠ c) : LSt (upd H p o) a l c n := by
  obtain ⟨cs, ls, m, h⟩ := h
  exact ⟨cs, ls, m, by rw [upd_ne (Ne.symm e1)]; exact h.top, by rw [upd_ne (Ne.symm e3)]; exact h.cells, by rw [upd_ne (Ne.symm e2)]; exact h.lefts, h.len, h.pos, h.few, h.apart⟩
/-- what is none of the state's own -/
theorem LSt.off {H : Hp} {a l c p : Addr} {n : Nat} (h : LSt H a l c n) (e : H p = none) : p ≠ a ∧ p ≠ l ∧ p ≠ c := by
  obtain ⟨cs, ls, m, h⟩ := h
  exact ⟨Ne.symm (ne_of_none h.top e), Ne.symm (ne_of_none h.lefts e), Ne.symm (ne_of_none h.cells e)⟩
theorem LSt.new {H : Hp} {a l c p : Addr} {n : Nat} {o : HO} (h : LSt H a l c n) (e : H p = none) : LSt (upd H p o) a l c n := by
  obtain ⟨e1, e2, e3⟩ := h.off e
  exact h.put e1 e2 e3
section
variable {K : PySem.W.Frag}
mutual
def noList : PyData → Bool
  | .list _ => false
  | .tuple xs => noListAll xs
  | .dict _ => false
  | _ => true
def noListAll : List PyData → Bool
  | [] => true
  | x :: xs => noList x && noListAll xs
end
/-- at a stands no tuple -/
structure NoT (H : Hp) (a : Addr) : Prop where
  tup : ∀ xs, H a ≠ some (.tup xs)
  frz : ∀ o u, H a ≠ some (.frz o u)
theorem NoT.lst {H : Hp} {a : Addr} {xs : List V} (h : H a = some (.lst xs)) : NoT H a := ⟨(fun _ z => by rw [h] at z; cases z), (fun _ _ z => by rw [h] at z; cases z)⟩
theorem NoT.dK {H : Hp} {a : Addr} {xs : List (Key × V)} (h : H a = some (.dK xs)) : NoT H a := ⟨(fun _ z => by rw [h] at z; cases z), (fun _ _ z => by rw [h] at z; cases z)⟩
theorem LSt.noA {H : Hp} {a l c : Addr} {n : Nat} (s : LSt H a l c n) : NoT H a := by
  obtain ⟨cs, ls, m, s⟩ := s
  exact .dK s.top
theorem LSt.noL {H : Hp} {a l c : Addr} {n : Nat} (s : LSt H a l c n) : NoT H l := by
  obtain ⟨cs, ls, m, s⟩ := s
  exact .lst s.lefts
theorem seqTN {H H' : Hp} {a l b : Addr} {xs : List V} (e : Sbt a l H H') (na : NoT H a) (nl : NoT H l) (h : SqT K H b xs) : SqT K H' b xs := by
  rcases h with (h | ⟨o, h⟩) | h
  · exact .inl (.inl (e _ _ h (fun z => na.tup xs (by rw [← z]; exact h)) (fun z => nl.tup xs (by rw [← z]; exact h))))
  · exact .inl (.inr ⟨o, e _ _ h (fun z => na.frz _ _ (by rw [← z]; exact h)) (fun z => nl.frz _ _ (by rw [← z]; exact h))⟩)
  · exact .inr h
theorem Sbt.seqT {H H' : Hp} {a l c b : Addr} {n : Nat} {xs : List V} (e : Sbt a l H H') (s : LSt H a l c n) (h : SqT K H b xs) : SqT K H' b xs := seqTN e s.noA s.noL h
mutual
theorem keepN {H H' : Hp} {a l : Addr} (e : Sbt a l H H') (na : NoT H a) (nl : NoT H l) : ∀ (d : PyData) (v : V), noList d = true → Dp K H v d → Dp K H' v d
  | .none, _, _, h => by cases h; exact .non
  | .bool b, _, _, h => by cases h; exact .bl b
  | .int i, _, _, h => by cases h; exact .int i
  | .str x, _, _, h => by cases h; exact .str x
  | .list ds, _, q, h => by cases q
  | .tuple ds, _, q, h => by
    cases h with
    | tup hs ha => exact .tup (seqTN e na nl hs) (keepNs e na nl ds _ (by simpa only [noList] using q) ha)
  | .dict _, _, _, h => by cases h
theorem keepNs {H H' : Hp} {a l : Addr} (e : Sbt a l H H') (na : NoT H a) (nl : NoT H l) : ∀ (ds : List PyData) (vs : List V), noListAll ds = true → DpAll K H vs ds → DpAll K H' vs ds
  | [], _, _, h => by cases h; exact .nil
  | d :: ds, _, q, h => by
    cases h with
    | cons h1 h2 =>
      simp only [noListAll, Bool.and_eq_true] at q
      exact .cons (keepN e na nl d _ q.1 h1) (keepNs e na nl ds _ q.2 h2)
end
theorem keepT {H H' : Hp} {a l c : Addr} {n : Nat} (e : Sbt a l H H') (s : LSt H a l c n) (d : PyData) (v : V) (q : noList d = true) (h : Dp K H v d) : Dp K H' v d := keepN e s.noA s.noL d v q h
theorem keepTs {H H' : Hp} {a l c : Addr} {n : Nat} (e : Sbt a l H H') (s : LSt H a l c n) (ds : List PyData) (vs : List V) (q : noListAll ds = true) (h : DpAll K H vs ds) : DpAll K H' vs ds := keepNs e s.noA s.noL ds vs q h
/-- a list that changes -/
theorem keepLs {H : Hp} {p : Addr} {xs : List V} {o : HO} (hp : H p = some (.lst xs)) {ds : List PyData} {vs : List V} (q : noListAll ds = true) (h : DpAll K H vs ds) : DpAll K (upd H p o) vs ds :=
  keepNs (a := p) (l := p) (Sbt.refl H).a (.lst hp) (.lst hp) ds vs q h
theorem keepL {H : Hp} {p : Addr} {xs : List V} {o : HO} (hp : H p = some (.lst xs)) {d : PyData} {v : V} (q : noList d = true) (h : Dp K H v d) : Dp K (upd H p o) v d :=
  keepN (a := p) (l := p) (Sbt.refl H).a (.lst hp) (.lst hp) d v q h
theorem noListAll_of : ∀ {xs : List PyData}, (∀ x ∈ xs, noList x = true) → noListAll xs = true
  | [], _ => rfl
  | x :: xs, h => by
    simp only [noListAll, Bool.and_eq_true]
    exact ⟨h x (List.mem_cons_self ..), noListAll_of fun y hy => h y (List.mem_cons_of_mem _ hy)⟩
theorem noList_row (ns : List Nat) : noList (rowD ns) = true := by
  simp only [rowD, noList]
  exact noListAll_of fun x hx => by obtain ⟨i, _, rfl⟩ := List.mem_map.mp hx; rfl
theorem noList_rows (rows : List (List Nat)) : noListAll (rows.map rowD) = true := noListAll_of fun x hx => by obtain ⟨r, _, rfl⟩ := List.mem_map.mp hx; exact noList_row r
end
def spMixed : Sp := fun vs H Q _ => ∃ i k : Int, vs = [.int i, .int k] ∧ 0 ≤ k ∧ k ≤ 10000000 ∧ ∀ r : Int, 0 ≤ r → r < 2147483629 → Q (.int r) H
def spDraw : Sp := fun vs H Q _ => ∃ (a l c : Addr) (n : Nat) (lim : Int), vs = [.ref a, .int lim] ∧ LSt H a l c n ∧ n ≤ 1000000 ∧ 1 ≤ lim ∧ lim < 2 ^ 60 ∧ ∀ H' (r : Int), Sbt a l H H' → LSt H' a l c (n + 1) → 0 ≤ r → r < lim → Q (.int r) H'

theorem ks1 : ¬ (("cells" : Str) = "at") := by decide +kernel
theorem ks2 : ¬ (("lefts" : Str) = "at") := by decide +kernel
theorem ks3 : ¬ (("cells" : Str) = "lefts") := by decide +kernel
theorem dg_cells {H : Hp} {a c l : Addr} {m : Nat} (h : H a = some (.dK (stK c l m))) : DGet H a (V.str "cells") (some (.ref c)) := by
  have e : valV (stK c l m) (.inr "cells" : Key) = some (.ref c) := valV_pos rfl
  rw [← e]
  exact DGet.k (k := (Sum.inr ("cells" : Str) : Key)) h
theorem dg_lefts {H : Hp} {a c l : Addr} {m : Nat} (h : H a = some (.dK (stK c l m))) : DGet H a (V.str "lefts") (some (.ref l)) := by
  have e : valV (stK c l m) (.inr "lefts" : Key) = some (.ref l) := by simp [valV, stK, List.find?, ks3]
  rw [← e]
  exact DGet.k (k := (Sum.inr ("lefts" : Str) : Key)) h
theorem dg_at {H : Hp} {a c l : Addr} {m : Nat} (h : H a = some (.dK (stK c l m))) : DGet H a (V.str "at") (some (.int m)) := by
  have e : valV (stK c l m) (.inr "at" : Key) = some (.int m) := by simp [valV, stK, List.find?, ks1, ks2]
  rw [← e]
  exact DGet.k (k := (Sum.inr ("at" : Str) : Key)) h
theorem dp_at {H : Hp} {a c l : Addr} {m : Nat} (h : H a = some (.dK (stK c l m))) : DPut H a (V.str "at") (V.int ((m : Int) + 1)) (upd H a (.dK (stK c l (m + 1)))) := by
  have e : putK (stK c l m) (.inr "at" : Key) (V.int ((m : Int) + 1)) = stK c l (m + 1) := by simp [putK, stK, ks1, ks2]
  rw [← e]
  exact DPut.k (k := (Sum.inr ("at" : Str) : Key)) h (by show 3 < sizeLine; decide)

theorem Sbt.free {a l q : Addr} {H H' : Hp} (e : Sbt a l H H') (h : H' q = none) (na : q ≠ a) (nl : q ≠ l) : H q = none := by
  cases hq : H q with
  | none => rfl
  | some o =>
    have := e q o hq na nl
    rw [h] at this
    cases this
theorem dp_bools {K : PySem.W.Frag} {H : Hp} : ∀ bs : List Bool, DpAll K H (bs.map V.bl) (bs.map PyData.bool)
  | [] => .nil
  | b :: bs => .cons (.bl b) (dp_bools bs)
/-- a comprehension whose elements draw -/
theorem lcD {J : It} {n : Nat} {G : Hp → Prop} {Y : Nat → Hp → V → Hp → Prop} (w : Walk J n G Y) {g : TG} {te : TE} {vs : List Nat} {σ : L2.St} {H1 : Hp} {D : Addr} {Qd : Hp → Prop} {a l c : Addr} {m : Nat} (st : Nat) (hD : H1 D = none) (hn : n < sizeLine) (R : Nat → V → Prop)
    (hl : LSt H1 a l c m) (hG : ∀ H, G H)
    (hs : ∀ i x H H' (Q : VK), i < n → Sbt a l H1 H → LSt H a l c (m + i * st) → Y i H x H' → (∀ y H4, R i y → Sbt a l H H4 → LSt H4 a l c (m + (i + 1) * st) → Q y H4) → g x (wipe σ vs) H' fun σ2 H2 => wipe σ2 vs = wipe σ vs ∧ te σ2 H2 Q)
    (hd : ∀ H ys, Sbt a l H1 H → LSt H a l c (m + n * st) → H D = some (.lst ys) → ys.length = n → (∀ i y, ys[i]? = some y → R i y) → Qd H) :
    ∃ W : Nat → Nat → Hp → Prop, (∃ m, W 0 m (upd H1 D (.lst []))) ∧ ∀ i m H, W i m H →
      (J.stop i H ∧ Qd H) ∨ (J.go i H ∧ ∃ Nx : Hp → Prop, (∀ H', Nx H' → ∃ m', m' < m ∧ W (i + 1) m' H') ∧ ∀ x H', J.yld i H x H' → g x (wipe σ vs) H' fun σ2 H2 => wipe σ2 vs = wipe σ vs ∧ tYes σ2 H2 fun b H3 =>
        if b = true then te σ2 H3 fun y H4 => ∃ acc, H4 D = some (.lst acc) ∧ acc.length < sizeLine ∧ Nx (upd H4 D (.lst (acc ++ [y]))) else Nx H3) := by
  obtain ⟨da, dl, dc⟩ := hl.off hD
  refine lc_it w (fun i H => Sbt a l H1 H ∧ LSt H a l c (m + i * st) ∧ ∃ ys, H D = some (.lst ys) ∧ ys.length = i ∧ ∀ j y, ys[j]? = some y → R j y) ⟨(Sbt.refl H1).mut hD, by rw [Nat.zero_mul]; exact hl.new hD, [], upd_same, rfl, fun j y h => by simp at h⟩ (fun i H _ p => hG H) (fun i x H H' hi p y => ?_) (fun H p => ?_)
  · obtain ⟨s, sl, ys, hy, hlen, hr⟩ := p
    have q := hs i x H H' (fun y H4 => ∃ acc, H4 D = some (.lst acc) ∧ acc.length < sizeLine ∧ Sbt a l H1 (upd H4 D (.lst (acc ++ [y]))) ∧ LSt (upd H4 D (.lst (acc ++ [y]))) a l c (m + (i + 1) * st) ∧ ∃ ys, (upd H4 D (.lst (acc ++ [y]))) D = some (.lst ys) ∧ ys.length = i + 1 ∧ ∀ j y, ys[j]? = some y → R j y) hi s sl y (fun v H4 r s4 sl4 => ?_)
    · have e : (fun σ2 H2 => wipe σ2 vs = wipe σ vs ∧ tYes σ2 H2 fun b H3 =>
        if b = true then te σ2 H3 fun y H4 => ∃ acc, H4 D = some (.lst acc) ∧ acc.length < sizeLine ∧ Sbt a l H1 (upd H4 D (.lst (acc ++ [y]))) ∧ LSt (upd H4 D (.lst (acc ++ [y]))) a l c (m + (i + 1) * st) ∧ ∃ ys, (upd H4 D (.lst (acc ++ [y]))) D = some (.lst ys) ∧ ys.length = i + 1 ∧ ∀ j y, ys[j]? = some y → R j y
        else Sbt a l H1 H3 ∧ LSt H3 a l c (m + (i + 1) * st) ∧ ∃ ys, H3 D = some (.lst ys) ∧ ys.length = i + 1 ∧ ∀ j y, ys[j]? = some y → R j y) =
        (fun σ2 H2 => wipe σ2 vs = wipe σ vs ∧ te σ2 H2 fun y H4 => ∃ acc, H4 D = some (.lst acc) ∧ acc.length < sizeLine ∧ Sbt a l H1 (upd H4 D (.lst (acc ++ [y]))) ∧ LSt (upd H4 D (.lst (acc ++ [y]))) a l c (m + (i + 1) * st) ∧ ∃ ys, (upd H4 D (.lst (acc ++ [y]))) D = some (.lst ys) ∧ ys.length = i + 1 ∧ ∀ j y, ys[j]? = some y → R j y) := by
        funext σ2 H2
        simp only [tYes, if_true]
      rw [e]
      exact q
    · refine ⟨ys, s4 _ _ hy da dl, by omega, (Sbt.trans s s4).mut hD, sl4.put da dl dc, _, upd_same, by simp [hlen], fun j z hz => ?_⟩
      by_cases hj : j < ys.length
      · rw [List.getElem?_append_left hj] at hz
        exact hr j z hz
      · rw [List.getElem?_append_right (by omega)] at hz
        have e : j = i := by
          have := (List.getElem?_eq_some_iff.mp hz).1
          simp at this
          omega
        subst e
        rw [hlen, Nat.sub_self] at hz
        simp at hz
        rw [← hz]
        exact r
  · obtain ⟨s, sl, ys, hy, hlen, hr⟩ := p
    exact hd H ys s sl hy hlen hr
/-- items that are numbers below a bound -/
theorem ints_of {ys : List V} {b : Nat} (h : ∀ (i : Nat) (y : V), ys[i]? = some y → ∃ r : Nat, y = V.int r ∧ r < b) : ∃ cs : List Nat, ys = (nI cs).map V.int ∧ cs.length = ys.length ∧ ∀ c ∈ cs, c < b := by
  induction ys with
  | nil => exact ⟨[], rfl, rfl, fun c hc => absurd hc (by simp)⟩
  | cons y ys ih =>
    obtain ⟨cs, h1, h2, h3⟩ := ih fun i z hz => h (i + 1) z (by simpa using hz)
    obtain ⟨r, h4, h5⟩ := h 0 y rfl
    refine ⟨r :: cs, by rw [h4, h1]; rfl, by simp [h2], fun c hc => ?_⟩
    rcases List.mem_cons.mp hc with e | e
    · rw [e]; exact h5
    · exact h3 c e
theorem bools_of {ys : List V} (h : ∀ (i : Nat) (y : V), ys[i]? = some y → ∃ b : Bool, y = V.bl b) : ∃ bs : List Bool, ys = bs.map V.bl ∧ bs.length = ys.length := by
  induction ys with
  | nil => exact ⟨[], rfl, rfl⟩
  | cons y ys ih =>
    obtain ⟨bs, h1, h2⟩ := ih fun i z hz => h (i + 1) z (by simpa using hz)
    obtain ⟨b, h4⟩ := h 0 y rfl
    exact ⟨b :: bs, by rw [h4, h1]; rfl, by simp [h2]⟩

section
variable {K : PySem.W.Frag} {H : Hp}
theorem cat_ok {a b : Addr} {xs ys : List V} {Q : VK} (h1 : SqT K H a xs) (h2 : SqT K H b ys) (hz : xs.length + ys.length ≤ sizeLine) (q : ∀ r H', Same H H' → SqT K H' r (xs ++ ys) → Q (.ref r) H') : rCatA K (.ref a) (.ref b) H Q := by
  refine ⟨a, b, xs, ys, rfl, rfl, h1, h2, hz, fun e => ?_, fun _ e => ?_, fun _ _ p hp => q p _ (Same.new hp) (.of upd_same)⟩
  · subst e
    exact q b H (Same.refl _) h2
  · subst e
    exact q a H (Same.refl _) (by rw [List.append_nil]; exact h1)
theorem sl_ok {a : Addr} {xs : List V} {lo hi : Option Int} {Q : VK} (h1 : SqT K H a xs) (q : ∀ r H', Same H H' → SqT K H' r (cutV xs lo hi) → Q (.ref r) H') : rSlA K (.ref a) lo hi H Q := by
  refine ⟨a, xs, rfl, h1, fun e => q a H (Same.refl _) ?_, fun _ p hp => q p _ (Same.new hp) (.of upd_same)⟩
  have : cutV xs lo hi = xs := by
    unfold cutV
    rw [e.1, e.2]
    simp
  rw [this]
  exact h1
theorem DpAll_cut {xs : List V} {ds : List PyData} (h : DpAll K H xs ds) (lo hi : Option Int) : ∃ es, DpAll K H (cutV xs lo hi) es ∧ (∀ d ∈ es, d ∈ ds) :=
  ⟨_, (h.drop _).take _, fun d hd => List.mem_of_mem_drop (List.mem_of_mem_take hd)⟩
end
theorem _root_.L2.SqT.to' {K : PySem.W.Frag} {H H' : Hp} {a : Addr} {xs : List V} (h : SqT K H a xs) (e : Same H H') : SqT K H' a xs := e.seqT h
/-! ### data that stays while the state, the lists of H0 change -/
def IsT (o : HO) : Prop := (∃ xs, o = .tup xs) ∨ ∃ ob u, o = .frz ob u
def Kp (H0 H H' : Hp) : Prop := ∀ b o, H b = some o → (H0 b = none ∨ IsT o) → H' b = some o
theorem Kp.refl {H0 H : Hp} : Kp H0 H H := fun _ _ e _ => e
theorem Kp.trans {H0 H H1 H2 : Hp} (h : Kp H0 H H1) (k : Kp H0 H1 H2) : Kp H0 H H2 := fun b o e c => k b o (h b o e c) c
theorem Kp.same {H0 H H1 : Hp} (h : Same H H1) : Kp H0 H H1 := fun b o e _ => h b o e
theorem Kp.sbt {H0 H H1 : Hp} {a l c : Addr} {n : Nat} (h : Sbt a l H H1) (s : LSt H a l c n) (ha : H0 a ≠ none) (hl : H0 l ≠ none) : Kp H0 H H1 := fun b o e k => by
  have nt : ∀ {x : Addr}, NoT H x → H0 x ≠ none → b ≠ x := fun {x} hn h0 z => by
    subst z
    rcases k with k | ⟨xs, k⟩ | ⟨ob, u, k⟩
    · exact h0 k
    · exact hn.tup xs (by rw [e, k])
    · exact hn.frz ob u (by rw [e, k])
  exact h b o e (nt s.noA ha) (nt s.noL hl)
theorem Kp.put {H0 H : Hp} {p : Addr} {xs : List V} {o : HO} (hp : H p = some (.lst xs)) (h0 : H0 p ≠ none) : Kp H0 H (upd H p o) := fun b u e k => by
  have : b ≠ p := fun z => by
    subst z
    rcases k with k | ⟨ys, k⟩ | ⟨ob, w, k⟩
    · exact h0 k
    · rw [hp] at e; cases e; cases k
    · rw [hp] at e; cases e; cases k
  rw [upd_ne this]
  exact e
def DpN (H0 : Hp) (K : PySem.W.Frag) (H : Hp) (v : V) (d : PyData) : Prop := ∀ H', Kp H0 H H' → Dp K H' v d
theorem DpN.dp {H0 H : Hp} {K : PySem.W.Frag} {v : V} {d : PyData} (h : DpN H0 K H v d) : Dp K H v d := h H .refl
theorem DpN.step {H0 H H' : Hp} {K : PySem.W.Frag} {v : V} {d : PyData} (h : DpN H0 K H v d) (e : Kp H0 H H') : DpN H0 K H' v d := fun H2 k => h H2 (e.trans k)
theorem DpN.base {H0 H1 H : Hp} {K : PySem.W.Frag} {v : V} {d : PyData} (h : DpN H1 K H v d) (e : ∀ b, H1 b = none → H0 b = none) : DpN H0 K H v d := fun H2 k => h H2 fun b o x y => k b o x (y.imp (e b) id)
theorem seqTK {H0 H H' : Hp} {K : PySem.W.Frag} {b : Addr} {xs : List V} (e : Kp H0 H H') (h : SqT K H b xs) : SqT K H' b xs := by
  rcases h with (h | ⟨o, h⟩) | h
  · exact .inl (.inl (e _ _ h (.inr (.inl ⟨_, rfl⟩))))
  · exact .inl (.inr ⟨o, e _ _ h (.inr (.inr ⟨_, _, rfl⟩))⟩)
  · exact .inr h
mutual
theorem DpN.flat {H0 H : Hp} {K : PySem.W.Frag} : ∀ (d : PyData) (v : V), noList d = true → Dp K H v d → DpN H0 K H v d
  | .none, _, _, h => by cases h; exact fun _ _ => .non
  | .bool b, _, _, h => by cases h; exact fun _ _ => .bl b
  | .int i, _, _, h => by cases h; exact fun _ _ => .int i
  | .str x, _, _, h => by cases h; exact fun _ _ => .str x
  | .list ds, _, q, h => by cases q
  | .tuple ds, _, q, h => by
    cases h with
    | tup hs ha => exact fun H' e => .tup (seqTK e hs) (DpN.flats ds _ (by simpa only [noList] using q) ha H' e)
  | .dict _, _, _, h => by cases h
theorem DpN.flats {H0 H : Hp} {K : PySem.W.Frag} : ∀ (ds : List PyData) (vs : List V), noListAll ds = true → DpAll K H vs ds → ∀ H', Kp H0 H H' → DpAll K H' vs ds
  | [], _, _, h, _, _ => by cases h; exact .nil
  | d :: ds, _, q, h, H', e => by
    cases h with
    | cons h1 h2 =>
      simp only [noListAll, Bool.and_eq_true] at q
      exact .cons (DpN.flat d _ q.1 h1 H' e) (DpN.flats ds _ q.2 h2 H' e)
end

def spBegin (K : PySem.W.Frag) : Sp := fun vs H Q _ => ∃ (p : Addr) (is : List Int), vs = [.ref p] ∧ SqL K H p (is.map V.int) ∧ is.length ≤ 1000 ∧ ∀ H' a l c, Same H H' → LSt H' a l c 0 → Q (.ref a) H'

theorem _root_.L2.SqT.cast {K : PySem.W.Frag} {H : Hp} {a : Addr} {xs ys : List V} (h : SqT K H a xs) (e : xs = ys) : SqT K H a ys := by rw [← e]; exact h

theorem canLay_ints : ∀ is : List Int, PyData.canLayAll0 (is.map PyData.int) = true
  | [] => rfl
  | i :: is => by
    simp only [List.map_cons, PyData.canLayAll0, PyData.canLay0, Bool.true_and]
    exact canLay_ints is
theorem shaped_ints (is : List Int) : SeqAt.shaped (.list (is.map PyData.int)) = true := by
  unfold SeqAt.shaped
  simp only [PyData.canLay0, canLay_ints, PyData.depth, depth_ints, Bool.true_and]
  rfl
theorem ints_any {ys : List V} (h : ∀ (i : Nat) (y : V), ys[i]? = some y → ∃ z : Int, y = .int z) : ∃ zs : List Int, ys = zs.map V.int ∧ zs.length = ys.length := by
  induction ys with
  | nil => exact ⟨[], rfl, rfl⟩
  | cons y ys ih =>
    obtain ⟨zs, h1, h2⟩ := ih fun i z hz => h (i + 1) z (by simpa using hz)
    obtain ⟨b, h4⟩ := h 0 y rfl
    exact ⟨b :: zs, by rw [h4, h1]; rfl, by simp [h2]⟩

/-! ### the end -/
theorem lawCallG {P : Program} {w : World} {K : PySem.W.Frag} {mg mb : Str → Option Value} {k : Nat} {fa a : Addr} {fd : FuncData} {x : Str} {sp : Sp} {s₁ : Shared} {vs : List Value} {ns : List Int}
    (KX : K.In s₁.heap) (hns : s₁.heap.Ns mainGlobals mg) (hb : s₁.heap.Ns builtinsNs mb) (hbb : ∀ y : Str, y ≠ "__name__" → mb y = bootBuiltins y) (hlim : s₁.heap.NoLimit) (hg : s₁.gens = #[])
    (ha : s₁.heap.get? a = some { cls := .type "list", data := .seq vs.toArray }) (hi : IntsAre vs ns) (hl : ns.length ≤ sizeLine) (hr : Room k callerA)
    (F : ∀ base : Heap, K.In base → base.Ns mainGlobals mg → FnOkG P w K mg base CX0 k fa fd [x] sp) (hbind : ∀ (s : Shared) (u : Value), BindsTo s fd ⟨[u], []⟩ [(x, u)])
    (hsp : ∀ H : Hp, Only H → SqL K H a (ns.map V.int) → sp [.ref a] H (fun v _ => v = .bl true) fun _ _ _ => False) :
    codeAny (model P w) callerA (.call (.ref fa) ⟨[.ref a], []⟩) (fun r s' => r = .ok (.ret (.bool true)) ∧ PySem.OldK s₁.heap s'.heap ∧ s'.os = s₁.os ∧ AllBare s'.gens) s₁ := by
  have rv := vals_ints hi
  have lv := hi.length
  have main : ∀ T : Hp, Only T → SqL K T a (ns.map V.int) → HOk P w T s₁.heap → (∀ b, T b ≠ none → b = a) → (T a ≠ none → K.lookup a = none) →
      codeAny (model P w) callerA (.call (.ref fa) ⟨[.ref a], []⟩) (fun r s' => r = .ok (.ret (.bool true)) ∧ PySem.OldK s₁.heap s'.heap ∧ s'.os = s₁.os ∧ AllBare s'.gens) s₁ := fun T tO tS tk tA tK => by
    have at_a : ∀ {b : Addr} {u : HO}, T b = some u → b = a := fun {b u} z => tA b (by rw [z]; exact fun y => nomatch y)
    have dict0 : ∀ {b : Addr} {o : Obj} {es : Array DictEntry} {ep : Nat}, s₁.heap.get? b = some o → o.data = .dict es ep → T b = none := fun {b o es ep} z d => by
      cases t : T b with
      | none => rfl
      | some u =>
        obtain rfl := at_a t
        have z2 := ha.symm.trans z
        cases z2
        exact nomatch d
    have dicts : ∀ {b : Addr} {m : Str → Option Value}, s₁.heap.Ns b m → (hidT s₁.heap T).Ns b m := fun {b m} z =>
      let ⟨o, es, ep, g1, g2, g3⟩ := z
      ⟨o, es, ep, hidT_get g1 (dict0 g1 g2), g2, g3⟩
    have kin : K.In (hidT s₁.heap T) := fun b o z => hidT_get (KX b o z) (by
      cases t : T b with
      | none => rfl
      | some u =>
        obtain rfl := at_a t
        have no := tK (fun y => by rw [t] at y; exact nomatch y)
        rw [no] at z
        exact nomatch z)
    obtain ⟨mc, lim1, lim2⟩ := hlim
    have mods : Mod K mg (hidT s₁.heap T) := ⟨kin, dicts hns, ⟨mb, dicts hb, hbb⟩, ⟨mc, dicts lim1, lim2⟩⟩
    have nil : ∀ {b : Addr}, b ∈ frs ([] : List Env) → False := fun {b} z => by cases z
    have env : Env0 P w K mg (hidT s₁.heap T) callerA [] s₁ T := ⟨rfl, mods, fun b o z => of_hidT z, Nat.le_of_eq (hidT_size ..), trivial, fun b z => (nil z).elim, tk, .of_eq hg⟩
    refine codeAny_mono ((F _ kin (dicts hns)).run _ [] s₁ T ⟨[.ref a], []⟩ [.ref a] [.ref a] _ _ rfl hr env (hbind _ _) (.cons rfl .nil) (hsp T tO tS)) fun r s' z => ?_
    cases r with
    | error e => exact False.elim z
    | ok fl =>
      cases fl with
      | ret u =>
        obtain ⟨v, H2, z1, z2, un, z4, z5, z6⟩ := z
        obtain rfl : v = .bl true := z6
        refine ⟨by rw [show u = Value.bool true from z5], PySem.OldK.of_keep fun b o g => ?_, z1, z2⟩
        rcases tO b with t | ⟨ob, xs, t⟩
        · exact un.keep b o g t (fun y => nil y) (fun y => nomatch y)
        · have g1 := (tk b _ t).1
          have g2 := (z4 b _ (un.frzs b ob _ t)).1
          rw [g1] at g
          cases g
          exact g2
      | next => exact False.elim z
      | brk => exact False.elim z
      | cont => exact False.elim z
  cases own : K.lookup a with
  | some o =>
    obtain rfl : o = { cls := .type "list", data := .seq vs.toArray } := Option.some.inj ((KX a o own).symm.trans ha)
    exact main (fun _ => none) (fun _ => .inl rfl) (.inr ⟨_, _, _, own, rfl, rfl, rfl, by simp only [List.size_toArray]; omega, by simpa using rv⟩) (fun b u z => nomatch z) (fun b z => (z rfl).elim) fun z => (z rfl).elim
  | none =>
    have hit : ∀ {b : Addr} {u : HO}, (if b = a then some (HO.frz { cls := .type "list", data := .seq vs.toArray } (.lst (ns.map V.int))) else none) = some u → b = a ∧ u = .frz { cls := .type "list", data := .seq vs.toArray } (.lst (ns.map V.int)) := fun {b u} z => by
      by_cases c : b = a
      · rw [if_pos c] at z
        exact ⟨c, (Option.some.inj z).symm⟩
      · rw [if_neg c] at z
        exact nomatch z
    refine main (fun b => if b = a then some (.frz { cls := .type "list", data := .seq vs.toArray } (.lst (ns.map V.int))) else none) (fun b => ?_) (.inl (.inr ⟨_, if_pos rfl⟩)) (fun b u z => ?_) (fun b z => ?_) fun _ => own
    · by_cases c : b = a
      · exact .inr ⟨_, _, if_pos c⟩
      · exact .inl (if_neg c)
    · obtain ⟨rfl, rfl⟩ := hit z
      exact ⟨ha, by simpa using hl, vs, _, rv, ha⟩
    · by_cases c : b = a
      · exact c
      · exact (z (if_neg c)).elim
/-- the goal that the head leaves, from the promise of the law's def; the loose values are told by XP -/
theorem walkG {l : PySem.W.OpenLaw} {n k : Nat} {q : Program} {loose : List Str} {XP : (Str → Option Value) → Heap → Prop} {YP : World → Heap → Prop} {d : DefRec} {K : Params → PySem.W.Frag} {sp : PySem.W.Frag → Sp} {x : Str}
    (hn : l.most = some n) (hn2 : n ≤ sizeLine) (hdf : d.params.defaults = []) (hr : Room k callerA) (hY : ∀ (w : World) (h : Heap), YP w h → (K w.params).In h)
    (F : ∀ (w : World) (mg : Str → Option Value) (fa : Addr) (h : Heap), (K w.params).In h → h.Ns mainGlobals mg → XP mg h → mg d.name = some (.ref fa) →
      ∃ fd : FuncData, (∀ (s : Shared) (u : Value), BindsTo s fd ⟨[u], []⟩ [(x, u)]) ∧ ∀ base : Heap, FnOkG l.prog w (K w.params) mg base CX0 k fa fd [x] (sp (K w.params)))
    (hsp : ∀ (K : PySem.W.Frag) (H : Hp) (a : Addr) (ns : List Int), ns.length ≤ n → Only H → SqL K H a (ns.map V.int) → sp K [.ref a] H (fun v _ => v = .bl true) fun _ _ _ => False) :
    PySem.W.WalkO q loose XP YP l.row.toRowW d [] (fun f vs => PySem.call f vs) := by
  refine Att.attach_call hn hdf fun w s₀ s₁ mg mb fa o pm cd doc a vs ns G Y ho hd hcd hmg hobj hints hlen hg => ?_
  have KX := hY w _ Y
  obtain ⟨fd, hb, hF⟩ := F w mg fa _ KX G.T.g G.X hmg
  exact lawCallG KX G.T.g G.T.b G.T.builtins G.T.nolimit hg hobj hints (Nat.le_trans hlen hn2) hr (fun base _ _ => hF base) hb fun H hO hS => hsp _ H a ns hlen hO hS

end Ws
/-! ## G1 -/
namespace Ws
open PySem PySem.Spec PyProof.Rows L2
/-- what the list ys holds: for the kept places of 0 .. n - 1, in their order, an item each -/
structure Got (R : Nat → V → Hp → Prop) (keep : Nat → Bool) (n : Nat) (H : Hp) (ys : List V) : Prop where
  len : ys.length = ((List.range n).filter keep).length
  at_ : ∀ (j i : Nat) (y : V), ys[j]? = some y → ((List.range n).filter keep)[j]? = some i → R i y H
theorem Got.skip {R : Nat → V → Hp → Prop} {keep : Nat → Bool} {n : Nat} {H : Hp} {ys : List V} (h : Got R keep n H ys) (k : keep n = false) : Got R keep (n + 1) H ys := by
  have e : (List.range (n + 1)).filter keep = (List.range n).filter keep := by
    rw [List.range_succ, List.filter_append]
    simp [k]
  exact ⟨by rw [e]; exact h.len, fun j i y h1 h2 => h.at_ j i y h1 (by rw [← e]; exact h2)⟩
theorem Got.add {R : Nat → V → Hp → Prop} {keep : Nat → Bool} {n : Nat} {H : Hp} {ys : List V} {y : V} (h : Got R keep n H ys) (k : keep n = true) (r : R n y H) : Got R keep (n + 1) H (ys ++ [y]) := by
  have e : (List.range (n + 1)).filter keep = (List.range n).filter keep ++ [n] := by
    rw [List.range_succ, List.filter_append]
    simp [k]
  refine ⟨by rw [e, List.length_append, List.length_append, h.len]; rfl, fun j i z h1 h2 => ?_⟩
  rw [e] at h2
  by_cases hj : j < ys.length
  · rw [List.getElem?_append_left hj] at h1
    rw [List.getElem?_append_left (by rw [← h.len]; exact hj)] at h2
    exact h.at_ j i z h1 h2
  · rw [List.getElem?_append_right (by omega)] at h1
    rw [List.getElem?_append_right (by rw [← h.len]; omega), ← h.len] at h2
    have e0 : j - ys.length = 0 := by
      have := (List.getElem?_eq_some_iff.mp h1).1
      simpa using this
    rw [e0] at h1 h2
    have e1 : y = z := by simpa using h1
    have e2 : n = i := by simpa using h2
    rw [← e1, ← e2]
    exact r
theorem Got.map {R R' : Nat → V → Hp → Prop} {keep : Nat → Bool} {n : Nat} {H H' : Hp} {ys : List V} (h : Got R keep n H ys) (f : ∀ i y, R i y H → R' i y H') : Got R' keep n H' ys := ⟨h.len, fun j i y h1 h2 => f i y (h.at_ j i y h1 h2)⟩
/-- a comprehension with a test, whose items may be new objects -/
theorem lcF {J : It} {n : Nat} {G : Hp → Prop} {Y : Nat → Hp → V → Hp → Prop} (w : Walk J n G Y) {g : TG} {tt : TT} {te : TE} {vs : List Nat} {σ : L2.St} {H1 : Hp} {D : Addr} {Qd : Hp → Prop} (hD : H1 D = none) (hn : n < sizeLine) (keep : Nat → Bool) (R : Nat → V → Hp → Prop)
    (hR : ∀ i y H H', Sbt D D H H' → NoT H D → R i y H → R i y H') (hG : ∀ H, Same H1 H → G H)
    (hs : ∀ i x H H' (Q1 : VK) (Q0 : Hp → Prop), i < n → Same H1 H → Y i H x H' → (keep i = true → ∀ y H4, R i y H4 → Same H H4 → Q1 y H4) → (keep i = false → ∀ H4, Same H H4 → Q0 H4) →
      g x (wipe σ vs) H' fun σ2 H2 => wipe σ2 vs = wipe σ vs ∧ tt σ2 H2 fun b H3 => if b = true then te σ2 H3 Q1 else Q0 H3)
    (hd : ∀ H ys, Same H1 H → H D = some (.lst ys) → Got R keep n H ys → Qd H) :
    ∃ W : Nat → Nat → Hp → Prop, (∃ m, W 0 m (upd H1 D (.lst []))) ∧ ∀ i m H, W i m H →
      (J.stop i H ∧ Qd H) ∨ (J.go i H ∧ ∃ Nx : Hp → Prop, (∀ H', Nx H' → ∃ m', m' < m ∧ W (i + 1) m' H') ∧ ∀ x H', J.yld i H x H' → g x (wipe σ vs) H' fun σ2 H2 => wipe σ2 vs = wipe σ vs ∧ tt σ2 H2 fun b H3 =>
        if b = true then te σ2 H3 fun y H4 => ∃ acc, H4 D = some (.lst acc) ∧ acc.length < sizeLine ∧ Nx (upd H4 D (.lst (acc ++ [y]))) else Nx H3) := by
  have short : ∀ i, ((List.range i).filter keep).length ≤ i := fun i => by
    have := List.length_filter_le keep (List.range i)
    simpa using this
  refine lc_it w (fun i H => Same H1 H ∧ ∃ ys, H D = some (.lst ys) ∧ Got R keep i H ys) ⟨Same.new hD, [], upd_same, rfl, fun j i y h _ => by simp at h⟩ (fun i H _ p => hG H p.1) (fun i x H H' hi p y => ?_) (fun H p => ?_)
  · obtain ⟨s, ys, hy, hg⟩ := p
    refine hs i x H H' _ _ hi s y (fun k z H4 r s4 => ?_) (fun k H4 s4 => ?_)
    · have hy4 := s4 _ _ hy
      have no : NoT H4 D := .lst hy4
      have sb : Sbt D D H4 (upd H4 D (.lst (ys ++ [z]))) := (Sbt.refl H4).a
      have sb0 : Sbt D D H (upd H4 D (.lst (ys ++ [z]))) := (Sbt.of s4).trans sb
      exact ⟨ys, hy4, by have := short i; rw [hg.len]; omega, (Same.trans s s4).mut hD, _, upd_same, (hg.map fun i y q => hR i y _ _ sb0 (.lst hy) q).add k (hR i z _ _ sb no r)⟩
    · exact ⟨Same.trans s s4, ys, s4 _ _ hy, (hg.map fun i y q => hR i y _ _ (Sbt.of s4) (.lst hy) q).skip k⟩
  · obtain ⟨s, ys, hy, hg⟩ := p
    exact hd H ys s hy hg
theorem dpAll_of {K : PySem.W.Frag} {H : Hp} : ∀ {ys : List V} {ds : List PyData}, ys.length = ds.length → (∀ (j : Nat) (y : V) (d : PyData), ys[j]? = some y → ds[j]? = some d → Dp K H y d) → DpAll K H ys ds
  | [], [], _, _ => .nil
  | [], _ :: _, h, _ => by simp at h
  | _ :: _, [], h, _ => by simp at h
  | y :: ys, d :: ds, h, k => .cons (k 0 y d rfl rfl) (dpAll_of (by simpa using h) fun j z e h1 h2 => k (j + 1) z e (by simpa using h1) (by simpa using h2))
theorem Got.dp {K : PySem.W.Frag} {R : Nat → V → Hp → Prop} {keep : Nat → Bool} {n : Nat} {H : Hp} {ys : List V} (h : Got R keep n H ys) (f : Nat → PyData) (k : ∀ i y, R i y H → Dp K H y (f i)) : DpAll K H ys (((List.range n).filter keep).map f) := by
  refine dpAll_of (by rw [h.len, List.length_map]) fun j y d h1 h2 => ?_
  rw [List.getElem?_map] at h2
  cases e : ((List.range n).filter keep)[j]? with
  | none => rw [e] at h2; cases h2
  | some i =>
    rw [e] at h2
    cases h2
    exact k i y (h.at_ j i y h1 e)
theorem Got.vals {R : Nat → V → Hp → Prop} {keep : Nat → Bool} {n : Nat} {H : Hp} {ys : List V} (h : Got R keep n H ys) (f : Nat → V) (k : ∀ i y, R i y H → y = f i) : ys = ((List.range n).filter keep).map f := by
  refine List.ext_getElem? fun j => ?_
  rw [List.getElem?_map]
  cases e : ((List.range n).filter keep)[j]? with
  | none =>
    rw [List.getElem?_eq_none_iff] at e
    rw [List.getElem?_eq_none (by rw [h.len]; exact e)]
    rfl
  | some i =>
    have hj : j < ys.length := by
      rw [h.len]
      exact (List.getElem?_eq_some_iff.mp e).1
    rw [List.getElem?_eq_getElem hj]
    have := k i ys[j] (h.at_ j i _ (List.getElem?_eq_getElem hj) e)
    rw [this]
    rfl
/-- a list by its places -/
theorem filter_get {α : Type} (l : List α) (d : α) (q : α → Bool) : ((List.range l.length).filter fun i => q (l.getD i d)).map (fun i => l.getD i d) = l.filter q := by
  have h : ∀ (l : List α), (List.range l.length).map (fun i => l.getD i d) = l := fun l => by
    refine List.ext_getElem (by simp) fun i h1 h2 => ?_
    simp [h2]
  have e := congrArg (List.filter q) (h l)
  rw [List.filter_map] at e
  exact e
theorem by_places {α β : Type} (l : List α) (d : α) (f : α → β) : (List.range l.length).map (fun i => f (l.getD i d)) = l.map f := by
  refine List.ext_getElem (by simp) fun i h1 h2 => ?_
  have : i < l.length := by simpa using h1
  simp [this]
theorem all_kept (n : Nat) : (List.range n).filter (fun _ => true) = List.range n := List.filter_eq_self.mpr fun _ _ => rfl
theorem atI_getD {ns : List Int} {j : Nat} (h : j < ns.length) : atI (ns.map V.int) (j : Int) = some (.int (ns.getD j 0)) := atI_nat (by simp [h])
end Ws
/-! ## G2 -/
namespace Ws
open PySem PySem.Spec PyProof.Rows L2 LamX
local macro_rules | `(tactic| walk_at "nf") => `(tactic| dsimp only [tNext, tSeq, tDrop, tRet, tRetN, tIfS, tAsg, gName, gTup, gCons, gNil, tVar, tC, tOp, tUn, rI, rI0, rU, rEq, rNe, tTest, tChain, tAnd, tOr, tNot, tAndV, tOrV, tNotV, tIf, tCB, tCKw, tCons, tNil, tTup, tLst, tCa, tCallS, tB, rIxT, rIxL, rIxS, cxOf, Cx.nox, Cx.wish, Cx.blk, L2.start, tPar, tPar3, tNever, tYes, tBits, tRz, tBM, rAppend, tyV, tXf, suiteEnds, gSub, rSetL, tBreak, rMax, tDGet, sDPut, tSl, tNoPart, tPart, tDisp, tPairs, tDGet2, tDNewK])
local macro_rules | `(tactic| walk_at "sx") => `(tactic| simp only [wipe, List.cons.injEq, and_assoc, exists_and_left, and_true, List.map_cons, List.map_nil, List.length_cons, List.length_nil, List.cons_append, List.nil_append, List.append_nil, Nat.reduceAdd, Nat.reduceSub, List.replicate, List.getElem?_cons_zero, List.getElem?_cons_succ, List.set_cons_zero, List.set_cons_succ, Option.some.injEq, V.int.injEq, V.bl.injEq, V.ref.injEq, V.str.injEq, exists_eq_left', exists_eq_left, true_and, Bool.true_eq_false, Bool.false_eq_true, if_true, if_false])

/-! ### a def that makes lambdas; what stays while tables grow -/
structure DtC (K : PySem.W.Frag) (mg : Str → Option Value) (x : Str) (st : Stmt) (ps : List Str) (c : Addr) : Prop where
  ex : ∃ (f : Addr) (oc : Value) (od : Option Addr) (kV doc pm : Value) (an : Option Addr) (ct : Value) (osl : Array (Option Value)), K.lookup f = some ⟨oc, od, .func (PySem.W.fnOf x x (defArgs st) (defBody st) (defScope st) .none kV doc pm an (.ref c) ct), osl⟩ ∧
    PySem.W.codeIn K (.ref c) x = true ∧ PySem.W.keepIn K (.ref f) = true ∧ mg x = some (.ref f) ∧ Binds K (PySem.W.fnOf x x (defArgs st) (defBody st) (defScope st) .none kV doc pm an (.ref c) ct) ps []
theorem DtC.okG {P : Program} {w : World} {K : PySem.W.Frag} {mg : Str → Option Value} {base : Heap} {x : Str} {st : Stmt} {N ps : List Str} {c : Addr} {k : Nat} {sp : Sp} (D : DtC K mg x st ps c) (S : FnScope N ps (defScope st)) (len : ∀ vs H Q E, sp vs H Q E → vs.length = ps.length)
    (hbody : ∀ (f : Addr) (A : Around) (outer : List Env) (s : Shared) (H : Hp) (vs : List V) (Q : VK) (E : XK), A.guards = some [] → Room k (A.deeper (envOfC x (defScope st) s.heap.objs.size f (.ref c))) → sp vs H Q E →
      ∃ t, PSs (cxOf CX0 P w K mg base N x (defScope st) f (.ref c) A outer s H E).nox (defBody st) t ∧ t { nx := fun _ H' => Q .non H', rt := Q } (start N vs) H) : DfG P w K mg base CX0 (k + 1) x ps sp := by
  obtain ⟨f, oc, od, kV, doc, pm, an, ct, osl, lk, hcd, kp, m, b⟩ := D.ex
  refine ⟨f, _, fn_ofG lk hcd S len fun A outer s H vs Q E hg hr hsp => ?_, m, kp, b⟩
  obtain ⟨t, h, q⟩ := hbody f A outer s H vs Q E hg hr hsp
  exact ⟨t, h.nox, q⟩
theorem Same.extN {H H' : Hp} (e : Same H H') : ExtN H H' := ExtN.of e
section
variable {K : PySem.W.Frag} {H H' : Hp}
theorem seqTE {b : Addr} {xs : List V} (e : ExtN H H') (h : SqT K H b xs) : SqT K H' b xs := by
  rcases h with (h | ⟨o, h⟩) | h
  · exact .inl (.inl (e _ _ h (fun ps z => by cases z)))
  · exact .inl (.inr ⟨o, e _ _ h (fun ps z => by cases z)⟩)
  · exact .inr h
theorem seqLE {b : Addr} {xs : List V} (e : ExtN H H') (h : SqL K H b xs) : SqL K H' b xs := by
  rcases h with (h | ⟨o, h⟩) | h
  · exact .inl (.inl (e _ _ h (fun ps z => by cases z)))
  · exact .inl (.inr ⟨o, e _ _ h (fun ps z => by cases z)⟩)
  · exact .inr h
mutual
theorem Dp.ext (e : ExtN H H') : ∀ (d : PyData) (v : V), Dp K H v d → Dp K H' v d
  | .none, _, h => by cases h; exact .non
  | .bool b, _, h => by cases h; exact .bl b
  | .int i, _, h => by cases h; exact .int i
  | .str x, _, h => by cases h; exact .str x
  | .list ds, _, h => by
    cases h with
    | lst hs ha => exact .lst (seqLE e hs) (Dp.exts e ds _ ha)
  | .tuple ds, _, h => by
    cases h with
    | tup hs ha => exact .tup (seqTE e hs) (Dp.exts e ds _ ha)
  | .dict _, _, h => by cases h
theorem Dp.exts (e : ExtN H H') : ∀ (ds : List PyData) (vs : List V), DpAll K H vs ds → DpAll K H' vs ds
  | [], _, h => by cases h; exact .nil
  | d :: ds, _, h => by
    cases h with
    | cons h1 h2 => exact .cons (Dp.ext e d _ h1) (Dp.exts e ds _ h2)
end
theorem LSt.ext {a l c : Addr} {n : Nat} (h : LSt H a l c n) (e : ExtN H H') : LSt H' a l c n := by
  obtain ⟨cs, ls, m, h⟩ := h
  exact ⟨cs, ls, m, e _ _ h.top (fun ps z => by cases z), e _ _ h.cells (fun ps z => by cases z), e _ _ h.lefts (fun ps z => by cases z), h.len, h.pos, h.few, h.apart⟩
end
theorem Tabs.same {T : List (Addr × Str)} {H H' : Hp} (t : Tabs T H) (e : Same H H') : Tabs T H' := t.ext e

/-! ### written data: what an expression makes of it, lists that grow put aside -/
def hid (S : List Addr) (H : Hp) : Hp := fun a => if a ∈ S then none else H a
def Ev (T : List (Addr × Str)) (H H' : Hp) : Prop := ExtN H H' ∧ (Tabs T H → Tabs T H')
def Lsts (S : List Addr) (H : Hp) : Prop := ∀ a ∈ S, ∃ o, H a = some o ∧ ((∃ xs, o = .lst xs) ∨ ∃ kvs, o = .dK kvs)
theorem Ev.refl {T : List (Addr × Str)} (H : Hp) : Ev T H H := ⟨ExtN.refl H, fun t => t⟩
theorem Ev.trans {T : List (Addr × Str)} {H H1 H2 : Hp} (a : Ev T H H1) (b : Ev T H1 H2) : Ev T H H2 := ⟨a.1.trans b.1, fun t => b.2 (a.2 t)⟩
theorem Ev.of {T : List (Addr × Str)} {H H1 : Hp} (e : Same H H1) : Ev T H H1 := ⟨Same.extN e, fun t => Tabs.same t e⟩
theorem Ev.new {T : List (Addr × Str)} {H : Hp} {p : Addr} {o : HO} (h : H p = none) : Ev T H (upd H p o) := Ev.of (Same.new h)
theorem Ev.lsts {T : List (Addr × Str)} {S : List Addr} {H H1 : Hp} (e : Ev T H H1) (h : Lsts S H) : Lsts S H1 := fun a m => by
  obtain ⟨o, q, z⟩ := h a m
  refine ⟨o, e.1 _ _ q (fun ps y => ?_), z⟩
  subst y
  rcases z with ⟨_, z⟩ | ⟨_, z⟩ <;> cases z
theorem hid_ext {S : List Addr} {H H1 : Hp} (e : ExtN H H1) : ExtN (hid S H) (hid S H1) := fun b o h n => by
  unfold hid at h ⊢
  split at h
  · cases h
  · rename_i m
    rw [if_neg m]
    exact e b o h n
theorem hid_out {S : List Addr} {H : Hp} : ExtN (hid S H) H := fun b o h n => by
  unfold hid at h
  split at h
  · cases h
  · exact h
theorem hid_nil (H : Hp) : hid [] H = H := funext fun a => by simp [hid]
theorem hid_upd {S : List Addr} {H : Hp} {p : Addr} {o : HO} (m : p ∈ S) : hid S (upd H p o) = hid S H := funext fun a => by
  unfold hid
  split
  · rfl
  · rename_i n
    exact upd_ne (fun z => n (z ▸ m))
theorem hid_more {S : List Addr} {H : Hp} {q : Addr} {o : HO} (h : H q = none) : ExtN (hid S H) (hid (q :: S) (upd H q o)) := fun b u hb n => by
  unfold hid at hb ⊢
  split at hb
  · cases hb
  · rename_i m
    have nb : b ≠ q := fun z => by rw [z, h] at hb; cases hb
    rw [if_neg (by simp only [List.mem_cons, not_or]; exact ⟨nb, m⟩), upd_ne nb]
    exact hb
theorem hid_sub {S R : List Addr} {H : Hp} (h : ∀ a ∈ R, a ∈ S) : ExtN (hid S H) (hid R H) := fun b u hb n => by
  unfold hid at hb ⊢
  split at hb
  · cases hb
  · rename_i m
    rw [if_neg fun z => m (h b z)]
    exact hb
section
variable {K : PySem.W.Frag} {S : List Addr}
theorem seqT_hid {H : Hp} {b : Addr} {xs : List V} (l : Lsts S H) (h : SqT K H b xs) : SqT K (hid S H) b xs := by
  have off : ∀ o, H b = some o → (∀ ys, o ≠ .lst ys) → (∀ ys, o ≠ .dK ys) → hid S H b = some o := fun o e n n2 => by
    unfold hid
    rw [if_neg fun m => by
      obtain ⟨u, q, z⟩ := l b m
      rw [e] at q
      obtain rfl := Option.some.inj q
      rcases z with ⟨_, z⟩ | ⟨_, z⟩
      · exact n _ z
      · exact n2 _ z]
    exact e
  rcases h with (h | ⟨o, h⟩) | h
  · exact .inl (.inl (off _ h (fun ys z => by cases z) (fun ys z => by cases z)))
  · exact .inl (.inr ⟨o, off _ h (fun ys z => by cases z) (fun ys z => by cases z)⟩)
  · exact .inr h
mutual
theorem Dp.hid {H : Hp} (l : Lsts S H) : ∀ (d : PyData) (v : V), noList d = true → Dp K H v d → Dp K (Ws.hid S H) v d
  | .none, _, _, h => by cases h; exact .non
  | .bool b, _, _, h => by cases h; exact .bl b
  | .int i, _, _, h => by cases h; exact .int i
  | .str x, _, _, h => by cases h; exact .str x
  | .list ds, _, n, h => by cases n
  | .tuple ds, _, n, h => by
    cases h with
    | tup hs ha => exact .tup (seqT_hid l hs) (Dp.hids l ds _ n ha)
  | .dict _, _, _, h => by cases h
theorem Dp.hids {H : Hp} (l : Lsts S H) : ∀ (ds : List PyData) (vs : List V), noListAll ds = true → DpAll K H vs ds → DpAll K (Ws.hid S H) vs ds
  | [], _, _, h => by cases h; exact .nil
  | d :: ds, _, n, h => by
    cases h with
    | cons h1 h2 => exact .cons (Dp.hid l d _ (Bool.and_eq_true_iff.mp n).1 h1) (Dp.hids l ds _ (Bool.and_eq_true_iff.mp n).2 h2)
end
theorem _root_.L2.Dp.out {H : Hp} {v : V} {d : PyData} (h : Dp K (Ws.hid S H) v d) : Dp K H v d := Dp.ext hid_out d v h
theorem _root_.L2.Dp.ev {T : List (Addr × Str)} {H H1 : Hp} {v : V} {d : PyData} (h : Dp K (Ws.hid S H) v d) (e : Ev T H H1) : Dp K (Ws.hid S H1) v d := Dp.ext (hid_ext e.1) d v h
theorem Dp.evs {T : List (Addr × Str)} {H H1 : Hp} {v : List V} {d : List PyData} (h : DpAll K (Ws.hid S H) v d) (e : Ev T H H1) : DpAll K (Ws.hid S H1) v d := Dp.exts (hid_ext e.1) d v h
theorem nws {H : Hp} {v : List V} {d : List PyData} {p : Addr} {o : HO} (h : DpAll K (Ws.hid S H) v d) (hp : H p = none) : DpAll K (Ws.hid S (upd H p o)) v d := Dp.evs h (Ev.new (T := []) hp)
end
section
variable {K : PySem.W.Frag}
theorem _root_.L2.DpAll.two {H : Hp} {vs : List V} {d e : PyData} (h : DpAll K H vs [d, e]) : ∃ v u, vs = [v, u] ∧ Dp K H v d ∧ Dp K H u e := by
  cases h with
  | cons h1 h2 =>
    cases h2 with
    | cons h3 h4 =>
      cases h4
      exact ⟨_, _, rfl, h1, h3⟩
theorem _root_.L2.DpAll.three {H : Hp} {vs : List V} {d e f : PyData} (h : DpAll K H vs [d, e, f]) : ∃ v u z, vs = [v, u, z] ∧ Dp K H v d ∧ Dp K H u e ∧ Dp K H z f := by
  cases h with
  | cons h1 h2 =>
    obtain ⟨v, u, rfl, h3, h4⟩ := h2.two
    exact ⟨_, _, _, rfl, h1, h3, h4⟩
theorem _root_.L2.DpAll.one' {H : Hp} {vs : List V} {d : PyData} (h : DpAll K H vs [d]) : ∃ v, vs = [v] ∧ Dp K H v d := by
  cases h with
  | cons h1 h2 =>
    cases h2
    exact ⟨_, rfl, h1⟩
end
section
variable (K : PySem.W.Frag) (S : List Addr) (T : List (Addr × Str))
/-- te makes the data d -/
def DE (te : TE) (σ : L2.St) (H : Hp) (d : PyData) : Prop := ∀ H1, Ev T H H1 → Lsts S H1 → Tabs T H1 → ∀ Q : VK, (∀ H' v, Ev T H1 H' → Dp K (hid S H') v d → Q v H') → te σ H1 Q
def DEs (ta : TA) (σ : L2.St) (H : Hp) (ds : List PyData) : Prop := ∀ H1, Ev T H H1 → Lsts S H1 → Tabs T H1 → ∀ Q : List V → Hp → Prop, (∀ H' vs, Ev T H1 H' → DpAll K (hid S H') vs ds → Q vs H') → ta σ H1 Q
/-- te makes a new list of the data ds -/
def LE (te : TE) (σ : L2.St) (H : Hp) (ds : List PyData) : Prop := ∀ H1, Ev T H H1 → Lsts S H1 → Tabs T H1 → ∀ Q : VK, (∀ H2 p ys, Ev T H1 H2 → H2 p = none → DpAll K (hid S H2) ys ds → Q (.ref p) (upd H2 p (.lst ys))) → te σ H1 Q
/-- te tells a list of the data ds -/
def RE (te : TE) (σ : L2.St) (H : Hp) (ds : List PyData) : Prop := ∀ H1, Ev T H H1 → Lsts S H1 → Tabs T H1 → ∀ Q : VK, (∀ H' a ys, Ev T H1 H' → H' a = some (.lst ys) → DpAll K (hid S H') ys ds → Q (.ref a) H') → te σ H1 Q
end
section
variable {K : PySem.W.Frag} {S : List Addr} {T : List (Addr × Str)} {te ta tb : TE} {tas : TA} {σ : L2.St} {H : Hp} {d : PyData} {ds es : List PyData}
theorem DE.to {H1 : Hp} (h : DE K S T te σ H d) (e : Ev T H H1) : DE K S T te σ H1 d := fun H2 e2 => h H2 (e.trans e2)
theorem DEs.to {H1 : Hp} (h : DEs K S T tas σ H ds) (e : Ev T H H1) : DEs K S T tas σ H1 ds := fun H2 e2 => h H2 (e.trans e2)
theorem DE.int {i : Int} : DE K S T (tC (.int i)) σ H (.int i) := fun H1 _ _ _ Q q => q H1 _ (Ev.refl _) (.int i)
theorem DE.str {x : Str} : DE K S T (tC (.str x)) σ H (.str x) := fun H1 _ _ _ Q q => q H1 _ (Ev.refl _) (.str x)
theorem DE.bl {b : Bool} : DE K S T (tC (.bl b)) σ H (.bool b) := fun H1 _ _ _ Q q => q H1 _ (Ev.refl _) (.bl b)
theorem DE.non : DE K S T (tC .non) σ H .none := fun H1 _ _ _ Q q => q H1 _ (Ev.refl _) .non
theorem DE.var {i : Nat} {v : V} (h : σ[i]? = some (some v)) (hd : Dp K (hid S H) v d) : DE K S T (tVar i) σ H d := fun H1 e _ _ Q q => ⟨v, h, q H1 v (Ev.refl _) (hd.ev e)⟩
theorem DE.eq {d' : PyData} (h : DE K S T te σ H d) (e : d = d') : DE K S T te σ H d' := e ▸ h
theorem DEs.nil : DEs K S T tNil σ H [] := fun H1 _ _ _ Q q => q H1 [] (Ev.refl _) .nil
theorem DEs.cons (a : DE K S T te σ H d) (b : DEs K S T tas σ H ds) : DEs K S T (tCons te tas) σ H (d :: ds) := fun H1 e l t Q q =>
  a H1 e l t _ fun H2 v e2 hv => b H2 (e.trans e2) (e2.lsts l) (e2.2 t) _ fun H3 vs e3 hs => q H3 (v :: vs) (e2.trans e3) (.cons (hv.ev e3) hs)
theorem DEs.one (a : DE K S T te σ H d) : DEs K S T (tCons te tNil) σ H [d] := DEs.cons a .nil
theorem DE.tup (a : DEs K S T tas σ H ds) (hl : ds.length ≤ 1000 := by exact Nat.le_of_ble_eq_true rfl) : DE K S T (tTup tas) σ H (.tuple ds) := fun H1 e l t Q q =>
  a H1 e l t _ fun H2 vs e2 hs => ⟨by rw [hs.length, sizeLine_eq]; omega, fun p hp => q _ _ (e2.trans (Ev.new hp)) (by
    have l3 := (e2.trans (Ev.new (o := .tup vs) hp)).lsts l
    exact .tup (seqT_hid l3 (.of upd_same)) (nws hs hp))⟩
theorem LE.lst (a : DEs K S T tas σ H ds) (hl : ds.length ≤ 1000 := by exact Nat.le_of_ble_eq_true rfl) : LE K S T (tLst tas) σ H ds := fun H1 e l t Q q =>
  a H1 e l t _ fun H2 vs e2 hs => ⟨by rw [hs.length, sizeLine_eq]; omega, fun p hp => q H2 p vs e2 hp hs⟩
theorem LE.to {H1 : Hp} (h : LE K S T te σ H ds) (e : Ev T H H1) : LE K S T te σ H1 ds := fun H2 e2 => h H2 (e.trans e2)
theorem LE.re (h : LE K S T te σ H ds) : RE K S T te σ H ds := fun H1 e l t Q q => h H1 e l t Q fun H2 p ys e2 hp hs => q _ p ys (e2.trans (Ev.new hp)) upd_same (nws hs hp)
theorem RE.var {i : Nat} {a : Addr} {ys : List V} (h : σ[i]? = some (some (.ref a))) (ha : H a = some (.lst ys)) (hd : DpAll K (hid S H) ys ds) : RE K S T (tVar i) σ H ds := fun H1 e _ _ Q q =>
  ⟨_, h, q H1 a ys (Ev.refl _) (e.1 _ _ ha (fun ps z => by cases z)) (Dp.evs hd e)⟩
theorem LE.cat (a : RE K S T ta σ H ds) (b : RE K S T tb σ H es) (hl : ds.length + es.length ≤ 1000 := by exact Nat.le_of_ble_eq_true rfl) : LE K S T (tOp rCat ta tb) σ H (ds ++ es) := fun H1 e l t Q q =>
  a H1 e l t _ fun H2 x xs e2 hx hxs => b H2 (e.trans e2) (e2.lsts l) (e2.2 t) _ fun H3 y zs e3 hy hys =>
    ⟨x, y, xs, zs, rfl, rfl, e3.1 _ _ hx (fun ps z => by cases z), hy, by rw [hxs.length, hys.length, sizeLine_eq]; omega, fun p hp => q H3 p _ (e2.trans e3) hp ((Dp.evs hxs e3).append hys)⟩
theorem LE.rep {k : Int} (a : RE K S T ta σ H ds) (b : DE K S T tb σ H (.int k)) (h1 : -(2 ^ 63) ≤ k := by decide) (h2 : k < 2 ^ 63 := by decide) (hl : ds.length * k.toNat ≤ 1000 := by decide) : LE K S T (tOp rRep ta tb) σ H (List.replicate k.toNat ds).flatten := fun H1 e l t Q q =>
  a H1 e l t _ fun H2 x xs e2 hx hxs => b H2 (e.trans e2) (e2.lsts l) (e2.2 t) _ fun H3 y e3 hy => by
    obtain rfl := hy.int_inv
    exact ⟨x, k, xs, rfl, rfl, e3.1 _ _ hx (fun ps z => by cases z), h1, h2, by rw [hxs.length, sizeLine_eq]; omega, fun p hp => q H3 p _ (e2.trans e3) hp (by
      have h3 := Dp.evs hxs e3
      induction k.toNat with
      | zero => exact .nil
      | succ n ih => rw [List.replicate_succ, List.replicate_succ, List.flatten_cons, List.flatten_cons]; exact h3.append ih)⟩
theorem DE.lst (a : LE K S T te σ H ds) : DE K S T te σ H (.list ds) := fun H1 e l t Q q => a H1 e l t Q fun H2 p ys e2 hp hs => q _ _ (e2.trans (Ev.new hp)) (by
  refine .lst (.of ?_) (nws hs hp)
  unfold Ws.hid
  rw [if_neg fun m => by
    obtain ⟨o, z, _⟩ := e2.lsts l _ m
    rw [hp] at z
    cases z]
  exact upd_same)
theorem DE.op0 {g : Int → Int → V} {i j k : Int} (a : DE K S T ta σ H (.int i)) (b : DE K S T tb σ H (.int j)) (hg : g i j = .int k) : DE K S T (tOp (rI0 g) ta tb) σ H (.int k) := fun H1 e l t Q q =>
  a H1 e l t _ fun H2 x e2 hx => b H2 (e.trans e2) (e2.lsts l) (e2.2 t) _ fun H3 y e3 hy => by
    obtain rfl := hx.int_inv
    obtain rfl := hy.int_inv
    exact ⟨i, j, rfl, rfl, by rw [hg]; exact q H3 _ (e2.trans e3) (.int k)⟩
theorem DE.opC {C : Int → Int → Prop} {g : Int → Int → V} {i j k : Int} (a : DE K S T ta σ H (.int i)) (b : DE K S T tb σ H (.int j)) (hc : C i j) (hg : g i j = .int k) : DE K S T (tOp (rI C g) ta tb) σ H (.int k) := fun H1 e l t Q q =>
  a H1 e l t _ fun H2 x e2 hx => b H2 (e.trans e2) (e2.lsts l) (e2.2 t) _ fun H3 y e3 hy => by
    obtain rfl := hx.int_inv
    obtain rfl := hy.int_inv
    exact ⟨i, j, rfl, rfl, hc, by rw [hg]; exact q H3 _ (e2.trans e3) (.int k)⟩
theorem DE.un {g : Int → V} {i k : Int} (a : DE K S T ta σ H (.int i)) (hg : g i = .int k) : DE K S T (tUn (rU g) ta) σ H (.int k) := fun H1 e l t Q q =>
  a H1 e l t _ fun H2 x e2 hx => by
    obtain rfl := hx.int_inv
    exact ⟨i, rfl, by rw [hg]; exact q H2 _ e2 (.int k)⟩
theorem DE.repT {k : Int} (a : DE K S T ta σ H (.tuple ds)) (b : DE K S T tb σ H (.int k)) (h0 : ds ≠ [] := by decide) (h1 : 2 ≤ k := by decide) (h2 : k ≤ 1000 := by decide) (hl : ds.length ≤ 1000 := by exact Nat.le_of_ble_eq_true rfl) : DE K S T (tOp (rRepT K) ta tb) σ H (.tuple (List.replicate k.toNat ds).flatten) := fun H1 e l t Q q =>
  a H1 e l t _ fun H2 x e2 hx => b H2 (e.trans e2) (e2.lsts l) (e2.2 t) _ fun H3 y e3 hy => by
    obtain rfl := hy.int_inv
    obtain ⟨p, xs, rfl, hs, hxs⟩ := hx.tup_inv
    have hxs2 := Dp.evs hxs e3
    have hn : xs ≠ [] := fun z => h0 (by subst z; cases hxs; rfl)
    refine ⟨p, k, xs, rfl, rfl, seqTE e3.1 (seqTE hid_out hs), hn, h1, h2, by rw [hxs.length]; exact hl, fun r hr => q _ _ ((e2.trans e3).trans (Ev.new hr)) ?_⟩
    refine .tup (seqT_hid (((e2.trans e3).trans (Ev.new hr)).lsts l) (.of upd_same)) (nws ?_ hr)
    induction k.toNat with
    | zero => exact .nil
    | succ n ih => rw [List.replicate_succ, List.replicate_succ, List.flatten_cons, List.flatten_cons]; exact hxs2.append ih
end
/-! ### lists that grow -/
def adr (L : List (Addr × List PyData)) (X : List Addr) : List Addr := L.map (·.1) ++ X
structure LsS (K : PySem.W.Frag) (T : List (Addr × Str)) (X : List Addr) (L : List (Addr × List PyData)) (H : Hp) : Prop where
  tabs : Tabs T H
  nd : (L.map (·.1)).Nodup
  off : Lsts X H
  apart : ∀ a ∈ L.map (·.1), a ∉ X
  at_ : ∀ x ∈ L, ∃ ys, H x.1 = some (.lst ys) ∧ DpAll K (hid (adr L X) H) ys x.2
theorem Tabs.put {T : List (Addr × Str)} {H : Hp} {p : Addr} {xs : List V} {o : HO} (t : Tabs T H) (h : H p = some (.lst xs)) : Tabs T (upd H p o) := fun x hx => by
  obtain ⟨ps, h1, h2, h3⟩ := t x hx
  refine ⟨ps, by rw [upd_ne (fun z => by rw [z, h] at h1; cases h1)]; exact h1, h2, fun pos cv hc => ?_⟩
  obtain ⟨c, e1, e2⟩ := h3 pos cv hc
  exact ⟨c, e1, by rw [upd_ne (fun z => by rw [z, h] at e2; cases e2)]; exact e2⟩
section
variable {K : PySem.W.Frag} {T : List (Addr × Str)} {X : List Addr} {L : List (Addr × List PyData)} {H : Hp}
theorem LsS.lsts (h : LsS K T X L H) : Lsts (adr L X) H := fun a m => by
  rcases List.mem_append.mp m with m | m
  · obtain ⟨x, hx, rfl⟩ := List.mem_map.mp m
    obtain ⟨ys, q, _⟩ := h.at_ x hx
    exact ⟨_, q, .inl ⟨ys, rfl⟩⟩
  · exact h.off a m
theorem LsS.nil (t : Tabs T H) (o : Lsts X H) : LsS K T X [] H := ⟨t, List.nodup_nil, o, (fun a h => by cases h), fun x hx => by cases hx⟩
theorem LsS.ev {H1 : Hp} (h : LsS K T X L H) (e : Ev T H H1) : LsS K T X L H1 := ⟨e.2 h.tabs, h.nd, e.lsts h.off, h.apart, fun x hx => by
  obtain ⟨ys, q, d⟩ := h.at_ x hx
  exact ⟨ys, e.1 _ _ q (fun ps z => by cases z), Dp.evs d e⟩⟩
theorem LsS.new {p : Addr} {ys : List V} {ds : List PyData} (h : LsS K T X L H) (hp : H p = none) (hd : DpAll K (hid (adr L X) H) ys ds) : LsS K T X ((p, ds) :: L) (upd H p (.lst ys)) := by
  have e := hid_more (S := adr L X) (o := .lst ys) hp
  have np : p ∉ adr L X := fun m => by
    obtain ⟨o, q, _⟩ := h.lsts p m
    rw [hp] at q
    cases q
  refine ⟨(Ev.new hp).2 h.tabs, ?_, Ev.lsts (T := T) (Ev.new hp) h.off, ?_, fun x hx => ?_⟩
  · rw [List.map_cons, List.nodup_cons]
    exact ⟨fun m => np (List.mem_append.mpr (.inl m)), h.nd⟩
  · intro a m
    rcases List.mem_cons.mp m with rfl | m
    · exact fun z => np (List.mem_append.mpr (.inr z))
    · exact h.apart a m
  · rcases List.mem_cons.mp hx with rfl | hx
    · exact ⟨ys, upd_same, Dp.exts e _ _ hd⟩
    · obtain ⟨zs, q, d⟩ := h.at_ x hx
      exact ⟨zs, by rw [upd_ne (fun z => by rw [z, hp] at q; cases q)]; exact q, Dp.exts e _ _ d⟩
/-- the list at the place k has one more item -/
theorem LsS.app {k : Nat} {p : Addr} {ds : List PyData} {u : V} {d : PyData} {ys : List V} (h : LsS K T X L H) (hk : L[k]? = some (p, ds)) (hp : H p = some (.lst ys)) (hu : Dp K (hid (adr L X) H) u d) : LsS K T X (L.set k (p, ds ++ [d])) (upd H p (.lst (ys ++ [u]))) := by
  have hlt := (List.getElem?_eq_some_iff.mp hk).1
  have hm : p ∈ L.map (·.1) := List.mem_map.mpr ⟨_, List.mem_of_getElem? hk, rfl⟩
  have hm2 : p ∈ adr L X := List.mem_append.mpr (.inl hm)
  have em : (L.set k (p, ds ++ [d])).map (·.1) = L.map (·.1) := by
    rw [List.map_set]
    refine List.ext_getElem? fun n => ?_
    rw [List.getElem?_set]
    split
    · rename_i z
      subst z
      rw [List.getElem?_map, hk]
      simp [hlt]
    · rfl
  have eh : hid (adr L X) (upd H p (.lst (ys ++ [u]))) = hid (adr L X) H := hid_upd hm2
  have em2 : adr (L.set k (p, ds ++ [d])) X = adr L X := by unfold adr; rw [em]
  refine ⟨Tabs.put h.tabs hp, by rw [em]; exact h.nd, fun a ha => ?_, by rw [em]; exact h.apart, fun x hx => ?_⟩
  · obtain ⟨o, q, z⟩ := h.off a ha
    exact ⟨o, by rw [upd_ne (fun w : a = p => h.apart p hm (by rw [← w]; exact ha))]; exact q, z⟩
  rw [em2, eh]
  obtain ⟨n, hn⟩ := List.mem_iff_getElem?.mp hx
  rw [List.getElem?_set] at hn
  split at hn
  · rename_i z
    subst z
    obtain rfl := Option.some.inj hn
    obtain ⟨zs, q, dd⟩ := h.at_ _ (List.mem_of_getElem? hk)
    rw [hp] at q
    obtain rfl : ys = zs := HO.lst.inj (Option.some.inj q)
    exact ⟨_, upd_same, dd.append (.cons hu .nil)⟩
  · rename_i z
    have hx2 := List.mem_of_getElem? hn
    obtain ⟨zs, q, dd⟩ := h.at_ x hx2
    have ne : x.1 ≠ p := fun w => by
      have n1 : (L.map (·.1))[k]? = some p := by rw [List.getElem?_map, hk]; rfl
      have n2 : (L.map (·.1))[n]? = some p := by rw [List.getElem?_map, hn, ← w]; rfl
      have l1 := (List.getElem?_eq_some_iff.mp n1).1
      exact z ((List.getElem?_inj l1 h.nd).mp (n1.trans n2.symm))
    exact ⟨zs, by rw [upd_ne ne]; exact q, dd⟩
theorem st_app {k i : Nat} {p : Addr} {ds : List PyData} {d : PyData} {te : TE} {D : Ends} {σ : L2.St} (h : LsS K T X L H) (hi : σ[i]? = some (some (.ref p))) (hk : L[k]? = some (p, ds)) (hl : ds.length ≤ 100000) (hd : DE K (adr L X) T te σ H d)
    (q : ∀ H', LsS K T X (L.set k (p, ds ++ [d])) H' → ExtN (hid (adr L X) H) (hid (adr L X) H') → D.nx σ H') : tDrop (tBM K "list" rAppend (tVar i) (tCons te tNil)) D σ H := by
  obtain ⟨ys, hp, hys⟩ := h.at_ _ (List.mem_of_getElem? hk)
  refine ⟨_, hi, .inl ⟨rfl, ys, .of hp⟩, hd H (Ev.refl H) h.lsts h.tabs _ fun H' u e hu => ?_⟩
  have hp2 := e.1 _ _ hp (fun ps z => by cases z)
  have hy := hys.length
  refine ⟨p, ys, u, rfl, rfl, hp2, by rw [hy, sizeLine_eq]; show ds.length < _; omega, q _ ((h.ev e).app hk hp2 hu) ?_⟩
  have hm3 : p ∈ adr L X := List.mem_append.mpr (.inl (List.mem_map.mpr ⟨(p, ds), List.mem_of_getElem? hk, rfl⟩))
  rw [hid_upd hm3]
  exact hid_ext e.1
theorem for_de {S : List Addr} {bads : List PyData} {te : TE} {tb : TS} {k : Nat} {D : Ends} {σ : L2.St} (hde : DE K S T te σ H (.tuple bads)) (l : Lsts S H) (t : Tabs T H) (Pv : Nat → L2.St → Hp → Prop)
    (h0 : ∀ H', Ev T H H' → Pv 0 σ H')
    (hs : ∀ H0 i x σ H, i < bads.length → Pv i σ H → ExtN (hid S H0) (hid S H) → Dp K (hid S H) x (bads.getD i .none) → tb { D with nx := fun σ' H' => Pv (i + 1) σ' H' ∧ ExtN (hid S H0) (hid S H'), ct := fun σ' H' => Pv (i + 1) σ' H' ∧ ExtN (hid S H0) (hid S H'), bk := D.nx } (σ.set k (some x)) H)
    (hd : ∀ σ H, Pv bads.length σ H → D.nx σ H) : tFor (iTup K te) (gName k) tb D σ H := by
  refine hde H (Ev.refl H) l t _ fun H0 v e hv => ?_
  obtain ⟨a, xs, rfl, ha, hxs⟩ := hv.tup_inv
  have hn := hxs.length
  refine ⟨a, rfl, ⟨xs, seqTE hid_out ha⟩, for_tup (xs := xs) (fun i σ H => Pv i σ H ∧ ExtN (hid S H0) (hid S H)) ⟨h0 H0 e, ExtN.refl _⟩ (fun i σ H _ p => seqTE hid_out (seqTE p.2 ha)) (fun i x σ H hx p => ?_) (fun σ H p => hd σ H (by rw [← hn]; exact p.1))⟩
  have hi : i < bads.length := by rw [← hn]; exact (List.getElem?_eq_some_iff.mp hx).1
  obtain ⟨y, hy, _, hdy⟩ := hxs.at_ hi
  rw [hx] at hy
  obtain rfl := Option.some.inj hy
  exact hs H0 i x σ H hi p.1 p.2 (Dp.ext p.2 _ _ hdy)
end
section
variable {K : PySem.W.Frag} {T : List (Addr × Str)} {X : List Addr} {L : List (Addr × List PyData)} {H : Hp} {te : TE} {D : Ends} {σ : L2.St} {ds : List PyData} {d : PyData}
theorem seqI {t u : TS} (h : t { D with nx := u D } σ H) : tSeq t u D σ H := h
theorem st_new {i : Nat} (h : LsS K T X L H) (hd : LE K (adr L X) T te σ H ds) (q : ∀ H' p, LsS K T X ((p, ds) :: L) H' → ExtN (hid (adr L X) H) (hid (p :: adr L X) H') → D.nx (σ.set i (some (.ref p))) H') : tAsg te (gName i) D σ H :=
  hd H (Ev.refl H) h.lsts h.tabs _ fun H2 p ys e hp hs => q _ p ((h.ev e).new hp hs) ((hid_ext e.1).trans (hid_more hp))
theorem st_val {i : Nat} (h : LsS K T X L H) (hd : DE K (adr L X) T te σ H d) (q : ∀ H' v, LsS K T X L H' → ExtN (hid (adr L X) H) (hid (adr L X) H') → Dp K (hid (adr L X) H') v d → D.nx (σ.set i (some v)) H') : tAsg te (gName i) D σ H :=
  hd H (Ev.refl H) h.lsts h.tabs _ fun H2 v e hv => q H2 v (h.ev e) (hid_ext e.1) hv
theorem sq_new {i : Nat} {u : TS} (h : LsS K T X L H) (hd : LE K (adr L X) T te σ H ds) (q : ∀ H' p, LsS K T X ((p, ds) :: L) H' → ExtN (hid (adr L X) H) (hid (p :: adr L X) H') → u D (σ.set i (some (.ref p))) H') : tSeq (tAsg te (gName i)) u D σ H := st_new (D := { D with nx := u D }) h hd q
theorem sq_val {i : Nat} {u : TS} (h : LsS K T X L H) (hd : DE K (adr L X) T te σ H d) (q : ∀ H' v, LsS K T X L H' → ExtN (hid (adr L X) H) (hid (adr L X) H') → Dp K (hid (adr L X) H') v d → u D (σ.set i (some v)) H') : tSeq (tAsg te (gName i)) u D σ H := st_val (D := { D with nx := u D }) h hd q
theorem sq_app {k i : Nat} {p : Addr} {u : TS} (h : LsS K T X L H) (hi : σ[i]? = some (some (.ref p))) (hk : L[k]? = some (p, ds)) (hl : ds.length ≤ 100000) (hd : DE K (adr L X) T te σ H d)
    (q : ∀ H', LsS K T X (L.set k (p, ds ++ [d])) H' → ExtN (hid (adr L X) H) (hid (adr L X) H') → u D σ H') : tSeq (tDrop (tBM K "list" rAppend (tVar i) (tCons te tNil))) u D σ H := st_app (D := { D with nx := u D }) h hi hk hl hd q
theorem sq_for {S : List Addr} {bads : List PyData} {tb u : TS} {k : Nat} (hde : DE K S T te σ H (.tuple bads)) (l : Lsts S H) (t : Tabs T H) (Pv : Nat → L2.St → Hp → Prop)
    (h0 : ∀ H', Ev T H H' → Pv 0 σ H')
    (hs : ∀ (D : Ends) H0 i x σ H, i < bads.length → Pv i σ H → ExtN (hid S H0) (hid S H) → Dp K (hid S H) x (bads.getD i .none) → (∀ σ' H', Pv (i + 1) σ' H' ∧ ExtN (hid S H0) (hid S H') → D.nx σ' H') → tb D (σ.set k (some x)) H)
    (hd : ∀ σ H, Pv bads.length σ H → u D σ H) : tSeq (tFor (iTup K te) (gName k) tb) u D σ H :=
  for_de (D := { D with nx := u D }) hde l t Pv h0 (fun H0 i x σ H hi p e hx => hs _ H0 i x σ H hi p e hx fun _ _ z => z) hd
theorem take_snoc {bads : List PyData} {i : Nat} (f : PyData → PyData) (h : i < bads.length) : (bads.take (i + 1)).map f = (bads.take i).map f ++ [f (bads.getD i .none)] := by
  rw [List.take_succ_eq_append_getElem h, List.map_append]
  simp [h]
theorem LsS.dp {k : Nat} {p : Addr} (h : LsS K T X L H) (hk : L[k]? = some (p, ds)) : Dp K H (.ref p) (.list ds) := by
  obtain ⟨ys, hp, hd⟩ := h.at_ _ (List.mem_of_getElem? hk)
  exact .lst (.of hp) (Dp.exts hid_out _ _ hd)
theorem LsS.re {k i : Nat} {p : Addr} (h : LsS K T X L H) (hk : L[k]? = some (p, ds)) (hi : σ[i]? = some (some (.ref p))) : RE K (adr L X) T (tVar i) σ H ds := by
  obtain ⟨ys, hp, hd⟩ := h.at_ _ (List.mem_of_getElem? hk)
  exact RE.var hi hp hd
end
/-! ### a comprehension of data without lists whose items draw -/
theorem lcN {K : PySem.W.Frag} {J : It} {n : Nat} {G : Hp → Prop} {Y : Nat → Hp → V → Hp → Prop} (w : Walk J n G Y) {g : TG} {te : TE} {vs : List Nat} {σ : L2.St} {H1 : Hp} {D : Addr} {Qd : Hp → Prop} {a l c : Addr} {m : Nat} (st : Nat) (hD : H1 D = none) (hn : n < sizeLine) (P : Nat → PyData → Prop) (hP : ∀ i d, P i d → noList d = true)
    (hl : LSt H1 a l c m) (hG : ∀ H, Sbt a l H1 H → G H)
    (hs : ∀ i x H H' (Q : VK), i < n → Sbt a l H1 H → LSt H a l c (m + i * st) → Y i H x H' → (∀ y H4 d, P i d → Dp K H4 y d → Sbt a l H H4 → LSt H4 a l c (m + (i + 1) * st) → Q y H4) → g x (wipe σ vs) H' fun σ2 H2 => wipe σ2 vs = wipe σ vs ∧ te σ2 H2 Q)
    (hd : ∀ H ys ds, Sbt a l H1 H → LSt H a l c (m + n * st) → H D = some (.lst ys) → DpAll K H ys ds → ds.length = n → (∀ i d, ds[i]? = some d → P i d) → noListAll ds = true → Qd H) :
    ∃ W : Nat → Nat → Hp → Prop, (∃ m, W 0 m (upd H1 D (.lst []))) ∧ ∀ i m H, W i m H →
      (J.stop i H ∧ Qd H) ∨ (J.go i H ∧ ∃ Nx : Hp → Prop, (∀ H', Nx H' → ∃ m', m' < m ∧ W (i + 1) m' H') ∧ ∀ x H', J.yld i H x H' → g x (wipe σ vs) H' fun σ2 H2 => wipe σ2 vs = wipe σ vs ∧ tYes σ2 H2 fun b H3 =>
        if b = true then te σ2 H3 fun y H4 => ∃ acc, H4 D = some (.lst acc) ∧ acc.length < sizeLine ∧ Nx (upd H4 D (.lst (acc ++ [y]))) else Nx H3) := by
  obtain ⟨da, dl, dc⟩ := hl.off hD
  let Pv : Nat → Hp → Prop := fun i H => Sbt a l H1 H ∧ LSt H a l c (m + i * st) ∧ ∃ ys ds, H D = some (.lst ys) ∧ DpAll K H ys ds ∧ ds.length = i ∧ ∀ j d, ds[j]? = some d → P j d
  have nl : ∀ {ds : List PyData}, (∀ j d, ds[j]? = some d → P j d) → noListAll ds = true := fun {ds} h => noListAll_of fun x hx => by
    obtain ⟨j, hj⟩ := List.mem_iff_getElem?.mp hx
    exact hP j x (h j x hj)
  refine lc_it w Pv ⟨(Sbt.refl H1).mut hD, by rw [Nat.zero_mul]; exact hl.new hD, [], [], upd_same, .nil, rfl, fun j y h => by simp at h⟩ (fun i H _ p => hG H p.1) (fun i x H H' hi p y => ?_) (fun H p => ?_)
  · obtain ⟨s, sl, ys, ds, hy, ha, hlen, hr⟩ := p
    have q := hs i x H H' (fun y H4 => ∃ acc, H4 D = some (.lst acc) ∧ acc.length < sizeLine ∧ Pv (i + 1) (upd H4 D (.lst (acc ++ [y])))) hi s sl y (fun v H4 d r hv s4 sl4 => ?_)
    · have e : (fun σ2 H2 => wipe σ2 vs = wipe σ vs ∧ tYes σ2 H2 fun b H3 =>
        if b = true then te σ2 H3 fun y H4 => ∃ acc, H4 D = some (.lst acc) ∧ acc.length < sizeLine ∧ Pv (i + 1) (upd H4 D (.lst (acc ++ [y]))) else Pv (i + 1) H3) =
        (fun σ2 H2 => wipe σ2 vs = wipe σ vs ∧ te σ2 H2 fun y H4 => ∃ acc, H4 D = some (.lst acc) ∧ acc.length < sizeLine ∧ Pv (i + 1) (upd H4 D (.lst (acc ++ [y])))) := by
        funext σ2 H2
        simp only [tYes, if_true]
      rw [e]
      exact q
    · have hy4 := s4 _ _ hy da dl
      have ha4 := keepTs s4 sl ds ys (nl hr) ha
      refine ⟨ys, hy4, by rw [ha.length]; omega, (Sbt.trans s s4).mut hD, sl4.put da dl dc, ys ++ [v], ds ++ [d], upd_same, (keepLs hy4 (nl hr) ha4).snoc (keepL hy4 (hP _ _ r) hv), by simp [hlen], fun j z hz => ?_⟩
      by_cases hj : j < ds.length
      · rw [List.getElem?_append_left hj] at hz
        exact hr j z hz
      · rw [List.getElem?_append_right (by omega)] at hz
        have e : j = i := by
          have := (List.getElem?_eq_some_iff.mp hz).1
          simp at this
          omega
        subst e
        rw [hlen, Nat.sub_self] at hz
        simp at hz
        rw [← hz]
        exact r
  · obtain ⟨s, sl, ys, ds, hy, ha, hlen, hr⟩ := p
    exact hd H ys ds s sl hy ha hlen hr (nl hr)
end Ws
/-! ## R45 -/
/-! rules: xs[i] op= e, t.count(d), any(ints), sum(t) -/
namespace Ws
open PySem PySem.Spec PyProof.Rows L2
section
variable {X : Cx}
def rGetL (K : PySem.W.Frag) : V → V → Hp → VK → Prop := fun o i H Q => ∃ p xs k v, o = .ref p ∧ i = .int k ∧ SqL K H p xs ∧ 0 ≤ k ∧ atI xs k = some v ∧ Q v H
theorem get_list : PGet X (rGetL X.K) := by
  intro pins s σ H o i ov iv Q I ro ri h
  obtain ⟨p, xs, k, v, rfl, rfl, hq, h0, he, q⟩ := h
  cases ro
  obtain ⟨t, rfl⟩ := ri
  obtain ⟨its, r, pl, hz⟩ := I.list hq
  obtain ⟨j, h1, h2, h3, h4, h5⟩ := atI_get he
  obtain ⟨w, ew, rw'⟩ := r.get h2
  have hl := r.length
  have hn := line63
  have hj : k.toNat = j := by
    rw [seqIndex_of h0 h5] at h1
    exact Option.some.inj h1
  exact wpAny_getItem_list pl.isList h0 (by omega) (by rw [hj]; simpa using ew) ⟨v, H, I, rw', q⟩
/-- t.count(x), x any data -/
def rCountD (K : PySem.W.Frag) : V → List V → Hp → VK → Prop := fun x xs H Q => ∃ (y : V) (d : PyData) (ds : List PyData), xs = [y] ∧ Dp K H x (.tuple ds) ∧ Dp K H y d ∧
  SeqAt.shaped (.tuple ds) = true ∧ SeqAt.shaped d = true ∧ Q (.int ((ds.countP fun z => PyData.eqv z d : Nat) : Int)) H
theorem mt_tcountD (hu : X.A.units + 65 < cLine) : MtR X "tuple.count" (rCountD X.K) := by
  intro pins s σ H x xs v us Q I rx rxs h
  obtain ⟨y, d, ds, rfl, hx, hy, s1, s2, q⟩ := h
  obtain ⟨a, ws, rfl, hs, ha⟩ := hx.tup_inv
  cases rx
  obtain ⟨u, rfl, ru⟩ := rxs.one
  obtain ⟨bs, r1⟩ := Dp.reads I d y u hy ru
  obtain ⟨its, rv, ht, _⟩ := I.tuple hs
  obtain ⟨as, h4⟩ := Dp.readsAll I ds ws its ha rv
  have c1 := SeqAt.canLay_of_shaped s1
  have c2 := SeqAt.canLay_of_shaped s2
  have d2 := SeqAt.depth_of_shaped s2
  refine PySem.SeqAt.count_tuple_data ht (by simpa using h4) r1 (PySem.PyData.plainAll_of_canLay0 ds (by simpa only [PyData.canLay0] using c1)) (PySem.PyData.plain_of_canLay0 d c2) (by omega) ?_
  exact ⟨.int ((ds.countP fun z => PyData.eqv z d : Nat) : Int), H, I.tok _, ⟨s.toks, rfl⟩, q⟩
/-- any(xs) of ints -/
def rAnyI (K : PySem.W.Frag) : List V → Hp → VK → Prop := fun vs H Q => ∃ (a : Addr) (ns : List Int), vs = [V.ref a] ∧ SqL K H a (ns.map V.int) ∧ Q (.bl (ns.any fun n => n != 0)) H
theorem plain_ints : ∀ ns : List Int, PyData.plainAll (ns.map PyData.int) = true
  | [] => rfl
  | n :: ns => by
    simp only [List.map_cons, PyData.plainAll, PyData.plain, Bool.true_and]
    exact plain_ints ns
theorem cr_anyI (hc : X.calm = true) : CallR X (.builtin "any") (rAnyI X.K) := by
  intro pins s σ H vs us Q I r h
  obtain ⟨a, ns, rfl, hs, q⟩ := h
  obtain ⟨its, rv, hl, _⟩ := I.list hs
  rw [Vals.ref1 r]
  obtain ⟨as, h4⟩ := Dp.readsAll I (ns.map PyData.int) (ns.map V.int) its (DpAll.ints ns) rv
  refine PySem.W.any_list_data (xs := ns.map PyData.int) (I.ok.hd hc) hl.isList (by simpa using h4) (plain_ints ns) (fun x hx => ?_) fun h' tk hk => ⟨.bl (ns.any fun n => n != 0), H, I.kept hk, ?_, q⟩
  · obtain ⟨i, _, rfl⟩ := List.mem_map.mp hx
    exact trivial
  · show Value.bool _ = Value.bool _
    rw [List.any_map]
    rfl
/-- sum(t) of a tuple of ints -/
def rSumT (K : PySem.W.Frag) : List V → Hp → VK → Prop := fun vs H Q => ∃ (a : Addr) (ns : List Int), vs = [V.ref a] ∧ SqT K H a (ns.map V.int) ∧ Q (.int ns.sum) H
theorem cr_sumT (hc : X.calm = true) : CallR X (.builtin "sum") (rSumT X.K) := by
  intro pins s σ H vs us Q I r h
  obtain ⟨a, ns, rfl, hs, q⟩ := h
  obtain ⟨its, rv, ht, _⟩ := I.tuple hs
  rw [Vals.ref1 r]
  have hi := rv.ints
  obtain ⟨xs, hx⟩ := hi.allInts.items
  have ht' := ht
  have hn : numsOf its.toArray.toList = ns := by rw [show its.toArray.toList = its from rfl, hi.numsOf]
  rw [hx] at ht' hn
  rw [nums_intItems] at hn
  refine PySem.W.ktm_sumG (I.ok.hd hc) ht' fun h' tk t' hk => ?_
  refine ⟨.int ns.sum, H, I.kept hk, ⟨t', ?_⟩, q⟩
  rw [preSum_eq, List.take_of_length_le (by simp), hn]
end
/-- a dict comprehension over what is walked -/
theorem dc_walk {B : L2.It} {len : Nat} {Gd : Hp → Prop} {Yd : Nat → Hp → V → Hp → Prop} (wk : Walk B len Gd Yd) {tgt : TG} {ts : TT} {kx vx : TE} {ws : List Nat} {st : L2.St} {Hs : Hp} {d : Addr} {Fin : Hp → Prop} (P : Nat → Hp → Prop) (start : P 0 (upd Hs d (.dK []))) (keep : ∀ i H, i ≤ len → P i H → Gd H)
    (turn : ∀ i x Ha Hb, i < len → P i Ha → Yd i Ha x Hb → tgt x (wipe st ws) Hb fun σ2 H2 => wipe σ2 ws = wipe st ws ∧ ts σ2 H2 fun b H3 => if b = true then kx σ2 H3 fun y H4 => vx σ2 H4 fun z H5 => ∃ kvs k, y = kV k ∧ H5 d = some (.dK kvs) ∧ kvs.length < sizeLine ∧ P (i + 1) (upd H5 d (.dK (putK kvs k z))) else P (i + 1) H3)
    (fin : ∀ H, P len H → Fin H) :
    ∃ W : Nat → Nat → Hp → Prop, (∃ m, W 0 m (upd Hs d (.dK []))) ∧ ∀ i m H, W i m H → (B.stop i H ∧ Fin H) ∨ (B.go i H ∧ ∃ Nx : Hp → Prop, (∀ H', Nx H' → ∃ m', m' < m ∧ W (i + 1) m' H') ∧ ∀ x H', B.yld i H x H' → tgt x (wipe st ws) H' fun σ2 H2 => wipe σ2 ws = wipe st ws ∧ ts σ2 H2 fun b H3 =>
        if b = true then kx σ2 H3 fun y H4 => vx σ2 H4 fun z H5 => ∃ kvs k, y = kV k ∧ H5 d = some (.dK kvs) ∧ kvs.length < sizeLine ∧ Nx (upd H5 d (.dK (putK kvs k z))) else Nx H3) := by
  refine ⟨fun i left H => left + i = len ∧ P i H, ⟨len, rfl, start⟩, fun i left H w => ?_⟩
  obtain ⟨sum, p⟩ := w
  by_cases more : i < len
  · exact .inr ⟨wk.goes i H more (keep i H (by omega) p), P (i + 1), fun H' p' => ⟨left - 1, by omega, by omega, p'⟩, fun x H' y => turn i x H H' more p (wk.yields i H x H' more (keep i H (by omega) p) y)⟩
  · obtain rfl : i = len := by omega
    exact .inl ⟨wk.stops H (keep i H (by omega) p), fin H p⟩
end Ws
/-! ## R27 -/
/-! rules: sorted of a list of data, t < u and t <= u of data -/
namespace Ws
open PySem PySem.Spec PyProof.Rows L2
/-- what a list of data is sorted to -/
def Ord (es : List PyData) : Prop := es.Pairwise fun x y => PySem.W.dataLt y x = false
def rSortedD (K : PySem.W.Frag) : List V → Hp → VK → Prop := fun vs H Q => ∃ (a : Addr) (ys : List V) (ds : List PyData), vs = [.ref a] ∧ SqL K H a ys ∧ DpAll K H ys ds ∧ PySem.W.AllAlike ds ∧ PySem.W.Sortable ds ∧ (∀ d ∈ ds, d.depth ≤ 30) ∧
  ∀ (zs : List V) (es : List PyData) (p : Addr), DpAll K H zs es → es.Perm ds → Ord es → H p = none → Q (.ref p) (upd H p (.lst zs))
section
variable {X : Cx}
theorem sortD_pairs {ps : List (V × PyData)} : ((ps.mergeSort (PySem.W.dataLe false (·.2))).map (·.2)).Perm (ps.map (·.2)) ∧ Ord ((ps.mergeSort (PySem.W.dataLe false (·.2))).map (·.2)) := by
  refine ⟨(List.mergeSort_perm ps _).map _, ?_⟩
  unfold Ord
  rw [List.pairwise_map]
  have T := PySem.W.sortLe_total (listOrd itemOrd) false (fun b : V × PyData => PySem.W.keyToks b.2)
  refine (List.pairwise_mergeSort (le := PySem.W.dataLe false fun b : V × PyData => b.2) (fun a b c h1 h2 => T.trans a b c h1 h2) (fun a b => Bool.or_eq_true_iff.mpr (T.total a b)) ps).imp fun {x y} h => ?_
  have e : PySem.W.dataLe false (fun b : V × PyData => b.2) x y = !PySem.W.dataLt y.2 x.2 := by rw [PySem.W.dataLe_eq]; rfl
  rw [e] at h
  simpa using h
theorem vals_each {pins : List (Addr × Obj)} {s : Shared} {σ : L2.St} {H : Hp} (I : Inv X pins σ H s) : ∀ {ys : List V} {its : List Value} {ds : List PyData}, Vals ys its → DpAll X.K H ys ds → PySem.W.EachIs (fun (v : Value) (b : V × PyData) => RelV b.1 v ∧ Dp X.K H b.1 b.2) its (ys.zip ds)
  | [], _, [], r, _ => by cases r; exact .nil
  | y :: ys, _, d :: ds, r, h => by
    cases r with
    | cons r1 r2 =>
      cases h with
      | cons h1 h2 => exact .cons ⟨r1, h1⟩ (vals_each I r2 h2)
theorem each_vals {H : Hp} {K : PySem.W.Frag} : ∀ {its : List Value} {bs : List (V × PyData)}, PySem.W.EachIs (fun (v : Value) (b : V × PyData) => RelV b.1 v ∧ Dp K H b.1 b.2) its bs → Vals (bs.map (·.1)) its ∧ DpAll K H (bs.map (·.1)) (bs.map (·.2))
  | _, _, .nil => ⟨.nil, .nil⟩
  | _, _, .cons h t => ⟨.cons h.1 (each_vals t).1, .cons h.2 (each_vals t).2⟩
theorem cr_sortedD (hu : X.A.units + 65 < cLine) : CallR X (.builtin "sorted") (rSortedD X.K) := by
  intro pins s σ H vs us Q I r h
  obtain ⟨a, ys, ds, rfl, hs, ha, hal, hk, hdp, q⟩ := h
  obtain ⟨its, rv, hl, hz⟩ := I.list hs
  rw [Vals.ref1 r]
  have ez : (ys.zip ds).map (·.2) = ds := List.map_snd_zip (by rw [ha.length]; exact Nat.le_refl _)
  have e1 := vals_each I rv ha
  have e2 : PySem.W.EachIs (fun (v : Value) (b : V × PyData) => ∃ as, Reads s.heap v b.2 as) its (ys.zip ds) := e1.mono fun v b h => Dp.reads I b.2 b.1 v h.2 h.1
  have len : (ys.zip ds).length = ys.length := by rw [List.length_zip, ha.length, Nat.min_self]
  refine PySem.W.sorted_data (vs := its) (bs := ys.zip ds) (enc := (·.2)) hl.isList e1 e2 (by rw [ez]; exact hal) (by rw [ez]; exact hk) (by rw [len]; exact hz) (fun b hb => ?_) fun out ho hE => ?_
  · have : b.2 ∈ ds := by rw [← ez]; exact List.mem_map.mpr ⟨b, hb, rfl⟩
    have := hdp _ this
    omega
  · obtain ⟨v1, v2⟩ := each_vals hE
    obtain ⟨p1, p2⟩ := sortD_pairs (ps := ys.zip ds)
    rw [ez] at p1
    obtain ⟨cap, hc⟩ := PyProof.Rows.sortedAll_at s.heap its out.toArray
    have hz2 : (((ys.zip ds).mergeSort (PySem.W.dataLe false (·.2))).map (·.1)).length ≤ sizeLine := by rw [List.length_map, List.length_mergeSort, len]; exact hz
    exact ⟨.ref (s.heap.objs.size + 1), upd H (s.heap.objs.size + 1) (.lst (((ys.zip ds).mergeSort (PySem.W.dataLe false (·.2))).map (·.1))),
      I.laid (t' := s.toks) (fun b o e => PyProof.Rows.sortedAll_old e) (Nat.le_succ _) ⟨hz2, out, cap, v1, hc⟩, rfl, q _ _ _ v2 p1 p2 (I.hok.fresh (Nat.le_succ _))⟩
/-- t < u of data -/
def rLtD (K : PySem.W.Frag) : R2 := fun x y H Q => ∃ d e : PyData, Dp K H x d ∧ Dp K H y e ∧ PySem.W.alike d e = true ∧ d ≠ .none ∧ d.depth ≤ 30 ∧ Q (.bl (PySem.W.dataLt d e)) H
theorem op_ltD (hu : X.A.units + 65 < cLine) : OpR X (compareOp .Lt) (rLtD X.K) := by
  intro pins s σ H x y v u Q I rx ry h
  obtain ⟨d, e, hd, he, hal, hn, hdp, q⟩ := h
  obtain ⟨as, r1⟩ := Dp.reads I d x v hd rx
  obtain ⟨bs, r2⟩ := Dp.reads I e y u he ry
  exact PySem.W.lt_data r1 r2 hal hn (by omega) ⟨.bl _, H, I, rfl, q⟩
def rLeD (K : PySem.W.Frag) : R2 := fun x y H Q => ∃ d e : PyData, Dp K H x d ∧ Dp K H y e ∧ PySem.W.alike d e = true ∧ d ≠ .none ∧ d.depth ≤ 30 ∧ Q (.bl (!PySem.W.dataLt e d)) H
theorem op_leD (hu : X.A.units + 65 < cLine) : OpR X (compareOp .LtE) (rLeD X.K) := by
  intro pins s σ H x y v u Q I rx ry h
  obtain ⟨d, e, hd, he, hal, hn, hdp, q⟩ := h
  obtain ⟨as, r1⟩ := Dp.reads I d x v hd rx
  obtain ⟨bs, r2⟩ := Dp.reads I e y u he ry
  exact PySem.W.le_data r1 r2 hal hn (by omega) ⟨.bl _, H, I, rfl, q⟩
end
end Ws
/-! ## S23 -/
namespace Ws
open PySem PySem.Spec PyProof.Rows L2
mutual
theorem reads_flat {h : Heap} : ∀ (d : PyData) (v : Value) (as : List Addr), noList d = true → Reads h v d as → as = []
  | .none, _, _, _, r => by cases r; rfl
  | .bool _, _, _, _, r => by cases r; rfl
  | .int _, _, _, _, r => by cases r; rfl
  | .str _, _, _, _, r => by cases r; rfl
  | .list _, _, _, q, _ => by cases q
  | .tuple xs, _, _, q, r => by
    cases r with
    | tuple h1 h2 h3 h4 => exact reads_flats xs _ _ (by simpa only [noList] using q) h4
  | .dict _, _, _, q, _ => by cases q
theorem reads_flats {h : Heap} : ∀ (ds : List PyData) (vs : List Value) (as : List Addr), noListAll ds = true → ReadsAll h vs ds as → as = []
  | [], _, _, _, r => by cases r; rfl
  | d :: ds, _, _, q, r => by
    cases r with
    | cons h1 h2 =>
      simp only [noListAll, Bool.and_eq_true] at q
      rw [reads_flat d _ _ q.1 h1, reads_flats ds _ _ q.2 h2]
      rfl
end
theorem noList_of : ∀ {ds : List PyData} {d : PyData}, noListAll ds = true → d ∈ ds → noList d = true
  | x :: xs, d, h, hd => by
    simp only [noListAll, Bool.and_eq_true] at h
    rcases List.mem_cons.mp hd with rfl | hd
    · exact h.1
    · exact noList_of h.2 hd
/-- what a tuple of data without lists is sorted to -/
def rSortedT (K : PySem.W.Frag) : List V → Hp → VK → Prop := fun vs H Q => ∃ (a : Addr) (ys : List V) (ds : List PyData), vs = [.ref a] ∧ SqT K H a ys ∧ DpAll K H ys ds ∧ noListAll ds = true ∧ PySem.W.AllAlike ds ∧ PySem.W.Sortable ds ∧ (∀ d ∈ ds, d.depth ≤ 30) ∧
  ∀ (zs : List V) (es : List PyData) (p : Addr), DpAll K H zs es → es.Perm ds → Ord es → H p = none → Q (.ref p) (upd H p (.lst zs))
theorem cr_sortedT {X : Cx} (hu : X.A.units + 65 < cLine) : CallR X (.builtin "sorted") (rSortedT X.K) := by
  intro pins s σ H vs us Q I r h
  obtain ⟨a, ys, ds, rfl, hs, ha, hnl, hal, hk, hdp, q⟩ := h
  obtain ⟨its, rv, hl, hz⟩ := I.tuple hs
  obtain ⟨o, ho, hc, n, hd⟩ := hl
  rw [Vals.ref1 r]
  have ez : (ys.zip ds).map (·.2) = ds := List.map_snd_zip (by rw [ha.length]; exact Nat.le_refl _)
  have e1 := vals_each I rv ha
  have len : (ys.zip ds).length = ys.length := by rw [List.length_zip, ha.length, Nat.min_self]
  have il : its.length ≤ sizeLine := by rw [← rv.length]; exact hz
  refine call_function_entry_kw (kw := []) kind_sorted plain_sorted entry_sorted (args_sorted1 _) (wpAny_bind (m := checkCount "sorted" 1 1 _) (wpAny_pure (wpAny_bind (wpAny_collect_seq a (.inr rfl) ho hc hd (fun h2 kp => wpAny_bind (wpAny_newList (wpAny_bind (wpAny_holding ?_)) il)) (by simpa using il)))))
  have off : s.heap.get? h2.objs.size = none := by
    cases g : s.heap.get? h2.objs.size with
    | none => rfl
    | some u => exact absurd (Heap.lt_size (kp _ _ g)) (Nat.lt_irrefl _)
  have offH := I.hok.gone off
  have hpl := Heap.get?_push_size h2 (o := { cls := .type "list", data := .seq its.toArray.toList.toArray }) rfl
  have kq : ∀ b u, s.heap.get? b = some u → (h2.push { cls := .type "list", data := .seq its.toArray.toList.toArray }).get? b = some u := fun b u e => Heap.get?_push_of_some _ (kp b u e)
  have er : PySem.W.EachIs (fun (v : Value) (b : V × PyData) => ∃ as, Reads (h2.push { cls := .type "list", data := .seq its.toArray.toList.toArray }) v b.2 as ∧ h2.objs.size ∉ as) its (ys.zip ds) := (PySem.W.each_mem e1).mono fun v b hb => by
    obtain ⟨as, ra⟩ := Dp.reads I b.2 b.1 v hb.1.2 hb.1.1
    have hb2 : b.2 ∈ ds := by rw [← ez]; exact List.mem_map.mpr ⟨b, hb.2, rfl⟩
    have := reads_flat b.2 v as (noList_of hnl hb2) ra
    subst this
    exact ⟨[], Reads.keeps kq ra, List.not_mem_nil⟩
  refine PySem.W.list_sort_data (vs := its) (bs := ys.zip ds) (enc := (·.2)) (n := 0) hpl e1 er (by rw [ez]; exact hal) (by rw [ez]; exact hk) (by rw [len]; exact hz) (fun b hb => ?_) fun out ho2 hE => ?_
  · have hb2 : b.2 ∈ ds := by rw [← ez]; exact List.mem_map.mpr ⟨b, hb, rfl⟩
    have h30 : b.2.depth ≤ 30 := hdp _ hb2
    show X.A.units + 1 + 1 + b.2.depth < cLine
    omega
  · obtain ⟨v1, v2⟩ := each_vals hE
    obtain ⟨p1, p2⟩ := sortD_pairs (ps := ys.zip ds)
    rw [ez] at p1
    obtain ⟨cap, hcp⟩ := sortedHeap_at (vs := its) (out := out.toArray) hpl
    have hz2 : (((ys.zip ds).mergeSort (PySem.W.dataLe false (·.2))).map (·.1)).length ≤ sizeLine := by rw [List.length_map, List.length_mergeSort, len]; exact hz
    refine wpAny_pure ⟨_, rfl, .ref h2.objs.size, upd H h2.objs.size (.lst (((ys.zip ds).mergeSort (PySem.W.dataLe false (·.2))).map (·.1))), I.laidN (t' := s.toks) (fun b u e => ?_) off offH ⟨hz2, out, cap, v1, hcp⟩, rfl, q _ _ _ v2 p1 p2 offH⟩
    have lt : b < h2.objs.size := Heap.lt_size (kp b u e)
    exact (sortedHeap_old (Nat.ne_of_lt lt) (by rw [size_push']; exact Nat.lt_succ_of_lt lt)).trans (kq b u e)
end Ws
/-! ## SD1 -/
/-! tables of sets of any size: each slot is met on the way of each hash, for every mask 2 ^ e - 1 -/
namespace SD
open PySem PySem.Spec PyProof.Rows L2
/-- the round without a rest: 0, 1, 6, 31, .. -/
def gro : Nat → Nat
  | 0 => 0
  | k + 1 => 5 * gro k + 1
theorem gro_add (n : Nat) : ∀ k, gro (k + n) = (4 * gro n + 1) * gro k + gro n
  | 0 => by simp [gro]
  | k + 1 => by
    have e : k + 1 + n = (k + n) + 1 := by omega
    rw [e]
    show 5 * gro (k + n) + 1 = (4 * gro n + 1) * (5 * gro k + 1) + gro n
    rw [gro_add n k]
    generalize gro n = a
    generalize gro k = b
    have : (4 * a + 1) * (5 * b + 1) = 5 * ((4 * a + 1) * b) + (4 * a + 1) := by
      rw [Nat.mul_add, Nat.mul_one, Nat.mul_left_comm]
    omega
theorem gro_two : ∀ e, ∃ d, gro (2 ^ e) = 2 ^ e * (2 * d + 1)
  | 0 => ⟨0, rfl⟩
  | e + 1 => by
    obtain ⟨d, h⟩ := gro_two e
    refine ⟨2 * d * gro (2 ^ e) + gro (2 ^ e) + d, ?_⟩
    have e1 : 2 ^ (e + 1) = 2 ^ e + 2 ^ e := by rw [Nat.pow_succ]; omega
    rw [e1, gro_add]
    generalize hx : gro (2 ^ e) = x at *
    generalize 2 ^ e = m at *
    subst h
    grind
theorem two_step (e k : Nat) : gro (k + 2 ^ e) % 2 ^ (e + 1) = (gro k + 2 ^ e) % 2 ^ (e + 1) := by
  obtain ⟨d, h⟩ := gro_two e
  rw [gro_add, h, Nat.pow_succ]
  generalize 2 ^ e = m
  generalize gro k = x
  have : (4 * (m * (2 * d + 1)) + 1) * x + m * (2 * d + 1) = (x + m) + (m * 2) * (2 * (2 * d + 1) * x + d) := by grind
  rw [this, Nat.add_mul_mod_self_left]
theorem gro_all : ∀ (e j : Nat), j < 2 ^ e → ∃ k, k < 2 ^ e ∧ gro k % 2 ^ e = j
  | 0, j, h => ⟨0, by decide, by
    have : j = 0 := by simpa using h
    subst this
    rfl⟩
  | e + 1, j, h => by
    have hm : 0 < 2 ^ e := Nat.pow_pos (by decide)
    obtain ⟨k, hk, ek⟩ := gro_all e (j % 2 ^ e) (Nat.mod_lt _ hm)
    have s2 := two_step e k
    have e1 : 2 ^ (e + 1) = 2 ^ e * 2 := Nat.pow_succ ..
    have lt : gro k % 2 ^ (e + 1) < 2 ^ (e + 1) := Nat.mod_lt _ (by omega)
    have mm : gro k % 2 ^ (e + 1) % 2 ^ e = j % 2 ^ e := by
      rw [e1, Nat.mod_mul_right_mod]
      exact ek
    have s3 : gro (k + 2 ^ e) % 2 ^ (e + 1) = (gro k % 2 ^ (e + 1) + 2 ^ e) % 2 ^ (e + 1) := by rw [s2, Nat.mod_add_mod]
    rw [e1] at h lt mm s3 ⊢
    have goal : ∀ x y m : Nat, 0 < m → k < m → j < m * 2 → x < m * 2 → x % m = j % m → y = (x + m) % (m * 2) → x = j ∨ y = j := ?_
    · rcases goal _ _ _ hm hk h lt mm s3 with z | z
      · exact ⟨k, by omega, z⟩
      · exact ⟨k + 2 ^ e, by omega, z⟩
    intro x y m hm hk h lt mm s3
    by_cases c : x = j
    · exact .inl c
    · refine .inr ?_
      rw [s3]
      by_cases a : x < m
      · rw [Nat.mod_eq_of_lt a] at mm
        by_cases b : j < m
        · rw [Nat.mod_eq_of_lt b] at mm
          exact absurd mm c
        · have : j % m = j - m := by rw [Nat.mod_eq_sub_mod (by omega), Nat.mod_eq_of_lt (by omega)]
          rw [Nat.mod_eq_of_lt (by omega)]
          omega
      · have e3 : x % m = x - m := by rw [Nat.mod_eq_sub_mod (by omega), Nat.mod_eq_of_lt (by omega)]
        by_cases b : j < m
        · rw [Nat.mod_eq_of_lt b] at mm
          rw [Nat.mod_eq_sub_mod (by omega), Nat.mod_eq_of_lt (by omega)]
          omega
        · have : j % m = j - m := by rw [Nat.mod_eq_sub_mod (by omega), Nat.mod_eq_of_lt (by omega)]
          omega
/-- masks of tables -/
def Msk (m : Nat) : Prop := (∃ e, 3 ≤ e ∧ m + 1 = 2 ^ e) ∧ m ≤ 8191
theorem Msk.po {m : Nat} (h : Msk m) : ∃ e, m + 1 = 2 ^ e := let ⟨⟨e, _, he⟩, _⟩ := h; ⟨e, he⟩
theorem Msk.odd {m : Nat} (h : Msk m) : m % 2 = 1 := by
  obtain ⟨⟨e, h3, he⟩, _⟩ := h
  obtain ⟨k, rfl⟩ : ∃ k, e = k + 1 := ⟨e - 1, by omega⟩
  rw [Nat.pow_succ] at he
  omega
theorem lcg_gro (m : Nat) : ∀ k, lcgN m k = gro k % (m + 1)
  | 0 => by simp [lcgN, gro]
  | k + 1 => by
    show (lcgN m k * 5 + 1) % (m + 1) = (5 * gro k + 1) % (m + 1)
    rw [lcg_gro m k, Nat.mul_comm 5, ← Nat.mod_add_mod, ← Nat.mod_add_mod (m := gro k * 5), Nat.mod_mul_mod]
theorem lcg_at {m : Nat} (hm : Msk m) {j : Nat} (hj : j ≤ m) : ∃ b, b ≤ m ∧ lcgN m b = j := by
  obtain ⟨e, he⟩ := hm.po
  obtain ⟨k, h1, h2⟩ := gro_all e j (by omega)
  exact ⟨k, by omega, by rw [lcg_gro, he]; exact h2⟩
theorem lcg_turn {m : Nat} (hm : Msk m) (k : Nat) : lcgN m (m + 1 + k) = lcgN m k := by
  obtain ⟨e, he⟩ := hm.po
  obtain ⟨d, hd⟩ := gro_two e
  rw [lcg_gro, lcg_gro, he, Nat.add_comm, gro_add, hd]
  generalize 2 ^ e = p
  generalize gro k = x
  have : (4 * (p * (2 * d + 1)) + 1) * x + p * (2 * d + 1) = x + p * (4 * (2 * d + 1) * x + (2 * d + 1)) := by grind
  rw [this, Nat.add_mul_mod_self_left]
theorem lcg_from {m : Nat} (hm : Msk m) {i j : Nat} (hi : i ≤ m) (hj : j ≤ m) : ∃ k, k ≤ m ∧ lcgI m i k = j := by
  obtain ⟨x, hx, ex⟩ := lcg_at hm hi
  obtain ⟨y, hy, ey⟩ := lcg_at hm hj
  subst ex ey
  by_cases c : x ≤ y
  · exact ⟨y - x, by omega, by rw [lcgN_add, show x + (y - x) = y by omega]⟩
  · exact ⟨y + (m + 1) - x, by omega, by rw [lcgN_add, show x + (y + (m + 1) - x) = m + 1 + y by omega, lcg_turn hm]⟩
/-- each slot begins a run, soon -/
theorem run_hits {m : Nat} (hm : Msk m) (h : Int) {j : Nat} (hj : j ≤ m) : ∃ n, n ≤ m + 12 ∧ runI m (SetTable.bits h) n = j := by
  obtain ⟨k, h1, h2⟩ := lcg_from hm (runI_le m (SetTable.bits h) 12) hj
  refine ⟨12 + k, by omega, ?_⟩
  rw [runI_tail (bits_lt h)]
  exact h2
theorem way_hits {m : Nat} (hm : Msk m) (h : Int) {j : Nat} (hj : j ≤ m) : ∃ k, k < 10 * SetTable.turns m ∧ way m h k = j := by
  obtain ⟨n, h1, h2⟩ := run_hits hm h hj
  obtain ⟨k, h3, h4⟩ := run_nth m (SetTable.bits h) n
  exact ⟨k, by unfold SetTable.turns; omega, (congrArg SetTable.Probe.j h4).trans h2⟩
theorem way_in (m : Nat) (h : Int) (k : Nat) : way m h k ≤ m := by
  have h1 : SetTable.bits h % (m + 1) ≤ m := Nat.le_of_lt_succ (Nat.mod_lt _ (Nat.succ_pos _))
  have h2 := (runEnd_bd h1).1
  have h3 := (runEnd_bd h1).2.1
  have := nth_in (m := m) k (runAt m (SetTable.bits h % (m + 1)) (SetTable.bits h)) (show SetTable.bits h % (m + 1) + (SetTable.runEnd m (SetTable.bits h % (m + 1)) - SetTable.bits h % (m + 1)) ≤ m by omega)
  exact Nat.le_trans (Nat.le_add_right _ _) this
/-- the size of a table that is laid anew -/
theorem size_go (n : Nat) : ∀ (f a : Nat), n < 2 ^ a * 2 ^ f → ∃ b, a ≤ b ∧ SetTable.sizeAbove.go n f (2 ^ a) = 2 ^ b ∧ n < 2 ^ b ∧ (b = a ∨ 2 ^ b ≤ 2 * n)
  | 0, a, h => ⟨a, Nat.le_refl _, rfl, by simpa using h, .inl rfl⟩
  | f + 1, a, h => by
    have e0 : SetTable.sizeAbove.go n (f + 1) (2 ^ a) = if 2 ^ a ≤ n then SetTable.sizeAbove.go n f (2 ^ a * 2) else 2 ^ a := rfl
    rw [e0]
    by_cases c : 2 ^ a ≤ n
    · rw [if_pos c, ← Nat.pow_succ]
      obtain ⟨b, h1, h2, h3, h4⟩ := size_go n f (a + 1) (by rw [Nat.pow_succ] at h ⊢; rw [Nat.mul_assoc, Nat.mul_comm 2]; exact h)
      refine ⟨b, by omega, h2, h3, .inr ?_⟩
      rcases h4 with e | e
      · rw [e, Nat.pow_succ]; omega
      · exact e
    · rw [if_neg c]
      exact ⟨a, Nat.le_refl _, rfl, by omega, .inl rfl⟩
theorem size_of {n : Nat} (h1 : 2 ≤ n) (h2 : n ≤ 1024) : ∃ M, SetTable.sizeAbove (SetTable.grown n) - 1 = M ∧ Msk M ∧ SetTable.sizeAbove (SetTable.grown n) ≤ 8192 ∧ n * 5 < M * 3 ∧ n ≤ M := by
  have g : SetTable.grown n = n * 4 := by unfold SetTable.grown; rw [if_neg (by omega)]
  rw [g]
  obtain ⟨b, b1, b2, b3, b4⟩ := size_go (n * 4) 64 3 (Nat.lt_of_le_of_lt (show n * 4 ≤ 4096 by omega) (by decide))
  have e : SetTable.sizeAbove (n * 4) = 2 ^ b := b2
  rw [e]
  have : 2 ^ b ≤ 8192 := by
    rcases b4 with rfl | z
    · decide
    · omega
  have : 0 < 2 ^ b := Nat.pow_pos (by decide)
  exact ⟨2 ^ b - 1, rfl, ⟨⟨b, b1, by omega⟩, by omega⟩, this |> fun _ => by omega, by omega, by omega⟩
end SD
/-! ## SD2 -/
/-! the table of a set: each hash is found again from its way; one more; all anew -/
namespace SD
open PySem PySem.Spec PyProof.Rows L2
structure Tb (t : SetTable) (hs : List Int) : Prop where
  up : Ris t.place.toList
  nod : t.dummies = #[]
  n : t.place.size = hs.length
  m : Msk t.mask
  le : ∀ x ∈ t.place.toList, x ≤ t.mask
  met : ∀ (i : Nat) (h : Int) (j : Nat), hs[i]? = some h → t.place.toList[i]? = some j → ∃ k, way t.mask h k = j ∧ ∀ c, c < k → way t.mask h c ∈ t.place.toList
section
variable {t : SetTable} {hs : List Int}
theorem Tb.len (T : Tb t hs) : t.place.toList.length = hs.length := T.n
/-- where the way of a hash first meets an empty slot -/
theorem Tb.gap (T : Tb t hs) (few : hs.length ≤ t.mask) (h : Int) : ∃ K, K < 10 * SetTable.turns t.mask ∧ way t.mask h K ∉ t.place.toList ∧ ∀ c, c < K → way t.mask h c ∈ t.place.toList := by
  obtain ⟨j, j1, j2⟩ := st_missing t.place.toList (t.mask + 1) (by rw [T.len]; omega)
  obtain ⟨k, k1, k2⟩ := way_hits T.m h (show j ≤ t.mask by omega)
  obtain ⟨K, a, b, c⟩ := st_least (p := fun k => ¬ way t.mask h k ∈ t.place.toList) k (fun z => j2 (k2 ▸ z))
  exact ⟨K, by omega, b, fun d hd => Classical.byContradiction fun z => c d hd z⟩
theorem Tb.earlier (T : Tb t hs) {h : Int} {K i j : Nat} (hK : way t.mask h K ∉ t.place.toList) (hi : hs[i]? = some h) (hj : t.place.toList[i]? = some j) : ∃ k, k < K ∧ way t.mask h k = j := by
  obtain ⟨k, e, b⟩ := T.met i h j hi hj
  rcases Nat.lt_or_ge k K with c | c
  · exact ⟨k, c, e⟩
  · exfalso
    rcases Nat.lt_or_eq_of_le c with c | c
    · exact hK (b K c)
    · rw [c, e] at hK
      exact hK (List.mem_of_getElem? hj)
/-- the place of a new slot among the others -/
def spot (t : SetTable) (j : Nat) : Nat := SetTable.below t.place j
theorem spot_le (T : Tb t hs) (j : Nat) : spot t j ≤ hs.length := by
  have h1 : spot t j ≤ t.place.size := (below_cut T.up j).1
  have h2 := T.n
  omega
structure Grown (t t1 : SetTable) (n : Nat) : Prop where
  mask : t1.mask = t.mask
  led : t1.led = t.led
  plain : t1.plain = t.plain
  full : t1.tooFull = true ↔ (n + 1) * 5 ≥ t.mask * 3
theorem Tb.add (T : Tb t hs) {h : Int} {K j : Nat} (hj : j = way t.mask h K) (free : j ∉ t.place.toList) (b : ∀ c, c < K → way t.mask h c ∈ t.place.toList) :
    Tb (t.put j).1 (hs.take (spot t j) ++ h :: hs.drop (spot t j)) ∧ Grown t (t.put j).1 hs.length := by
  have hp : (t.put j).1.place.toList = t.place.toList.take (spot t j) ++ j :: t.place.toList.drop (spot t j) := put_place t j
  have le1 : spot t j ≤ t.place.toList.length := by rw [T.len]; exact spot_le T j
  have sz : (t.put j).1.place.toList.length = hs.length + 1 := by
    rw [hp]
    exact (len_ins _ le1 j).trans (by rw [T.len])
  have more : ∀ x, x ∈ t.place.toList → x ∈ (t.put j).1.place.toList := fun x hx => by
    rw [hp]
    exact mem_ins.2 (.inr hx)
  refine ⟨⟨ris_insert T.up fun z => free (List.mem_of_getElem? (by rw [Array.getElem?_toList]; exact z)), put_dm T.nod j, ?_, T.m, fun x hx => ?_, fun i g x h1 h2 => ?_⟩, rfl, rfl, rfl, ?_⟩
  · rw [len_ins hs (spot_le T j)]
    exact sz
  · rw [hp] at hx
    rcases mem_ins.1 hx with e | e
    · rw [e, hj]
      exact way_in ..
    · exact T.le x e
  · rw [tins_get hs (spot_le T j)] at h1
    rw [hp, tins_get _ le1] at h2
    have fin : ∀ i, hs[i]? = some g → t.place.toList[i]? = some x → ∃ k, way t.mask g k = x ∧ ∀ c, c < k → way t.mask g c ∈ (t.put j).1.place.toList := fun i a1 a2 => by
      obtain ⟨k, e, q⟩ := T.met i g x a1 a2
      exact ⟨k, e, fun c hc => more _ (q c hc)⟩
    by_cases c1 : i < spot t j
    · rw [if_pos c1] at h1
      rw [if_pos c1] at h2
      exact fin i h1 h2
    · rw [if_neg c1] at h1
      rw [if_neg c1] at h2
      by_cases c2 : i = spot t j
      · rw [if_pos c2] at h1
        rw [if_pos c2] at h2
        obtain rfl := Option.some.inj h1
        obtain rfl := Option.some.inj h2
        exact ⟨K, hj.symm, fun c hc => more _ (b c hc)⟩
      · rw [if_neg c2] at h1
        rw [if_neg c2] at h2
        exact fin (i - 1) h1 h2
  · have e : (t.put j).1.fill = hs.length + 1 := by
      unfold SetTable.fill
      rw [put_dm T.nod j]
      exact sz
    unfold SetTable.tooFull
    rw [decide_eq_true_eq, e]
    exact Iff.rfl
end
/-! ### all anew -/
theorem find_free {m : Nat} (hm : Msk m) (ow : Array (Option Nat)) (h : Int) {j : Nat} (hj : j ≤ m) (hf : oAt ow j = none) :
    ∃ K, SetTable.layClean.free m ow (SetTable.turns m) (SetTable.bits h % (m + 1)) (SetTable.bits h) = some (way m h K) ∧ oAt ow (way m h K) = none ∧ ∀ c, c < K → oAt ow (way m h c) ≠ none := by
  obtain ⟨n, n1, n2⟩ := run_hits hm h hj
  let O := off m (SetTable.bits h % (m + 1)) (SetTable.bits h) n
  have at_O : way m h O = j := by
    show (nth m (runAt m (SetTable.bits h % (m + 1)) (SetTable.bits h)) (off m (SetTable.bits h % (m + 1)) (SetTable.bits h) n)).j = j
    rw [nth_off, itL_run]
    exact n2
  obtain ⟨K, a, b, c⟩ := st_least (p := fun k => oAt ow (way m h k) = none) O (by rw [at_O]; exact hf)
  refine ⟨K, free_spec m ow (SetTable.turns m) n _ _ K (show n < m + 15 by omega) a (fun k hk => ?_) (by rw [show (nth m (runAt m (SetTable.bits h % (m + 1)) (SetTable.bits h)) K).j = way m h K from rfl, b]; rfl), b, c⟩
  cases z : oAt ow (nth m (runAt m (SetTable.bits h % (m + 1)) (SetTable.bits h)) k).j with
  | none => exact absurd z (c k hk)
  | some _ => rfl
theorem own_more {m : Nat} (hm : Msk m) {xs : List Int} {ow : Array (Option Nat)} (W : Own m xs ow) (few : xs.length ≤ m) (h : Int) :
    ∃ j, SetTable.layClean.free m ow (SetTable.turns m) (SetTable.bits h % (m + 1)) (SetTable.bits h) = some j ∧ Own m (xs ++ [h]) (ow.setIfInBounds j (some xs.length)) := by
  obtain ⟨ps, ps1, ps2⟩ := W.ps
  obtain ⟨i, i1, i2⟩ := st_missing ps (m + 1) (by omega)
  obtain ⟨K, k1, k2, k3⟩ := find_free hm ow h (show i ≤ m by omega) (Classical.byContradiction fun z => i2 (ps2 i (by omega) z))
  have inm : way m h K ≤ m := way_in ..
  have new := oAt_set_self (some xs.length) (show way m h K < ow.size by rw [W.sz]; omega)
  have old : ∀ {x : Nat}, x ≠ way m h K → oAt (ow.setIfInBounds (way m h K) (some xs.length)) x = oAt ow x := fun ne => oAt_set_ne _ ne
  have still : ∀ {x : Nat}, oAt ow x ≠ none → oAt (ow.setIfInBounds (way m h K) (some xs.length)) x ≠ none := fun {x} hx => by
    rw [old fun z => hx (by rw [z]; exact k2)]
    exact hx
  refine ⟨way m h K, k1, by rw [Array.size_setIfInBounds]; exact W.sz, fun x k hx e => ?_, fun k hk => ?_, way m h K :: ps, by simp [ps1], fun x hx e => ?_⟩
  · by_cases c : x = way m h K
    · subst c
      obtain rfl : xs.length = k := Option.some.inj (new.symm.trans e)
      exact ⟨h, K, by simp, rfl, fun c hc => still (k3 c hc)⟩
    · rw [old c] at e
      obtain ⟨g, G, a1, a2, a3⟩ := W.at_ x k hx e
      exact ⟨g, G, by rw [List.getElem?_append_left (List.getElem?_eq_some_iff.mp a1).1]; exact a1, a2, fun c hc => still (a3 c hc)⟩
  · rw [List.length_append, List.length_singleton] at hk
    rcases Nat.lt_or_ge k xs.length with c | c
    · obtain ⟨x, x1, x2⟩ := W.all k c
      exact ⟨x, x1, (old fun z => by rw [z, k2] at x2; cases x2).trans x2⟩
    · obtain rfl : k = xs.length := by omega
      exact ⟨_, inm, new⟩
  · by_cases c : x = way m h K
    · rw [c]; exact List.mem_cons_self
    · rw [old c] at e
      exact List.mem_cons_of_mem _ (ps2 x hx e)
theorem own_fold {m : Nat} (hm : Msk m) : ∀ (ys xs : List Int) (ow : Array (Option Nat)), Own m xs ow → xs.length + ys.length ≤ m → ∃ ow', ys.foldl (stepF m) (some (ow, xs.length)) = some (ow', xs.length + ys.length) ∧ Own m (xs ++ ys) ow'
  | [], xs, ow, W, _ => ⟨ow, rfl, by rw [List.append_nil]; exact W⟩
  | y :: ys, xs, ow, W, few => by
    rw [List.length_cons] at few
    obtain ⟨j, j1, W1⟩ := own_more hm W (by omega) y
    obtain ⟨ow2, e, W2⟩ := own_fold hm ys (xs ++ [y]) _ W1 (by simp; omega)
    rw [List.append_assoc, List.singleton_append] at W2
    rw [List.length_append, List.length_singleton] at e
    exact ⟨ow2, by rw [List.foldl_cons, stepF_some j1, e, List.length_cons]; congr 2; omega, W2⟩
theorem lay_own {m : Nat} (hm : Msk m) {hs : Array Int} (few : hs.size ≤ m) : ∃ ow, SetTable.layClean m hs = some ow ∧ Own m hs.toList ow := by
  obtain ⟨ow, e, W⟩ := own_fold hm hs.toList [] _ (Own.init m) (by simpa using few)
  refine ⟨ow, ?_, W⟩
  rw [layClean_eq]
  have e' : hs.toList.foldl (stepF m) (some (Array.replicate (m + 1) none, 0)) = some (ow, 0 + hs.toList.length) := e
  rw [e']
  rfl
structure Anew (t t1 : SetTable) (M : Nat) : Prop where
  mask : t1.mask = M
  led : t1.led = t.led
  plain : t1.plain = t.plain
theorem relay (t : SetTable) {hs : Array Int} {wanted M : Nat} (hw : SetTable.sizeAbove wanted - 1 = M) (hM : Msk M) (few : hs.size ≤ M) :
    ∃ t1 ord, t.relaid hs wanted = some (t1, ord) ∧ ord.toList.Perm (List.range hs.size) ∧ Tb t1 (ord.toList.map fun i => hs.getD i 0) ∧ Anew t t1 M := by
  obtain ⟨ow, e, W⟩ := lay_own hM few
  have live := fun j k => mem_live (m := M) (owner := ow) W.sz (j := j) (k := k)
  have up := ris_live (fun j => ow.getD j none) (List.range (M + 1)) (show List.Pairwise _ _ from List.pairwise_lt_range)
  have up1 : Ris ((liveOf M ow).map (·.1)) := up.1
  have nd1 : ((liveOf M ow).map (·.1)).Nodup := List.Pairwise.imp (fun h => Nat.ne_of_lt h) up1
  have n1 : (liveOf M ow).length = hs.size := by
    obtain ⟨ps, p1, p2⟩ := W.ps
    have a := nat_nodup_len ((liveOf M ow).map (·.1)) ps nd1 fun x hx => by
      obtain ⟨⟨y, k⟩, q1, rfl⟩ := List.mem_map.mp hx
      obtain ⟨b1, b2⟩ := (live y k).1 q1
      exact p2 y b1 fun z => by rw [b2] at z; cases z
    have b := nat_nodup_len (List.range hs.size) ((liveOf M ow).map (·.2)) List.nodup_range fun k hk => by
      obtain ⟨j, b1, b2⟩ := W.all k (by simpa using hk)
      exact List.mem_map.mpr ⟨(j, k), (live j k).2 ⟨b1, b2⟩, rfl⟩
    rw [List.length_map, p1, Array.length_toList] at a
    rw [List.length_map, List.length_range] at b
    exact Nat.le_antisymm a b
  refine ⟨tabOf t M ow, ((liveOf M ow).map (·.2)).toArray, by rw [relaid_eq, hw, e]; rfl, perm_range hs.size _ (by simpa using n1) fun k hk => ?_, ⟨up1, rfl, ?_, hM, fun x hx => ?_, fun i g j h1 h2 => ?_⟩, rfl, rfl, rfl⟩
  · obtain ⟨j, b1, b2⟩ := W.all k (by simpa using hk)
    exact List.mem_map.mpr ⟨(j, k), (live j k).2 ⟨b1, b2⟩, rfl⟩
  · show ((liveOf M ow).map (·.1)).toArray.size = (((liveOf M ow).map (·.2)).map _).length
    simp
  · exact Nat.le_of_lt_succ (List.mem_range.mp (up.2 x hx))
  · have h1 : (((liveOf M ow).map (·.2)).map fun i => hs.getD i 0)[i]? = some g := h1
    have h2 : ((liveOf M ow).map (·.1))[i]? = some j := h2
    rw [List.getElem?_map, List.getElem?_map] at h1
    rw [List.getElem?_map] at h2
    cases q : (liveOf M ow)[i]? with
    | none => rw [q] at h2; cases h2
    | some p =>
      obtain ⟨x, k⟩ := p
      rw [q] at h1 h2
      obtain rfl : x = j := Option.some.inj h2
      obtain ⟨b1, b2⟩ := (live x k).1 (List.mem_of_getElem? q)
      obtain ⟨g0, K, a1, a2, a3⟩ := W.at_ x k b1 b2
      have eg : hs.getD k 0 = g0 := by
        rw [Array.getD_eq_getD_getElem?, ← Array.getElem?_toList, a1]
        rfl
      obtain rfl : g0 = g := eg.symm.trans (Option.some.inj h1)
      refine ⟨K, a2, fun c hc => ?_⟩
      show way M g0 c ∈ (liveOf M ow).map (·.1)
      cases z : oAt ow (way M g0 c) with
      | none => exact absurd z (a3 c hc)
      | some k2 => exact List.mem_map.mpr ⟨(_, k2), (live _ k2).2 ⟨way_in .., z⟩, rfl⟩
end SD
/-! ## SD3 -/
/-! sets of keys of any kind: search, add -/
namespace SD
open PySem PySem.Spec PyProof.Rows L2
/-- what a set's search asks of its keys -/
structure Qk {P : Program} {w : World} {κ : Type} [DecidableEq κ] (kd : HeapKind P w κ) : Prop where
  st : kd.Stays
  ofA : ∀ {A : Around} {E : Value → Shared → Prop} {s : Shared} {k : κ} {b : Addr} {Q : Bool → Shared → Prop}, kd.is s.heap k b → Q false s → wpAny (model P w) A (ofAClassStatement 8 (.ref b)) Q E s
  byV : ∀ {A : Around} {E : Value → Shared → Prop} {s : Shared} {k : κ} {b : Addr} {Q : Bool → Shared → Prop}, kd.is s.heap k b → Q true s → wpAny (model P w) A (hashByValue 8 (.ref b)) Q E s
section
variable {P : Program} {w : World} {κ : Type} [DecidableEq κ] {kd : HeapKind P w κ}
def ent (kd : HeapKind P w κ) (p : Addr × κ) : Int × Value := (kd.hash p.2, .ref p.1)
def hsh (kd : HeapKind P w κ) (p : Addr × κ) : Int := kd.hash p.2
structure Sst (kd : HeapKind P w κ) (h : Heap) (a : Addr) (L : List (Addr × κ)) (es : Array (Int × Value)) (ep : Nat) (t : SetTable) : Prop where
  at_ : ∃ o, h.get? a = some o ∧ o.ExactSet ∧ o.data = .set es ep t
  es : es.toList = L.map (ent kd)
  tb : Tb t (L.map (hsh kd))
  nd : (L.map (·.2)).Nodup
  key : ∀ p ∈ L, kd.is h p.2 p.1
  pl : t.plain = true
  led : w.params.followText "set-order" = true ∨ t.led = true
  room : L.length * 5 < t.mask * 3
  few : L.length ≤ 1000
variable {A : Around} {E : Value → Shared → Prop} {s : Shared} {a : Addr} {L : List (Addr × κ)} {es : Array (Int × Value)} {ep : Nat} {t : SetTable}
theorem len_es (e : es.toList = L.map (ent kd)) : es.size = L.length := by
  have := congrArg List.length e
  rwa [List.length_map] at this
theorem fits_of (T : Tb t (L.map (hsh kd))) (e : es.toList = L.map (ent kd)) (h : L.length ≤ t.mask) : t.fits es.size = true := by
  have h1 := T.n
  rw [List.length_map] at h1
  have h2 := len_es e
  unfold SetTable.fits SetTable.fill
  rw [T.nod, Bool.and_eq_true, beq_iff_eq, decide_eq_true_eq]
  show t.place.size = es.size ∧ t.place.size + 0 ≤ t.mask
  omega
theorem Sst.fit {h : Heap} (R : Sst kd h a L es ep t) : t.fits es.size = true := fits_of R.tb R.es (by have := R.room; omega)
theorem Sst.ent {h : Heap} (R : Sst kd h a L es ep t) {i : Nat} {p : Addr × κ} (e : L[i]? = some p) : es[i]? = some (kd.hash p.2, .ref p.1) := by
  rw [← Array.getElem?_toList, R.es, List.getElem?_map, e]
  rfl
theorem no_dummy (m : Nat) (h : Int) : ∀ n, (nth m (runAt m (SetTable.bits h % (m + 1)) (SetTable.bits h)) n).dummy = none
  | 0 => rfl
  | n + 1 => by
    rw [nth_succ]
    unfold adv
    split <;> exact no_dummy m h n
theorem seen_no (q : Qk kd) {x : Addr} {k : κ} (hx : kd.is s.heap k x) {Q : Bool → Shared → Prop} (h : Q false s) : ∀ ys : List Value, (∀ y ∈ ys, ∃ k' c, y = Value.ref c ∧ kd.is s.heap k' c) → wpAny (model P w) A (searchCouldBeSeen (.ref x) ys) Q E s := by
  intro ys hy
  unfold searchCouldBeSeen
  refine wpAny_bind (wpAny_forIn_list _ (fun rest r s' => r.1 = none ∧ s' = s ∧ ∀ y ∈ rest, ∃ k' c, y = Value.ref c ∧ kd.is s.heap k' c) _ ?_ ?_ _ _ ⟨rfl, rfl, hy⟩)
  · rintro v rest r s' ⟨hr, e, all⟩
    subst e
    obtain ⟨k', c, rfl, hc⟩ := all v List.mem_cons_self
    dsimp only
    by_cases hv : (x == c || (carriedByValue (.ref x) && carriedByValue (.ref c))) = true
    · exact wp_if_pos hv (wpAny_pure ⟨rfl, rfl, fun u hu => all u (List.mem_cons_of_mem _ hu)⟩)
    · refine wp_if_neg hv (wpAny_bind (kd.quiet hx ?_))
      simp only [Bool.not_true, Bool.false_eq_true, if_false]
      refine wpAny_bind (kd.quiet hc ?_)
      simp only [Bool.not_true, Bool.false_eq_true, if_false]
      refine wpAny_bind (q.ofA hx ?_)
      simp only [Bool.false_eq_true, if_false]
      refine wpAny_bind (q.ofA hc ?_)
      simp only [Bool.false_eq_true, if_false]
      exact wpAny_pure ⟨rfl, rfl, fun u hu => all u (List.mem_cons_of_mem _ hu)⟩
  · rintro ⟨r1, r2⟩ s' ⟨hr, e, _⟩
    subst e
    simp only at hr
    subst hr
    exact wpAny_pure h
/-- the search from the c-th step of the way on; K: where it comes to an empty slot -/
theorem seek (q : Qk kd) (R : Sst kd s.heap a L es ep t) {x : Addr} {k : κ} (hx : kd.is s.heap k x) (hu : kd.room A) {K : Nat} (K1 : K < 10 * SetTable.turns t.mask)
    (K2 : way t.mask (kd.hash k) K ∉ t.place.toList) (K3 : ∀ c, c < K → way t.mask (kd.hash k) c ∈ t.place.toList) {Q : SetFound → Shared → Prop}
    (yes : k ∈ L.map (·.2) → Q (.there none) s) (no : k ∉ L.map (·.2) → Q (.free (way t.mask (kd.hash k) K) false) s) :
    ∀ (f c : Nat) (stand : Option SetTable.Probe), stand.getD (t.probeStart (kd.hash k)) = nth t.mask (runAt t.mask (SetTable.bits (kd.hash k) % (t.mask + 1)) (SetTable.bits (kd.hash k))) c → c ≤ K → K - c < f →
      (∀ (i : Nat) p, L[i]? = some p → p.2 = k → ∃ d, c ≤ d ∧ d < K ∧ t.place.toList[i]? = some (way t.mask (kd.hash k) d)) →
      wpAny (model P w) A (setSearchFrom a (.ref x) (kd.hash k) true f stand) Q E s
  | 0, _, _, _, _, hf, _ => absurd hf (Nat.not_lt_zero _)
  | f + 1, c, stand, hst, hc, hf, ahead => by
    obtain ⟨o, o1, o2, o3⟩ := R.at_
    generalize hh : kd.hash k = hk at *
    have nd := no_dummy t.mask hk c
    generalize hp0 : nth t.mask (runAt t.mask (SetTable.bits hk % (t.mask + 1)) (SetTable.bits hk)) c = p0 at hst nd
    have step : ∀ d, nth t.mask p0 d = nth t.mask (runAt t.mask (SetTable.bits hk % (t.mask + 1)) (SetTable.bits hk)) (c + d) := fun d => by rw [nth_add, hp0]
    have stepj : ∀ d, (nth t.mask p0 d).j = way t.mask hk (c + d) := fun d => congrArg SetTable.Probe.j (step d)
    have spec := go_spec t R.tb.up R.tb.nod (fun i => (es[i]?.map (·.1)).getD 0) hk (10 * SetTable.turns t.mask) (K - c) p0 nd (by omega)
      (fun d hd => by rw [stepj]; exact K3 _ (by omega)) (by rw [stepj, show c + (K - c) = K by omega]; exact K2)
    have hashes : ∀ (i : Nat) p, L[i]? = some p → (es[i]?.map (·.1)).getD 0 = kd.hash p.2 := fun i p hp => by rw [R.ent hp]; rfl
    rw [setSearchFrom_succ]
    refine wpAny_bind (wpAny_setState_of o1 o3 R.fit ?_)
    dsimp only
    refine wp_if_neg (by unfold SetTable.gaveWay; rw [R.tb.m.odd]; decide) ?_
    rcases spec with ⟨d, i, d1, d2, d3, d4, d5⟩ | ⟨d1, d2⟩
    · have pr : t.probe (fun i => (es[i]?.map (·.1)).getD 0) hk (stand.getD (t.probeStart hk)) = some (.candidate (way t.mask hk (c + d)) i (nth t.mask (runAt t.mask (SetTable.bits hk % (t.mask + 1)) (SetTable.bits hk)) (c + (d + 1)))) := by
        rw [hst, ← stepj, ← step]
        exact d5
      rw [pr]
      dsimp only
      rw [stepj] at d2
      have il : i < L.length := by
        have h1 := (List.getElem?_eq_some_iff.mp d2).1
        rw [R.tb.len, List.length_map] at h1
        exact h1
      obtain ⟨p, hp⟩ : ∃ p, L[i]? = some p := ⟨_, List.getElem?_eq_getElem il⟩
      have pm := List.mem_of_getElem? hp
      have core : wpAny (model P w) A (searchRest a (.ref x) hk true f es t (way t.mask hk (c + d)) i (nth t.mask (runAt t.mask (SetTable.bits hk % (t.mask + 1)) (SetTable.bits hk)) (c + (d + 1)))) Q E s := by
        unfold searchRest
        rw [R.ent hp]
        dsimp only
        refine wpAny_bind (wpAny_holding (kd.eqBool hu (R.key p pm) hx ?_))
        refine wpAny_bind (wpAny_setState_of o1 o3 R.fit ?_)
        dsimp only
        by_cases same : p.2 = k
        · exact wp_if_pos (by simp [same]) (wpAny_pure (yes (List.mem_map.mpr ⟨p, pm, same⟩)))
        · refine wp_if_neg (by simp [same]) ?_
          rw [sameMem]
          dsimp only
          have sl : t.slot (way t.mask hk (c + d)) = .live i := slot_live R.tb.up d2
          simp only [if_true, sl, R.ent hp]
          refine wpAny_bind (wpAny_isSame_ref_self (wpAny_bind (wpAny_pure ?_)))
          simp only [if_true]
          refine wp_if_neg (by simp [same]) ?_
          subst hh
          refine seek q R hx hu K1 K2 K3 yes no f (c + (d + 1)) _ rfl (by omega) (by omega) fun i0 p0 e1 e2 => ?_
          obtain ⟨g, g1, g2, g3⟩ := ahead i0 p0 e1 e2
          refine ⟨g, ?_, g2, g3⟩
          rcases Nat.lt_or_ge g (c + d) with z | z
          · exact absurd ((hashes i0 p0 e1).trans (congrArg kd.hash e2)) (d4 (g - c) i0 (by omega) (by rw [stepj, show c + (g - c) = g by omega]; exact g3))
          · rcases Nat.lt_or_eq_of_le z with z | z
            · omega
            · rw [← z] at g3
              have s2 := slot_live R.tb.up g3
              rw [sl] at s2
              obtain rfl : i = i0 := by injection s2
              rw [hp] at e1
              exact absurd ((congrArg Prod.snd (Option.some.inj e1)).trans e2) same
      by_cases hl : t.led = true
      · exact wp_if_neg (by simp [hl]) core
      · refine wp_if_pos (by simp [hl]) (wpAny_bind (seen_no q hx ?_ _ fun y hy => ?_))
        · exact wp_if_neg (by decide) core
        · obtain ⟨e, he, ee⟩ := List.mem_map.mp hy
          have he1 : e ∈ es ∧ e.1 = hk := by simpa using he
          have he2 : e ∈ es.toList := by simpa using he1.1
          rw [R.es] at he2
          obtain ⟨p2, hp2, e2⟩ := List.mem_map.mp he2
          exact ⟨p2.2, p2.1, by rw [← ee, ← e2]; rfl, R.key p2 hp2⟩
    · have pr : t.probe (fun i => (es[i]?.map (·.1)).getD 0) hk (stand.getD (t.probeStart hk)) = some (.empty (way t.mask hk K) none) := by
        have e2 : way t.mask hk K = (nth t.mask p0 (K - c)).j := by rw [stepj, show c + (K - c) = K by omega]
        rw [hst, e2]
        exact d2
      rw [pr]
      dsimp only
      refine wpAny_pure (no fun hm => ?_)
      obtain ⟨p1, m1, rfl⟩ := List.mem_map.mp hm
      obtain ⟨i, hi⟩ := List.mem_iff_getElem?.mp m1
      obtain ⟨g, g1, g2, g3⟩ := ahead i p1 hi rfl
      exact d1 (g - c) i (by omega) (by rw [stepj, show c + (g - c) = g by omega]; exact g3) ((hashes i p1 hi).trans hh)
theorem seek_all (q : Qk kd) (R : Sst kd s.heap a L es ep t) {x : Addr} {k : κ} (hx : kd.is s.heap k x) (hu : kd.room A) {Q : SetFound → Shared → Prop}
    (yes : k ∈ L.map (·.2) → Q (.there none) s)
    (no : ∀ K, k ∉ L.map (·.2) → way t.mask (kd.hash k) K ∉ t.place.toList → (∀ c, c < K → way t.mask (kd.hash k) c ∈ t.place.toList) → Q (.free (way t.mask (kd.hash k) K) false) s) :
    wpAny (model P w) A (setSearch a (.ref x) (kd.hash k) true) Q E s := by
  have room := R.room
  obtain ⟨K, K1, K2, K3⟩ := R.tb.gap (by rw [List.length_map]; omega) (kd.hash k)
  have m8 := R.tb.m.2
  have K4 : K < 100000 := Nat.lt_of_lt_of_le K1 (by unfold SetTable.turns; omega)
  unfold setSearch
  refine seek q R hx hu K1 K2 K3 yes (fun z => no K z K2 K3) 100000 0 none rfl (Nat.zero_le _) (by omega) fun i p hp e => ?_
  have il : i < t.place.toList.length := by
    rw [R.tb.len, List.length_map]
    exact (List.getElem?_eq_some_iff.mp hp).1
  obtain ⟨c, c1, c2⟩ := R.tb.earlier K2 (i := i) (by rw [List.getElem?_map, hp, ← e]; rfl) (List.getElem?_eq_getElem il)
  exact ⟨c, Nat.zero_le _, c1, by rw [c2]; exact List.getElem?_eq_getElem il⟩
end
end SD
/-! ## SD4 -/
/-! sets of keys of any kind: one more key -/
namespace SD
open PySem PySem.Spec PyProof.Rows L2
section
variable {P : Program} {w : World} {κ : Type} [DecidableEq κ] {kd : HeapKind P w κ} {A : Around} {E : Value → Shared → Prop} {s : Shared} {a : Addr} {L : List (Addr × κ)} {es : Array (Int × Value)} {ep : Nat} {t : SetTable}
theorem key_but (q : Qk kd) {h h' : Heap} {o : Obj} {k : κ} {b : Addr} (hk : kd.is h k b) (ho : h.get? a = some o) (hd : o.data = .set es ep t) (sb : Heap.SameBut a h h') : kd.is h' k b :=
  q.st.stays (fun c u vs n hc hv => (sb.2 c fun z => by
    rw [z, ho] at hc
    obtain rfl := Option.some.inj hc
    rw [hd] at hv
    cases hv).trans hc) hk
theorem filt_at {α β : Type} (xs : Array α) (L : List β) (f : β → α) (e : xs.toList = L.map f) : ∀ (l : List Nat), (∀ i ∈ l, i < L.length) → l.filterMap (fun i => xs[i]?) = (l.filterMap fun i => L[i]?).map f
  | [], _ => rfl
  | i :: l, h => by
    have hi := h i List.mem_cons_self
    have h1 : L[i]? = some L[i] := List.getElem?_eq_getElem hi
    have h2 : xs[i]? = some (f L[i]) := by rw [← Array.getElem?_toList, e, List.getElem?_map, h1]; rfl
    rw [List.filterMap_cons_some h2, List.filterMap_cons_some h1, List.map_cons, filt_at xs L f e l fun j hj => h j (List.mem_cons_of_mem _ hj)]
theorem filt_take {β : Type} (L : List β) : ∀ n, n ≤ L.length → ((List.range n).filterMap fun i => L[i]?) = L.take n
  | 0, _ => rfl
  | n + 1, h => by
    rw [List.range_succ, List.filterMap_append, filt_take L n (by omega), List.take_succ_eq_append_getElem h]
    have : n < L.length := h
    simp [this]
theorem filt_hash (L : List (Addr × κ)) (hs : Array Int) (e : hs.toList = L.map (hsh kd)) : ∀ (l : List Nat), (∀ i ∈ l, i < L.length) → (l.filterMap fun i => L[i]?).map (hsh kd) = l.map fun i => hs.getD i 0
  | [], _ => rfl
  | i :: l, h => by
    have hi := h i List.mem_cons_self
    have h1 : L[i]? = some L[i] := List.getElem?_eq_getElem hi
    have h2 : hs.getD i 0 = hsh kd L[i] := by
      have : hs[i]? = some (hsh kd L[i]) := by rw [← Array.getElem?_toList, e, List.getElem?_map, h1]; rfl
      rw [Array.getD_eq_getD_getElem?, this]
      rfl
    rw [List.filterMap_cons_some h1, List.map_cons, List.map_cons, h2, filt_hash L hs e l fun j hj => h j (List.mem_cons_of_mem _ hj)]
/-- a larger table for the same keys -/
theorem relay_set (q : Qk kd) {o : Obj} (ho : s.heap.get? a = some o) (hx : o.ExactSet) (hd : o.data = .set es ep t) (rows : es.toList = L.map (ent kd)) (T : Tb t (L.map (hsh kd))) (fitm : L.length ≤ t.mask)
    (nd : (L.map (·.2)).Nodup) (key : ∀ p ∈ L, kd.is s.heap p.2 p.1) (pl : t.plain = true) (ld : w.params.followText "set-order" = true ∨ t.led = true) (few : L.length ≤ 1000) {wanted M : Nat}
    (hw : SetTable.sizeAbove wanted - 1 = M) (hM : Msk M) (hw2 : SetTable.sizeAbove wanted ≤ 8192) (hn : L.length * 5 < M * 3) {Q : Unit → Shared → Prop}
    (fin : ∀ h' L' es' ep' t', Heap.SameBut a s.heap h' → Sst kd h' a L' es' ep' t' → L'.Perm L → Q () { s with heap := h' }) : wpAny (model P w) A (setRelay a wanted) Q E s := by
  have sz := len_es rows
  have hs : (es.map (·.1)).toList = L.map (hsh kd) := by rw [Array.toList_map, rows, List.map_map]; rfl
  have sz2 : (es.map (·.1)).size = L.length := by rw [Array.size_map, sz]
  obtain ⟨t1, ord, r1, r2, r3, r4⟩ := relay t (hs := es.map (·.1)) hw hM (by omega)
  rw [sz2] at r2
  have small : ∀ i ∈ ord.toList, i < L.length := fun i hi => List.mem_range.mp (r2.mem_iff.mp hi)
  rw [← filt_hash L _ hs ord.toList small] at r3
  have rows1 : (ord.filterMap (es[·]?)).toList = (ord.toList.filterMap fun i => L[i]?).map (ent kd) := by
    rw [← filt_at es L (ent kd) rows ord.toList small]
    exact Array.toList_filterMap
  have pm : (ord.toList.filterMap fun i => L[i]?).Perm L := by
    have := r2.filterMap fun i => L[i]?
    rwa [filt_take L L.length (Nat.le_refl _), List.take_length] at this
  generalize (ord.toList.filterMap fun i => L[i]?) = L1 at r3 rows1 pm
  have sz1 := len_es rows1
  rw [pm.length_eq] at sz1
  rw [setRelay_eq]
  refine wpAny_bind (wpAny_setState_of ho hd (fits_of T rows fitm) ?_)
  dsimp only
  refine wp_if_neg (by rw [sizeLine_eq]; omega) ?_
  rw [r1]
  dsimp only
  refine wpAny_bind (wp_if_neg (by rw [sz1, sz]; simp) (wpAny_pure ?_))
  dsimp only
  refine wpAny_storeSet_of ho hd ?_ (by rw [sz1, sizeLine_eq]; omega)
  have sb : Heap.SameBut a s.heap (s.heap.update a (Obj.putSet (ord.filterMap (es[·]?)) t1)) := Heap.SameBut.update ..
  refine fin _ L1 _ _ t1 sb ⟨⟨_, store_at ho hd, ⟨hx.1, hx.2.1, hx.2.2⟩, rfl⟩, rows1, r3, (pm.map (·.2)).nodup_iff.mpr nd, fun p hp => key_but q (key p (pm.mem_iff.mp hp)) ho hd sb, by rw [r4.plain]; exact pl, by rw [r4.led]; exact ld, by rw [pm.length_eq, r4.mask]; exact hn, by rw [pm.length_eq]; exact few⟩ pm
/-- one more key: nothing new, or it is put in -/
theorem put_key (q : Qk kd) (R : Sst kd s.heap a L es ep t) {x : Addr} {k : κ} (hk : kd.is s.heap k x) (hu : kd.room A) (few : L.length + 1 ≤ 1000) {Q : Bool → Shared → Prop}
    (fin : ∀ b h' L' es' ep' t', Heap.SameBut a s.heap h' → Sst kd h' a L' es' ep' t' → (k ∈ L.map (·.2) → L' = L) → (k ∉ L.map (·.2) → L'.Perm ((x, k) :: L)) → Q b { s with heap := h' }) :
    wpAny (model P w) A (setAddHashed a (.ref x) (kd.hash k)) Q E s := by
  obtain ⟨o, ho, hx, hd⟩ := R.at_
  have sz := len_es R.es
  have room := R.room
  unfold setAddHashed
  refine wpAny_holding ?_
  rw [show (100000 : Nat) = 99999 + 1 from rfl, setAddHashedIn_succ]
  refine wpAny_bind (wpAny_setState_of ho hd R.fit ?_)
  dsimp only
  refine wp_if_neg (by simp [byScan, Value.scannable]) (wpAny_bind (seek_all q R hk hu (fun hm => ?_) fun K hm K2 K3 => ?_))
  · exact wpAny_pure (fin false s.heap L es ep t (Heap.SameBut.refl a s.heap) R (fun _ => rfl) fun z => absurd hm z)
  · dsimp only
    refine wpAny_bind (wpAny_setState_of ho hd R.fit ?_)
    dsimp only
    obtain ⟨T1, G⟩ := R.tb.add rfl K2 K3
    have ep1 : (t.put (way t.mask (kd.hash k) K)).2 = spot t (way t.mask (kd.hash k) K) := rfl
    have le1 := spot_le R.tb (way t.mask (kd.hash k) K)
    generalize spot t (way t.mask (kd.hash k) K) = p at T1 ep1 le1
    generalize t.put (way t.mask (kd.hash k) K) = pt at T1 ep1 G ⊢
    obtain ⟨t1, p'⟩ := pt
    dsimp only at T1 ep1 G ⊢
    subst ep1
    have pl1 : t1.plain = true := by rw [G.plain]; exact R.pl
    have pm := put_perm L p' (x, k)
    have rows1 : (SetTable.insertAt es p' (kd.hash k, Value.ref x)).toList = (L.take p' ++ (x, k) :: L.drop p').map (ent kd) := by
      rw [SetTable.toList_insertAt, R.es, List.map_append, List.map_cons, List.map_take, List.map_drop]
      rfl
    have T2 : Tb t1 ((L.take p' ++ (x, k) :: L.drop p').map (hsh kd)) := by
      rw [List.map_append, List.map_cons, List.map_take, List.map_drop]
      exact T1
    have n1 : (L.take p' ++ (x, k) :: L.drop p').length = L.length + 1 := pm.length_eq
    generalize L.take p' ++ (x, k) :: L.drop p' = L1 at pm rows1 T2 n1
    have nd1 : (L1.map (·.2)).Nodup := (pm.map (·.2)).nodup_iff.mpr (List.nodup_cons.mpr ⟨hm, R.nd⟩)
    generalize SetTable.insertAt es p' (kd.hash k, Value.ref x) = es1 at rows1 ⊢
    have sz1 := len_es rows1
    have ld1 : w.params.followText "set-order" = true ∨ t1.led = true := by rw [G.led]; exact R.led
    first
      | (refine wpAny_bind ?_; refine wp_if_pos pl1 ?_; refine q.byV hk ?_)
      | refine wp_if_pos pl1 (wpAny_bind (q.byV hk ?_))
    simp only [if_true]
    refine wpAny_bind (wpAny_storeSet_of ho hd ?_ (by rw [sz1, n1, sizeLine_eq]; omega))
    have sb : Heap.SameBut a s.heap (s.heap.update a (Obj.putSet es1 t1)) := Heap.SameBut.update ..
    have ho1 := store_at (es' := es1) (t' := t1) ho hd
    generalize s.heap.update a (Obj.putSet es1 t1) = h1 at sb ho1 ⊢
    have key1 : ∀ p ∈ L1, kd.is h1 p.2 p.1 := fun p hp => by
      rcases List.mem_cons.mp (pm.mem_iff.mp hp) with e | e
      · rw [e]; exact key_but q hk ho hd sb
      · exact key_but q (R.key p e) ho hd sb
    have fl := G.full
    rw [List.length_map] at fl
    by_cases c : t1.tooFull = true
    · first
        | (refine wpAny_bind ?_; refine wp_if_pos (by simp [c]) ?_)
        | (refine wp_if_pos (by simp [c]) ?_; refine wpAny_bind ?_)
      rw [sz]
      have cc := fl.1 c
      have m7 : 7 ≤ t.mask := by
        obtain ⟨⟨e, e3, e4⟩, _⟩ := R.tb.m
        have := Nat.pow_le_pow_right (show 0 < 2 by decide) e3
        omega
      obtain ⟨M, M1, M2, M3, M4, M5⟩ := size_of (n := L.length + 1) (by omega) (by omega)
      refine relay_set (s := { s with heap := h1 }) q ho1 ⟨hx.1, hx.2.1, hx.2.2⟩ rfl rows1 T2 (by rw [n1, G.mask]; omega) nd1 key1 pl1 ld1 (by rw [n1]; exact few) M1 M2 M3 (by rw [n1]; exact M4) ?_
      intro h2 L2 es2 ep2 t2 sb2 R2 pm2
      exact wpAny_pure (fin true h2 L2 es2 ep2 t2 (sb.trans sb2) R2 (fun z => absurd z hm) fun _ => pm2.trans pm)
    · first
        | refine wp_if_neg (by simp [c]) ?_
        | (refine wpAny_bind ?_; refine wp_if_neg (by simp [c]) ?_; refine wpAny_pure ?_)
      have cc : ¬ (L.length + 1) * 5 ≥ t.mask * 3 := fun z => c (fl.2 z)
      exact wpAny_pure (fin true h1 L1 es1 (ep + 1) t1 sb ⟨⟨_, ho1, ⟨hx.1, hx.2.1, hx.2.2⟩, rfl⟩, rows1, T2, nd1, key1, pl1, ld1, by rw [n1, G.mask]; omega, by rw [n1]; exact few⟩ (fun z => absurd z hm) fun _ => pm)
end
end SD
/-! ## SD5 -/
/-! set(xs), xs a list or a tuple of keys -/
namespace SD
open PySem PySem.Spec PyProof.Rows L2
section
variable {P : Program} {w : World} {κ : Type} [DecidableEq κ] {kd : HeapKind P w κ} {A : Around} {E : Value → Shared → Prop} {s : Shared}
/-- the object of a new set -/
def S0 (w : World) : Obj := { cls := .type "set", dict := none, data := .set #[] 0 (.fresh 0 0 (!w.params.followText "set-order")) }
/-- what the set has from the first i of the keys -/
structure Has (ks : List (Addr × κ)) (i : Nat) (L : List (Addr × κ)) : Prop where
  from_ : ∀ p ∈ L, p ∈ ks.take i
  all : ∀ p ∈ ks.take i, p.2 ∈ L.map (·.2)
  len : L.length ≤ i
theorem Has.next {ks L L' : List (Addr × κ)} {i : Nat} {x : Addr × κ} (g : Has ks i L) (h : ks[i]? = some x) (old : x.2 ∈ L.map (·.2) → L' = L) (new : x.2 ∉ L.map (·.2) → L'.Perm (x :: L)) : Has ks (i + 1) L' := by
  have et : ks.take (i + 1) = ks.take i ++ [x] := by
    obtain ⟨h1, h2⟩ := List.getElem?_eq_some_iff.mp h
    rw [List.take_succ_eq_append_getElem h1, h2]
  by_cases c : x.2 ∈ L.map (·.2)
  · have e := old c
    subst e
    refine ⟨fun p hp => by rw [et]; exact List.mem_append_left _ (g.from_ p hp), fun p hp => ?_, Nat.le_succ_of_le g.len⟩
    rw [et] at hp
    rcases List.mem_append.mp hp with z | z
    · exact g.all p z
    · rw [List.mem_singleton.mp z]; exact c
  · have pm := new c
    refine ⟨fun p hp => ?_, fun p hp => ?_, by rw [pm.length_eq, List.length_cons]; exact Nat.succ_le_succ g.len⟩
    · rw [et]
      rcases List.mem_cons.mp (pm.mem_iff.mp hp) with e | z
      · rw [e]; simp
      · exact List.mem_append_left _ (g.from_ p z)
    · rw [(pm.map (·.2)).mem_iff, List.map_cons]
      rw [et] at hp
      rcases List.mem_append.mp hp with z | z
      · exact List.mem_cons_of_mem _ (g.all p z)
      · rw [List.mem_singleton.mp z]; exact List.mem_cons_self
theorem Sst.fresh {h : Heap} {a : Addr} (ho : h.get? a = some (S0 w)) : Sst kd h a [] #[] 0 (.fresh 0 0 (!w.params.followText "set-order")) :=
  ⟨⟨_, ho, ⟨rfl, rfl, rfl⟩, rfl⟩, rfl, ⟨List.Pairwise.nil, rfl, rfl, ⟨⟨3, Nat.le_refl _, rfl⟩, show (7 : Nat) ≤ 8191 by decide⟩, (fun x hx => by cases hx), fun i h j hi => by simp at hi⟩, List.nodup_nil, (fun p hp => by cases hp), rfl, (by
    show _ ∨ (!w.params.followText "set-order") = true
    cases w.params.followText "set-order"
    · exact .inr rfl
    · exact .inl rfl), (by show 0 * 5 < 7 * 3; decide), by show 0 ≤ 1000; decide⟩
theorem Sst.keep (q : Qk kd) {h h' : Heap} {a : Addr} {L : List (Addr × κ)} {es : Array (Int × Value)} {ep : Nat} {t : SetTable} (R : Sst kd h a L es ep t) (k1 : ∀ o, h.get? a = some o → h'.get? a = some o) (k2 : ∀ p ∈ L, kd.is h' p.2 p.1) : Sst kd h' a L es ep t := by
  obtain ⟨o, ho, r⟩ := R.at_
  exact ⟨⟨o, k1 o ho, r⟩, R.es, R.tb, R.nd, k2, R.pl, R.led, R.room, R.few⟩
/-- all keys of what is walked are put in -/
theorem put_all (q : Qk kd) {I : Addr} {fp wr : List Addr} {G : Array GenState → Array GenState → Prop} {n : Nat} {Pv : Nat → Value → Prop} {St : Nat → Shared → Prop} {R : Result → Shared → Prop}
    (W : WalksS P w A.in1 I fp wr G n Pv St) (S : Addr) (hS : S ∉ fp) (ks : List (Addr × κ)) (hn : n = ks.length) (few : ks.length ≤ 1000) (hval : ∀ i v, Pv i v → ∃ p, ks[i]? = some p ∧ v = .ref p.1)
    (h0 : Heap) (hk : ∀ p ∈ ks, kd.is h0 p.2 p.1) (hS0 : h0.get? S = none) (hw0 : ∀ b ∈ wr, h0.get? b = none) (hu : kd.room A.in1) :
    ∀ (left i : Nat) (s : Shared), i + left = n → St i s → (∀ b o, h0.get? b = some o → s.heap.get? b = some o) → (∃ L es ep t, Sst kd s.heap S L es ep t ∧ Has ks i L) →
      (∀ s' L es ep t, Moved (S :: wr) G s s' → Sst kd s'.heap S L es ep t → Has ks n L → (∀ b o, h0.get? b = some o → s'.heap.get? b = some o) → R (.ok (.ret .none)) s') →
      codeAny (model P w) A (.builtin "set.update.loop" ⟨[.ref S, .ref I], []⟩) R s := by
  have hSw : S ∉ wr := fun z => hS (W.sub _ z)
  have wider : ∀ b ∈ wr, b ∈ S :: wr := fun b hb => List.mem_cons_of_mem _ hb
  have still : ∀ {s s' : Shared}, Moved wr G s s' → (∀ b o, h0.get? b = some o → s.heap.get? b = some o) → ∀ b o, h0.get? b = some o → s'.heap.get? b = some o := fun m kp b o e => m.heap b o (fun z => by rw [hw0 b z] at e; cases e) (kp b o e)
  have keyAt : ∀ {h' : Heap} {p : Addr × κ}, (∀ b o, h0.get? b = some o → h'.get? b = some o) → p ∈ ks → kd.is h' p.2 p.1 := fun kp hp => q.st.stays (fun b o _ _ e _ => kp b o e) (hk _ hp)
  intro left
  induction left with
  | zero =>
    intro i s hi hst kp ⟨L, es, ep, t, T, g⟩ fin
    obtain rfl : i = n := hi
    refine codeAny_builtin F.entry_set_update_loop ?_
    rw [Around.under_plainId F.plain_set_update_loop _]
    show wpAny _ A.in1 (pyNext (.ref I) >>= _) _ _ s
    refine wpAny_bind (W.done s _ _ hst fun s1 m => ?_)
    have kp1 := still m kp
    exact wpAny_pure (fin s1 L es ep t (m.mono wider) (T.keep q (fun o e => m.heap S o hSw e) fun p hp => keyAt kp1 (List.mem_of_mem_take (g.from_ p hp))) g kp1)
  | succ left ih =>
    intro i s hi hst kp ⟨L, es, ep, t, T, g⟩ fin
    have hlt : i < n := by omega
    refine codeAny_builtin F.entry_set_update_loop ?_
    rw [Around.under_plainId F.plain_set_update_loop _]
    show wpAny _ A.in1 (pyNext (.ref I) >>= _) _ _ s
    refine wpAny_bind (W.item i s _ _ hlt hst fun v s1 hP st1 m => ?_)
    obtain ⟨p, hp, rfl⟩ := hval i v hP
    have kp1 := still m kp
    have T1 : Sst kd s1.heap S L es ep t := T.keep q (fun o e => m.heap S o hSw e) fun p hp => keyAt kp1 (List.mem_of_mem_take (g.from_ p hp))
    have kx : kd.is s1.heap p.2 p.1 := keyAt kp1 (List.mem_of_getElem? hp)
    show wpAny _ A.in1 (holding [Value.ref p.1] (setAdd S (.ref p.1)) >>= _) _ _ s1
    refine wpAny_bind (wpAny_holding ?_)
    unfold setAdd
    refine wpAny_holding (wpAny_bind (kd.pyHash hu kx ?_))
    refine put_key (s := { s1 with toks := s1.toks + kd.draws p.2 }) q T1 kx hu (by have := g.len; omega) fun b h2 L2 es2 ep2 t2 sb T2 c1 c2 => ?_
    have off : ∀ b, b ≠ S → h2.get? b = s1.heap.get? b := fun b hb => sb.2 b hb
    have kp2 : ∀ b o, h0.get? b = some o → h2.get? b = some o := fun b o e => (off b fun z => by rw [z, hS0] at e; cases e).trans (kp1 b o e)
    refine wpAny_pure ⟨plainId_quiet F.plain_set_update_loop _, ih (i + 1) _ (by omega) (W.frame _ s1 _ _ st1 (Nat.le_add_right _ _) fun b hb o e => (off b fun z => hS (z ▸ hb)).trans e) kp2 ⟨L2, es2, ep2, t2, T2, g.next hp c1 c2⟩ fun s3 L3 es3 ep3 t3 m3 T3 g3 kp3 => ?_⟩
    exact fin s3 L3 es3 ep3 t3 (Moved.trans W.gtrans ((m.mono wider).then_heap (Nat.le_add_right _ _) fun b o hb e => (off b fun z => hb (by rw [z]; exact List.mem_cons_self)).trans e) m3) T3 g3 kp3
/-- what set(xs) leaves -/
def Made (kd : HeapKind P w κ) (s : Shared) (ks : List (Addr × κ)) (h' : Heap) : Prop := ∃ L es ep t, Sst kd h' s.heap.objs.size L es ep t ∧ Has ks ks.length L ∧ ∀ b o, s.heap.get? b = some o → h'.get? b = some o
theorem set_init {x : Value} {Q : Value → Shared → Prop} {Y : Heap → Prop}
    (body : ∀ (A' : Around) (E' : Value → Shared → Prop) (F : PySem.Fin → Shared → Prop), A'.handled = A.handled → A'.units ≤ A.units + 3 → (∀ h' tk, Y h' → F (.done (.ret .none)) { s with heap := h', toks := tk }) →
      wpAny (model P w) A' (Builtin.«set.__init__» ⟨[.ref s.heap.objs.size, x], []⟩) F E' { s with heap := s.heap.push (S0 w) })
    (fin : ∀ h' tk, Y h' → Q (.ref s.heap.objs.size) { s with heap := h', toks := tk }) :
    wpAny (model P w) A (call (.type "set") [x]) Q E s := by
  obtain ⟨c0, tl0, mro0⟩ := F.called_set.mro
  have made0 := F.called_set.made
  have sub0 := F.called_set.sub
  refine wpAny_call (codeAny_of_tree (show wpAny _ _ (callAny (.type "set") _) _ _ _ from wpAny_pure ⟨Code.quiet_builtin _ (by decide +kernel), codeAny_builtin F.entry_type_call ?_⟩))
  rw [Around.under_plain (weight_type_call_type "set" [x] []) rfl]
  have nt0 := F.called_set.notType
  have cc0 := F.called_set.canCreate
  have ty0 := F.typeCall_set_1 x
  repeat (any_goals (first | assumption | wp_step))
  refine codeAny_mono (code_set_led1 x (E := E) (Q₁ := fun v s1 => v = .ref s.heap.objs.size ∧ s1 = { s with heap := s.heap.push (S0 w) }) ⟨rfl, rfl⟩) fun r s1 hr => ?_
  cases r with
  | error e => exact hr
  | ok fl =>
    cases fl with
    | ret v =>
      obtain ⟨rfl, rfl⟩ := hr
      have hT : Shared.TypeIs { s with heap := s.heap.push (S0 w) } (.ref s.heap.objs.size) "set" := ⟨_, Heap.get?_push_size _ rfl, rfl⟩
      have li0 := F.called_set.init.lookup
      have bi0 := F.called_set.init.bind (.ref s.heap.objs.size)
      repeat (any_goals (first | assumption | wp_step))
      refine codeAny_mono (codeAny_call_builtin (R := wants (fun r s2 => r = .none ∧ ∃ h' tk, s2 = { s with heap := h', toks := tk } ∧ Y h') E) F.called_set.init.plain F.entry_set_init (check_set_init_1 hT (body _ _ _ ?_ ?_ fun h' tk hy => ⟨rfl, h', tk, rfl, hy⟩))) fun r2 s2 hr2 => ?_
      · simp
      · simp [Around.in1_units]
      · cases r2 with
        | error e => exact hr2
        | ok fl2 =>
          cases fl2 with
          | ret r =>
            obtain ⟨rfl, h', tk, rfl, hy⟩ := hr2
            repeat (any_goals (first | assumption | wp_step))
            exact fin _ _ hy
          | _ => exact hr2.elim
    | _ => exact hr.elim
end
end SD
/-! ## SD6 -/
/-! keys that are whole numbers and tuples of such; set(xs) of a list or a tuple of them -/
namespace SD
open PySem PySem.Spec PyProof.Rows L2
mutual
def noTx : NestedKey → Bool
  | .num _ => true
  | .tup ks => noTxs ks
  | _ => false
def noTxs : List NestedKey → Bool
  | [] => true
  | k :: ks => noTx k && noTxs ks
end
section
variable {P : Program} {w : World}
/-- v is of no class statement, n levels down; its hash is by value -/
def ClsNo (P : Program) (w : World) (n : Nat) (s : Shared) (v : Value) : Prop := ∀ (A : Around) (E : Value → Shared → Prop) (Q : Bool → Shared → Prop), Q false s → wpAny (model P w) A (ofAClassStatement n v) Q E s
def HshBy (P : Program) (w : World) (n : Nat) (s : Shared) (v : Value) : Prop := ∀ (A : Around) (E : Value → Shared → Prop) (Q : Bool → Shared → Prop), Q true s → wpAny (model P w) A (hashByValue n v) Q E s
theorem cls_int (n : Nat) (s : Shared) (i : Int) (t : Tok) : ClsNo P w n s (.int i t) := fun A E Q h => by
  cases n <;> exact wpAny_pure h
theorem cls_bool (n : Nat) (s : Shared) (b : Bool) : ClsNo P w n s (.bool b) := fun A E Q h => by
  cases n <;> exact wpAny_pure h
theorem hsh_int (n : Nat) (s : Shared) (i : Int) (t : Tok) : HshBy P w n s (.int i t) := fun A E Q h => by
  cases n <;> exact wpAny_pure h
theorem hsh_bool (n : Nat) (s : Shared) (b : Bool) : HshBy P w n s (.bool b) := fun A E Q h => by
  cases n <;> exact wpAny_pure h
theorem cls_tup {n : Nat} {s : Shared} {a : Addr} {o : Obj} {vs : Array Value} {m : Nat} (ho : s.heap.get? a = some o) (hc : o.cls = .type "tuple") (hd : o.data = .seq vs m) (all : ∀ v ∈ vs.toList, ClsNo P w n s v) : ClsNo P w (n + 1) s (.ref a) := fun A E Q h => by
  unfold ofAClassStatement
  refine wpAny_bind (wpAny_typeOf (T := "tuple") ⟨o, ho, hc⟩ ?_)
  have e : (("tuple" : String) == "tuple") = true := by decide
  dsimp only
  simp only [e, if_true, Bool.not_true, Bool.false_eq_true, if_false]
  try refine wpAny_bind (wpAny_pure ?_)
  try simp only [Bool.not_true, Bool.false_eq_true, if_false]
  show wpAny _ _ (seqItems? (.ref a) >>= _) _ _ s
  refine wpAny_bind (wpAny_seqItems ho hd ?_)
  dsimp only
  refine wpAny_bind ?_
  show wpAny _ _ (forIn vs _ _) _ _ s
  rw [← Array.forIn_toList]
  refine wpAny_forIn_list _ (fun rest r s' => r.1 = none ∧ s' = s ∧ ∀ v ∈ rest, ClsNo P w n s v) _ ?_ ?_ _ _ ⟨rfl, rfl, all⟩
  · rintro v rest r s' ⟨hr, e, al⟩
    subst e
    refine wpAny_bind (al v List.mem_cons_self _ _ _ ?_)
    simp only [Bool.false_eq_true, if_false]
    exact wpAny_pure ⟨rfl, rfl, fun u hu => al u (List.mem_cons_of_mem _ hu)⟩
  · rintro ⟨r1, r2⟩ s' ⟨hr, e, _⟩
    subst e
    simp only at hr
    subst hr
    exact wpAny_pure h
theorem hsh_tup {n : Nat} {s : Shared} {a : Addr} {o : Obj} {vs : Array Value} {m : Nat} (ho : s.heap.get? a = some o) (hc : o.cls = .type "tuple") (hd : o.data = .seq vs m) (all : ∀ v ∈ vs.toList, HshBy P w n s v) : HshBy P w (n + 1) s (.ref a) := fun A E Q h => by
  unfold hashByValue
  refine wpAny_bind (wpAny_specialOf (T := "tuple") ⟨o, ho, hc⟩ F.slot_tuple_hash.lookup ?_)
  show wpAny _ _ (seqItems? (.ref a) >>= _) _ _ s
  refine wpAny_bind (wpAny_seqItems ho hd ?_)
  refine wpAny_bind ?_
  show wpAny _ _ (forIn vs _ _) _ _ s
  rw [← Array.forIn_toList]
  refine wpAny_forIn_list _ (fun rest r s' => r.1 = none ∧ s' = s ∧ ∀ v ∈ rest, HshBy P w n s v) _ ?_ ?_ _ _ ⟨rfl, rfl, all⟩
  · rintro v rest r s' ⟨hr, e, al⟩
    subst e
    refine wpAny_bind (al v List.mem_cons_self _ _ _ ?_)
    simp only [Bool.not_true, Bool.false_eq_true, if_false]
    exact wpAny_pure ⟨rfl, rfl, fun u hu => al u (List.mem_cons_of_mem _ hu)⟩
  · rintro ⟨r1, r2⟩ s' ⟨hr, e, _⟩
    subst e
    simp only at hr
    subst hr
    exact wpAny_pure h
mutual
theorem key_by : ∀ (k : NestedKey) (v : Value) (n : Nat) (s : Shared), NestedIs s.heap k v → noTx k = true → k.depth ≤ n → ClsNo P w n s v ∧ HshBy P w n s v
  | .none, _, _, _, _, z, _ => by cases z
  | .text _, _, _, _, _, z, _ => by cases z
  | .num i, _, n, s, x, _, _ => by
    cases x with
    | bool e => exact ⟨cls_bool _ _ _, hsh_bool _ _ _⟩
    | int _ t => exact ⟨cls_int _ _ _ _, hsh_int _ _ _ _⟩
  | .tup ks, _, n, s, x, z, hn => by
    cases x with
    | tup h1 h2 h3 h4 =>
      simp only [NestedKey.depth] at hn
      cases n with
      | zero => omega
      | succ n =>
        have q := keys_by ks _ n s h4 z (by omega)
        exact ⟨cls_tup h1 h2 h3 fun v hv => (q v hv).1, hsh_tup h1 h2 h3 fun v hv => (q v hv).2⟩
theorem keys_by : ∀ (ks : List NestedKey) (vs : List Value) (n : Nat) (s : Shared), NestedAll s.heap ks vs → noTxs ks = true → NestedKey.depthAll ks ≤ n → ∀ v ∈ vs, ClsNo P w n s v ∧ HshBy P w n s v
  | [], _, _, _, x, _, _, v, hv => by cases x; cases hv
  | k :: ks, _, n, s, x, z, hn, v, hv => by
    cases x with
    | cons x1 x2 =>
      simp only [NestedKey.depthAll] at hn
      have z2 := Bool.and_eq_true_iff.mp z
      rcases List.mem_cons.mp hv with e | hv
      · rw [e]; exact key_by k _ n s x1 z2.1 (by omega)
      · exact keys_by ks _ n s x2 z2.2 (by omega) v hv
end
/-- keys of whole numbers -/
def numKind (P : Program) (w : World) : HeapKind P w NestedKey where
  is := fun h k a => (nestedKind P w).is h k a ∧ noTx k = true
  hash := (nestedKind P w).hash
  draws := (nestedKind P w).draws
  room := (nestedKind P w).room
  inj := fun x y => (nestedKind P w).inj x.1 y.1
  keeps := fun x ho hd hs => ⟨(nestedKind P w).keeps x.1 ho hd hs, x.2⟩
  pyHash := fun hu hk h => (nestedKind P w).pyHash hu hk.1 h
  eqBool := fun hu hx hy h => (nestedKind P w).eqBool hu hx.1 hy.1 h
  quiet := fun hk h => (nestedKind P w).quiet hk.1 h
theorem numQ (P : Program) (w : World) : Qk (numKind P w) where
  st := ⟨fun hk x => ⟨nestedKind_stays.stays hk x.1, x.2⟩, fun x => nestedKind_stays.tuple x.1⟩
  ofA := fun hk h => (key_by _ _ 8 _ hk.1.1 hk.2 hk.1.2).1 _ _ _ h
  byV := fun hk h => (key_by _ _ 8 _ hk.1.1 hk.2 hk.1.2).2 _ _ _ h
end
/-! ### data -/
mutual
def hkD : PyData → Bool
  | .int _ => true
  | .tuple xs => hkDs xs
  | _ => false
def hkDs : List PyData → Bool
  | [] => true
  | x :: xs => hkD x && hkDs xs
end
mutual
def keyD : PyData → NestedKey
  | .int i => .num i
  | .tuple xs => .tup (keyDs xs)
  | _ => .none
def keyDs : List PyData → List NestedKey
  | [] => []
  | x :: xs => keyD x :: keyDs xs
end
mutual
theorem key_reads {h : Heap} : ∀ (d : PyData) (v : Value) (as : List Addr), hkD d = true → Reads h v d as → NestedIs h (keyD d) v ∧ noTx (keyD d) = true
  | .none, _, _, z, _ => by cases z
  | .bool _, _, _, z, _ => by cases z
  | .str _, _, _, z, _ => by cases z
  | .list _, _, _, z, _ => by cases z
  | .dict _, _, _, z, _ => by cases z
  | .int i, _, _, _, r => by cases r; exact ⟨.int _ _, rfl⟩
  | .tuple xs, _, _, z, r => by
    cases r with
    | tuple h1 h2 h3 h4 =>
      obtain ⟨a, b⟩ := keys_reads xs _ _ z h4
      exact ⟨.tup h1 h2 h3 a, b⟩
theorem keys_reads {h : Heap} : ∀ (ds : List PyData) (vs : List Value) (as : List Addr), hkDs ds = true → ReadsAll h vs ds as → NestedAll h (keyDs ds) vs ∧ noTxs (keyDs ds) = true
  | [], _, _, _, r => by cases r; exact ⟨.nil, rfl⟩
  | d :: ds, _, _, z, r => by
    cases r with
    | cons r1 r2 =>
      have z2 := Bool.and_eq_true_iff.mp z
      obtain ⟨a, b⟩ := key_reads d _ _ z2.1 r1
      obtain ⟨c, e⟩ := keys_reads ds _ _ z2.2 r2
      exact ⟨.cons a c, Bool.and_eq_true_iff.mpr ⟨b, e⟩⟩
end
mutual
theorem key_inj : ∀ (d e : PyData), hkD d = true → hkD e = true → keyD d = keyD e → d = e
  | .none, _, z, _, _ => by cases z
  | .bool _, _, z, _, _ => by cases z
  | .str _, _, z, _, _ => by cases z
  | .list _, _, z, _, _ => by cases z
  | .dict _, _, z, _, _ => by cases z
  | .int i, e, _, y, h => by
    cases e with
    | int j => cases h; rfl
    | tuple _ => cases h
    | _ => cases y
  | .tuple xs, e, z, y, h => by
    cases e with
    | tuple ys =>
      have h2 : keyDs xs = keyDs ys := by
        have : NestedKey.tup (keyDs xs) = NestedKey.tup (keyDs ys) := h
        injection this
      rw [keys_inj xs ys z y h2]
    | int _ => cases h
    | _ => cases y
theorem keys_inj : ∀ (ds es : List PyData), hkDs ds = true → hkDs es = true → keyDs ds = keyDs es → ds = es
  | [], [], _, _, _ => rfl
  | [], _ :: _, _, _, h => by cases h
  | _ :: _, [], _, _, h => by cases h
  | d :: ds, e :: es, z, y, h => by
    have z2 := Bool.and_eq_true_iff.mp z
    have y2 := Bool.and_eq_true_iff.mp y
    have h2 : keyD d :: keyDs ds = keyD e :: keyDs es := h
    injection h2 with a b
    rw [key_inj d e z2.1 y2.1 a, keys_inj ds es z2.2 y2.2 b]
end
mutual
theorem key_depth : ∀ (d : PyData), hkD d = true → (keyD d).depth = d.depth
  | .none, z => by cases z
  | .bool _, z => by cases z
  | .str _, z => by cases z
  | .list _, z => by cases z
  | .dict _, z => by cases z
  | .int i, _ => rfl
  | .tuple xs, z => by
    show NestedKey.depthAll (keyDs xs) + 1 = PyData.depthAll xs + 1
    rw [keys_depth xs z]
theorem keys_depth : ∀ (ds : List PyData), hkDs ds = true → NestedKey.depthAll (keyDs ds) = PyData.depthAll ds
  | [], _ => rfl
  | d :: ds, z => by
    have z2 := Bool.and_eq_true_iff.mp z
    show max (keyD d).depth (NestedKey.depthAll (keyDs ds)) = max d.depth (PyData.depthAll ds)
    rw [key_depth d z2.1, keys_depth ds z2.2]
end
end SD
/-! ## SD7 -/
namespace SD
open PySem PySem.Spec PyProof.Rows L2
section
variable {P : Program} {w : World} {κ : Type} [DecidableEq κ] {kd : HeapKind P w κ} {A : Around} {E : Value → Shared → Prop} {s : Shared}
theorem old_none {h : Heap} {b : Addr} (hb : h.objs.size ≤ b) : h.get? b = none := by
  cases q : h.get? b with
  | none => rfl
  | some o => exact absurd (Heap.lt_size q) (Nat.not_lt_of_le hb)
/-- behind the walk: all is put in -/
theorem init_tail (q : Qk kd) {G : Array GenState → Array GenState → Prop} {Pv : Nat → Value → Prop} {St : Nat → Shared → Prop} {I l : Addr} {ks : List (Addr × κ)} {s1 : Shared} {F : Result → Shared → Prop}
    (hI : s.heap.objs.size < I) (hl : l < s.heap.objs.size) (W : WalksS P w A.in1 I [I, l] [I] G ks.length Pv St) (few : ks.length ≤ 1000) (hval : ∀ i v, Pv i v → ∃ p, ks[i]? = some p ∧ v = .ref p.1)
    (hk : ∀ p ∈ ks, kd.is s.heap p.2 p.1) (hu : kd.room A.in1) (st : St 0 s1) (k1 : ∀ b o, s.heap.get? b = some o → s1.heap.get? b = some o) (k2 : s1.heap.get? s.heap.objs.size = some (S0 w))
    (fin : ∀ s' L es ep t, Moved [s.heap.objs.size, I] G s1 s' → Sst kd s'.heap s.heap.objs.size L es ep t → Has ks ks.length L → (∀ b o, s.heap.get? b = some o → s'.heap.get? b = some o) → F (.ok (.ret .none)) s') :
    codeAny (model P w) A (.builtin "set.update.loop" ⟨[.ref s.heap.objs.size, .ref I], []⟩) F s1 :=
  put_all q W s.heap.objs.size (by simp only [List.mem_cons, List.not_mem_nil, or_false, not_or]; exact ⟨Nat.ne_of_lt hI, Nat.ne_of_gt hl⟩) ks rfl few hval s.heap hk (old_none (Nat.le_refl _)) (fun b hb => old_none (by rw [List.mem_singleton.mp hb]; exact Nat.le_of_lt hI)) hu ks.length 0 s1 (by omega) st k1
    ⟨[], #[], 0, _, Sst.fresh k2, fun p h => (by cases h), fun p h => (by simp at h), Nat.le_refl _⟩ fin
/-- set(xs) of a list -/
theorem set_list (q : Qk kd) {l : Addr} {items : Array Value} (ks : List (Addr × κ)) {Q : Value → Shared → Prop} (hh : A.handled = none) (hl : s.heap.IsList l items) (hit : items.toList = ks.map fun p => Value.ref p.1)
    (hk : ∀ p ∈ ks, kd.is s.heap p.2 p.1) (few : ks.length ≤ 1000) (hu : ∀ A' : Around, A'.units ≤ A.units + 4 → kd.room A') (fin : ∀ h' tk, Made kd s ks h' → Q (.ref s.heap.objs.size) { s with heap := h', toks := tk }) :
    wpAny (model P w) A (call (.type "set") [.ref l]) Q E s := by
  have sz : items.size = ks.length := by
    have := congrArg List.length hit
    rwa [Array.length_toList, List.length_map] at this
  have at_ : ∀ (i : Nat) (v : Value), items[i]? = some v → ∃ p, ks[i]? = some p ∧ v = .ref p.1 := fun i v hv => by
    have h2 : items.toList[i]? = some v := by rw [Array.getElem?_toList]; exact hv
    rw [hit, List.getElem?_map] at h2
    cases hq : ks[i]? with
    | none => rw [hq] at h2; cases h2
    | some p => rw [hq] at h2; exact ⟨p, rfl, (Option.some.inj h2).symm⟩
  refine set_init (Y := Made kd s ks) (fun A' E' F1 ah au body => ?_) fin
  obtain ⟨ol, hol, hcl, nl, hdl⟩ := hl
  obtain ⟨ocls, odict, odata, oslots⟩ := ol
  simp only at hcl hdl
  subst hcl
  subst hdl
  have lt := Heap.lt_size hol
  have hol1 : (s.heap.push (S0 w)).get? l = some { cls := .type "list", dict := odict, data := .seq items nl, slots := oslots } := Heap.get?_push_of_some _ hol
  have il1 : (s.heap.push (S0 w)).IsList l items := ⟨_, hol1, rfl, nl, rfl⟩
  have f1 := F.sub_list_set
  have f2 := F.sub_list_frozenset
  have f3 : (Value.type "list" == Value.type "dict") = false := by decide
  have z1 : (s.heap.push (S0 w)).objs.size = s.heap.objs.size + 1 := Heap.size_push ..
  unfold Builtin.«set.__init__» noKeywords Builtin.Frozenset.updateFrom
  generalize hPI : pyIter = PI
  wp_walk
  subst hPI
  refine wpAny_pyIter_list il1 (wpAny_bind (wpAny_runValue ?_))
  have W := (Walks.list (prog := P) (w := w) (A := A'.in1) (by simp [ah, hh]) (s.heap.push (S0 w)).objs.size l (by rw [z1]; exact Nat.ne_of_lt (Nat.lt_succ_of_lt lt)) items).toS
  rw [sz] at W
  refine init_tail q (by show s.heap.objs.size < (s.heap.push (S0 w)).objs.size; rw [z1]; exact Nat.lt_succ_self _) lt W few at_ hk (hu _ (by rw [Around.in1_units]; omega)) ⟨⟨_, Heap.get?_push_size _ rfl, rfl, rfl⟩, il1.push _⟩ (fun b o e => Heap.get?_push_of_some _ (Heap.get?_push_of_some _ e)) (Heap.get?_push_of_some _ (Heap.get?_push_size _ rfl)) ?_
  intro s' L es ep t m T g kp
  obtain ⟨h', g2, d', tk', os'⟩ := s'
  obtain rfl : g2 = s.gens := m.gens
  obtain rfl : d' = s.drawn := m.drawn
  obtain rfl : os' = s.os := m.os
  show wpAny _ _ _ _ _ _
  refine wpAny_pure ?_
  show wpAny _ _ (ret Value.none) _ _ _
  exact wpAny_pure (body h' tk' ⟨L, es, ep, t, T, g, kp⟩)
/-- set(xs) of a tuple -/
theorem set_tup (q : Qk kd) {l : Addr} {items : Array Value} (ks : List (Addr × κ)) {Q : Value → Shared → Prop} (hh : A.handled = none) (hl : s.heap.IsTuple l items) (hit : items.toList = ks.map fun p => Value.ref p.1)
    (hk : ∀ p ∈ ks, kd.is s.heap p.2 p.1) (few : ks.length ≤ 1000) (hu : ∀ A' : Around, A'.units ≤ A.units + 4 → kd.room A') (fin : ∀ h' tk, Made kd s ks h' → Q (.ref s.heap.objs.size) { s with heap := h', toks := tk }) :
    wpAny (model P w) A (call (.type "set") [.ref l]) Q E s := by
  have sz : items.size = ks.length := by
    have := congrArg List.length hit
    rwa [Array.length_toList, List.length_map] at this
  have at_ : ∀ (i : Nat) (v : Value), items[i]? = some v → ∃ p, ks[i]? = some p ∧ v = .ref p.1 := fun i v hv => by
    have h2 : items.toList[i]? = some v := by rw [Array.getElem?_toList]; exact hv
    rw [hit, List.getElem?_map] at h2
    cases hq : ks[i]? with
    | none => rw [hq] at h2; cases h2
    | some p => rw [hq] at h2; exact ⟨p, rfl, (Option.some.inj h2).symm⟩
  refine set_init (Y := Made kd s ks) (fun A' E' F1 ah au body => ?_) fin
  obtain ⟨ol, hol, hcl, nl, hdl⟩ := hl
  obtain ⟨ocls, odict, odata, oslots⟩ := ol
  simp only at hcl hdl
  subst hcl
  subst hdl
  have lt := Heap.lt_size hol
  have hol1 : (s.heap.push (S0 w)).get? l = some { cls := .type "tuple", dict := odict, data := .seq items nl, slots := oslots } := Heap.get?_push_of_some _ hol
  have il1 : (s.heap.push (S0 w)).IsTuple l items := ⟨_, hol1, rfl, nl, rfl⟩
  have f1 := F.sub_tuple_set
  have f2 := F.sub_tuple_frozenset
  have f3 : (Value.type "tuple" == Value.type "dict") = false := by decide
  have z1 : (s.heap.push (S0 w)).objs.size = s.heap.objs.size + 1 := Heap.size_push ..
  unfold Builtin.«set.__init__» noKeywords Builtin.Frozenset.updateFrom
  generalize hPI : pyIter = PI
  wp_walk
  subst hPI
  refine wpAny_pyIter_tuple il1 (wpAny_bind (wpAny_runValue ?_))
  have W := (Walks.tuple (prog := P) (w := w) (A := A'.in1) (by simp [ah, hh]) (s.heap.push (S0 w)).objs.size l (by rw [z1]; exact Nat.ne_of_lt (Nat.lt_succ_of_lt lt)) items).toS
  rw [sz] at W
  refine init_tail q (by show s.heap.objs.size < (s.heap.push (S0 w)).objs.size; rw [z1]; exact Nat.lt_succ_self _) lt W few at_ hk (hu _ (by rw [Around.in1_units]; omega)) ⟨⟨_, Heap.get?_push_size _ rfl, rfl, rfl⟩, il1.push _⟩ (fun b o e => Heap.get?_push_of_some _ (Heap.get?_push_of_some _ e)) (Heap.get?_push_of_some _ (Heap.get?_push_size _ rfl)) ?_
  intro s' L es ep t m T g kp
  obtain ⟨h', g2, d', tk', os'⟩ := s'
  obtain rfl : g2 = s.gens := m.gens
  obtain rfl : d' = s.drawn := m.drawn
  obtain rfl : os' = s.os := m.os
  show wpAny _ _ _ _ _ _
  refine wpAny_pure ?_
  show wpAny _ _ (ret Value.none) _ _ _
  exact wpAny_pure (body h' tk' ⟨L, es, ep, t, T, g, kp⟩)
end
end SD
/-! ## SD8 -/
/-! sorted(set(xs)) of data -/
namespace SD
open PySem PySem.Spec PyProof.Rows L2 Ws
/-- what sorted(set(xs)) asks of the data of xs, and what it tells -/
structure SetIn (ds : List PyData) : Prop where
  hk : ∀ d ∈ ds, hkD d = true ∧ (∃ xs, d = .tuple xs) ∧ d.depth ≤ 8
  few : ds.length ≤ 1000
  al : PySem.W.AllAlike ds
  so : PySem.W.Sortable ds
structure SetOut (ds es : List PyData) : Prop where
  nd : es.Nodup
  or : Ws.Ord es
  mem : ∀ d, d ∈ es ↔ d ∈ ds
theorem refs_pairs {K : PySem.W.Frag} {H : Hp} : ∀ {ys : List V} {ds : List PyData}, DpAll K H ys ds → (∀ d ∈ ds, ∃ xs, d = .tuple xs) → ∃ T : List (Addr × PyData), ys = T.map (fun p => V.ref p.1) ∧ ds = T.map (·.2) ∧ ∀ p ∈ T, Dp K H (.ref p.1) p.2
  | [], [], .nil, _ => ⟨[], rfl, rfl, fun p hp => by cases hp⟩
  | y :: ys, d :: ds, .cons h1 h2, h => by
    obtain ⟨T, e1, e2, e3⟩ := refs_pairs h2 fun d hd => h d (List.mem_cons_of_mem _ hd)
    obtain ⟨xs, rfl⟩ := h d List.mem_cons_self
    obtain ⟨a, zs, rfl, _⟩ := h1.tup_inv
    refine ⟨(a, .tuple xs) :: T, by rw [e1]; rfl, by rw [e2]; rfl, fun p hp => ?_⟩
    rcases List.mem_cons.mp hp with rfl | hp
    · exact h1
    · exact e3 p hp
theorem vals_refs : ∀ {T : List (Addr × PyData)} {us : List Value}, Vals (T.map fun p => V.ref p.1) us → us = T.map fun p => Value.ref p.1
  | [], _, .nil => rfl
  | p :: T, _, .cons r t => by
    cases r
    rw [vals_refs t]
    rfl
theorem refs_vals : ∀ (T : List (Addr × PyData)), Vals (T.map fun p => V.ref p.1) (T.map fun p => Value.ref p.1)
  | [] => .nil
  | p :: T => .cons rfl (refs_vals T)
theorem dps_of {K : PySem.W.Frag} {H : Hp} : ∀ (T : List (Addr × PyData)), (∀ p ∈ T, Dp K H (.ref p.1) p.2) → DpAll K H (T.map fun p => V.ref p.1) (T.map (·.2))
  | [], _ => .nil
  | p :: T, h => .cons (h p List.mem_cons_self) (dps_of T fun q hq => h q (List.mem_cons_of_mem _ hq))
theorem pick_back {T : List (Addr × PyData)} {L : List (Addr × NestedKey)} (h : ∀ p ∈ L, ∃ b ∈ T, p = (b.1, keyD b.2)) : ∀ (vs : List Value), (∀ v ∈ vs, ∃ p ∈ L, v = Value.ref p.1) → ∃ bs : List (Addr × PyData), vs = bs.map (fun b => Value.ref b.1) ∧ ∀ b ∈ bs, b ∈ T ∧ (b.1, keyD b.2) ∈ L
  | [], _ => ⟨[], rfl, fun b hb => by cases hb⟩
  | v :: vs, hv => by
    obtain ⟨p, hp, rfl⟩ := hv v List.mem_cons_self
    obtain ⟨b, hb, rfl⟩ := h p hp
    obtain ⟨bs, e, h2⟩ := pick_back h vs fun u hu => hv u (List.mem_cons_of_mem _ hu)
    refine ⟨b :: bs, by rw [e]; rfl, fun c hc => ?_⟩
    rcases List.mem_cons.mp hc with rfl | hc
    · exact ⟨hb, hp⟩
    · exact h2 c hc
/-- the members of a set, in whatever order, as data -/
theorem set_members {P : Program} {w : World} {h : Heap} {S : Addr} {L : List (Addr × NestedKey)} {es : Array (Int × Value)} {ep : Nat} {t : SetTable} {T : List (Addr × PyData)} (R : Sst (numKind P w) h S L es ep t) (hT : ∀ p ∈ T, hkD p.2 = true)
    (g : Has (T.map fun p => (p.1, keyD p.2)) (T.map fun p : Addr × PyData => (p.1, keyD p.2)).length L) {vs : List Value} (pm : vs.Perm (es.toList.map (·.2))) :
    ∃ bs : List (Addr × PyData), vs = bs.map (fun b => Value.ref b.1) ∧ (∀ b ∈ bs, b ∈ T) ∧ (bs.map (·.2)).Nodup ∧ ∀ d, d ∈ bs.map (·.2) ↔ d ∈ T.map (·.2) := by
  rw [R.es, List.map_map] at pm
  have from_ : ∀ p ∈ L, ∃ b ∈ T, p = (b.1, keyD b.2) := fun p hp => by
    have := g.from_ p hp
    rw [List.take_of_length_le (Nat.le_refl _)] at this
    obtain ⟨b, hb, e⟩ := List.mem_map.mp this
    exact ⟨b, hb, e.symm⟩
  have one : ∀ p ∈ L, ∀ q ∈ L, p.1 = q.1 → p = q := fun p hp q hq e => by
    have h1 := R.key p hp
    have h2 := R.key q hq
    rw [e] at h1
    exact Prod.ext e ((numKind P w).inj h1 h2)
  have ndL : L.Nodup := List.Pairwise.of_map (·.2) (fun a b hne e => hne (congrArg _ e)) R.nd
  have ndv : vs.Nodup := pm.nodup_iff.mpr (List.pairwise_map.mpr (ndL.imp_of_mem fun hp hq ne e => ne (one _ hp _ hq (by
    have e : Value.ref _ = Value.ref _ := e
    injection e))))
  obtain ⟨bs, e, hb⟩ := pick_back from_ vs fun v hv => by
    obtain ⟨p, hp, e⟩ := List.mem_map.mp (pm.mem_iff.mp hv)
    exact ⟨p, hp, e.symm⟩
  refine ⟨bs, e, fun b h => (hb b h).1, ?_, fun d => ⟨fun hd => ?_, fun hd => ?_⟩⟩
  · rw [e] at ndv
    refine List.pairwise_map.mpr ((List.pairwise_map.mp ndv).imp_of_mem fun {b c} h1 h2 ne e2 => ne ?_)
    have m1 := (hb b h1).2
    have m2 := (hb c h2).2
    rw [← e2] at m2
    have inj : ∀ {L : List (Addr × NestedKey)}, (L.map (·.2)).Nodup → ∀ {p q : Addr × NestedKey}, p ∈ L → q ∈ L → p.2 = q.2 → p = q := fun {L} => by
      induction L with
      | nil => intro _ p q hp; cases hp
      | cons x L ih =>
        intro hn p q hp hq e3
        rw [List.map_cons, List.nodup_cons] at hn
        rcases List.mem_cons.mp hp with ep | hp2
        · rcases List.mem_cons.mp hq with eq | hq2
          · rw [ep, eq]
          · exact absurd (List.mem_map.mpr ⟨q, hq2, by rw [← e3, ep]⟩) hn.1
        · rcases List.mem_cons.mp hq with eq | hq2
          · exact absurd (List.mem_map.mpr ⟨p, hp2, by rw [e3, eq]⟩) hn.1
          · exact ih hn.2 hp2 hq2 e3
    have e4 : (b.1, keyD b.2).1 = (c.1, keyD b.2).1 := congrArg Prod.fst (inj R.nd m1 m2 rfl)
    exact congrArg Value.ref e4
  · obtain ⟨b, h, rfl⟩ := List.mem_map.mp hd
    exact List.mem_map.mpr ⟨b, (hb b h).1, rfl⟩
  · obtain ⟨b, h, rfl⟩ := List.mem_map.mp hd
    have h2 := g.all (b.1, keyD b.2) (by rw [List.take_of_length_le (Nat.le_refl _)]; exact List.mem_map.mpr ⟨b, h, rfl⟩)
    obtain ⟨p, hp, ep⟩ := List.mem_map.mp h2
    have hv : Value.ref p.1 ∈ vs := pm.mem_iff.mpr (List.mem_map.mpr ⟨p, hp, rfl⟩)
    rw [e] at hv
    obtain ⟨c, hc, ec⟩ := List.mem_map.mp hv
    injection ec with ec
    have := one _ (hb c hc).2 p hp ec
    have e5 : keyD c.2 = keyD b.2 := (congrArg Prod.snd this).trans ep
    exact List.mem_map.mpr ⟨c, hc, key_inj _ _ (hT c (hb c hc).1) (hT b h) e5⟩
mutual
theorem hk_flat : ∀ d : PyData, hkD d = true → noList d = true
  | .none, z => by cases z
  | .bool _, z => by cases z
  | .str _, z => by cases z
  | .list _, z => by cases z
  | .dict _, z => by cases z
  | .int _, _ => rfl
  | .tuple xs, z => hk_flats xs z
theorem hk_flats : ∀ ds : List PyData, hkDs ds = true → noListAll ds = true
  | [], _ => rfl
  | d :: ds, z => by
    have z2 := Bool.and_eq_true_iff.mp z
    exact Bool.and_eq_true_iff.mpr ⟨hk_flat d z2.1, hk_flats ds z2.2⟩
end
theorem ord_sorted (bs : List (Addr × PyData)) : Ws.Ord ((bs.mergeSort (PySem.W.dataLe false (·.2))).map (·.2)) := by
  unfold Ws.Ord
  rw [List.pairwise_map]
  have T := PySem.W.sortLe_total (listOrd itemOrd) false (fun b : Addr × PyData => PySem.W.keyToks b.2)
  refine (List.pairwise_mergeSort (le := PySem.W.dataLe false fun b : Addr × PyData => b.2) (fun a b c h1 h2 => T.trans a b c h1 h2) (fun a b => Bool.or_eq_true_iff.mpr (T.total a b)) bs).imp fun {x y} h => ?_
  have e : PySem.W.dataLe false (fun b : Addr × PyData => b.2) x y = !PySem.W.dataLt y.2 x.2 := by rw [PySem.W.dataLe_eq]; rfl
  rw [e] at h
  simpa using h
theorem each_refs {bs0 : List (Addr × PyData)} : ∀ {vs : List Value} {bs : List (Addr × PyData)}, PySem.W.EachIs (fun (v : Value) (b : Addr × PyData) => v = .ref b.1 ∧ b ∈ bs0) vs bs → vs = bs.map fun b => Value.ref b.1
  | _, _, .nil => rfl
  | _, _, .cons h t => by
    rw [h.1, each_refs t]
    rfl
section
variable {X : Cx} {p p2 q pos : Pos} {e : Expr} {te : TE}
def tSortedSet (K : PySem.W.Frag) (te : TE) : TE := fun σ H Q => te σ H fun x H1 => ∃ (l : Addr) (ys : List V) (ds : List PyData), x = .ref l ∧ (SqL K H1 l ys ∨ SqT K H1 l ys) ∧ DpAll K H1 ys ds ∧ SetIn ds ∧
  ∀ (zs : List V) (es : List PyData) (r : Addr), DpAll K H1 zs es → SetOut ds es → H1 r = none → Q (.ref r) (upd H1 r (.lst zs))
theorem sorted_made {pins : List (Addr × Obj)} {σ : L2.St} {H : Hp} {Q : VK} {T : List (Addr × PyData)} {s1 : Shared} (I : Inv X pins σ H s1) (hc : X.calm = true) (hu : X.A.units + 65 < cLine) (si : SetIn (T.map (·.2))) (dp : ∀ p ∈ T, Dp X.K H (.ref p.1) p.2)
    {S : Addr} {L : List (Addr × NestedKey)} {es : Array (Int × Value)} {ep : Nat} {t : SetTable} (R : Sst (numKind X.prog X.w) s1.heap S L es ep t) (g : Has (T.map fun p => (p.1, keyD p.2)) (T.map fun p : Addr × PyData => (p.1, keyD p.2)).length L)
    (k : ∀ (zs : List V) (es : List PyData) (r : Addr), DpAll X.K H zs es → SetOut (T.map (·.2)) es → H r = none → Q (.ref r) (upd H r (.lst zs))) :
    wpAny (model X.prog X.w) X.A (call (.builtin "sorted") [.ref S]) (EP X pins σ Q) X.xe s1 := by
  obtain ⟨o, ho, hex, hd⟩ := R.at_
  have few := R.few
  have sz := len_es R.es
  refine Calls.call_function_entry kind_sorted plain_sorted entry_sorted (args_sorted1 _) ?_
  unfold Builtin.«sorted»
  refine wpAny_bind (m := checkCount "sorted" 1 1 _) (wpAny_pure (wpAny_bind (collect_set (A := X.A.in1) (I.ok.hd hc) ⟨o, ho, hex.1, hd⟩ R.fit (by unfold scanBound; omega) R.tb.up R.led fun s2 vs kp hz g2 o2 pm => ?_)))
  obtain ⟨bs, rfl, bT, nd, mem⟩ := set_members R (fun p hp => (si.hk p.2 (List.mem_map.mpr ⟨p, hp, rfl⟩)).1) g pm
  have lv : (bs.map fun b => Value.ref b.1).length ≤ 1000 := by
    rw [pm.length_eq, List.length_map, Array.length_toList, sz]
    exact few
  have lb : bs.length ≤ 1000 := by rwa [List.length_map] at lv
  refine wpAny_bind (wpAny_newList ?_ (Nat.le_trans lv (by decide)))
  have hoL : (s2.heap.push (seqObj "list" (bs.map fun b => Value.ref b.1).toArray 0)).get? s2.heap.objs.size = some (seqObj "list" (bs.map fun b => Value.ref b.1).toArray 0) := Heap.get?_push_size _ rfl
  have inT : ∀ b ∈ bs, b.2 ∈ T.map (·.2) := fun b hb => List.mem_map.mpr ⟨b, bT b hb, rfl⟩
  have kq : ∀ b u, s1.heap.get? b = some u → (s2.heap.push (seqObj "list" (bs.map fun b => Value.ref b.1).toArray 0)).get? b = some u := fun b u e => Heap.get?_push_of_some _ (kp b u e)
  have each : ∀ l : List (Addr × PyData), (∀ b ∈ l, b ∈ bs) → PySem.W.EachIs (fun (v : Value) (b : Addr × PyData) => v = .ref b.1 ∧ b ∈ bs) (l.map fun b => Value.ref b.1) l := fun l => by
    induction l with
    | nil => intro _; exact .nil
    | cons b l ih => intro h; exact .cons ⟨rfl, h b List.mem_cons_self⟩ (ih fun c hc => h c (List.mem_cons_of_mem _ hc))
  have e1 := each bs fun _ h => h
  have er : PySem.W.EachIs (fun (v : Value) (b : Addr × PyData) => ∃ as, Reads (s2.heap.push (seqObj "list" (bs.map fun b => Value.ref b.1).toArray 0)) v b.2 as ∧ s2.heap.objs.size ∉ as) (bs.map fun b => Value.ref b.1) bs := e1.mono fun v b hb => by
    obtain ⟨rfl, hb⟩ := hb
    obtain ⟨as, ra⟩ := Dp.reads I b.2 (.ref b.1) (.ref b.1) (dp b (bT b hb)) rfl
    have := reads_flat b.2 _ as (hk_flat _ (si.hk _ (inT b hb)).1) ra
    subst this
    exact ⟨[], Reads.keeps kq ra, List.not_mem_nil⟩
  refine wpAny_bind (wpAny_holding (PySem.W.list_sort_data (s := { s2 with heap := s2.heap.push (seqObj "list" (bs.map fun b => Value.ref b.1).toArray 0) }) (vs := bs.map fun b => Value.ref b.1) (bs := bs) (enc := (·.2)) (n := 0) hoL e1 er (fun d hd e he => ?_) ?_ (Nat.le_trans lb (by decide)) (fun b hb => ?_) fun out ho2 hE => ?_))
  · obtain ⟨b, hb, rfl⟩ := List.mem_map.mp hd
    obtain ⟨c, hc, rfl⟩ := List.mem_map.mp he
    exact si.al _ (inT b hb) _ (inT c hc)
  · rcases si.so with h | h
    · exact .inl fun d hd => by
        obtain ⟨b, hb, rfl⟩ := List.mem_map.mp hd
        exact h _ (inT b hb)
    · exact .inr fun d hd => by
        obtain ⟨b, hb, rfl⟩ := List.mem_map.mp hd
        exact h _ (inT b hb)
  · have h8 := (si.hk _ (inT b hb)).2.2
    show X.A.units + 1 + 1 + b.2.depth < cLine
    omega
  · obtain ⟨c, hc⟩ := sortedHeap_at (vs := bs.map fun b => Value.ref b.1) (out := out.toArray) hoL
    have pmB : (bs.mergeSort (PySem.W.dataLe false (·.2))).Perm bs := List.mergeSort_perm bs _
    have so2 : Ws.Ord ((bs.mergeSort (PySem.W.dataLe false (·.2))).map (·.2)) := ord_sorted bs
    generalize bs.mergeSort (PySem.W.dataLe false (·.2)) = bs2 at hE pmB so2
    have eo : out = bs2.map fun b => Value.ref b.1 := each_refs hE
    have offH : H s2.heap.objs.size = none := I.hok.fresh hz
    have hlen : (bs2.map fun b => V.ref b.1).length ≤ sizeLine := by rw [List.length_map, pmB.length_eq]; exact Nat.le_trans lb (by decide)
    have kk : ∀ b u, s1.heap.get? b = some u → (sortedHeap (s2.heap.push (seqObj "list" (bs.map fun b => Value.ref b.1).toArray 0)) s2.heap.objs.size (bs.map fun b => Value.ref b.1) out.toArray).get? b = some u := fun b u e => by
      have q := kp b u e
      have lt := Heap.lt_size q
      rw [sortedHeap_old (Nat.ne_of_lt lt) (by rw [size_push']; exact Nat.lt_succ_of_lt lt)]
      exact Heap.get?_push_of_some _ q
    refine wpAny_pure ⟨_, rfl, ?_⟩
    have J : Inv X pins σ _ { s1 with heap := _, gens := s2.gens, drawn := s2.drawn, toks := s2.toks } := I.call (g' := s2.gens) (t' := s2.toks) (d' := s2.drawn) (ch := []) (Un.laid (o := .lst (bs2.map fun b => V.ref b.1)) kk hz offH) (I.hok.laid kk hz ⟨hlen, out, c, by rw [eo]; exact refs_vals bs2, hc⟩) (by show AllBare s2.gens; rw [g2]; exact I.bare) (fun _ z => nomatch z)
    have e2 : ({ s2 with heap := sortedHeap (s2.heap.push (seqObj "list" (bs.map fun b => Value.ref b.1).toArray 0)) s2.heap.objs.size (bs.map fun b => Value.ref b.1) out.toArray } : Shared) = { s1 with heap := sortedHeap (s2.heap.push (seqObj "list" (bs.map fun b => Value.ref b.1).toArray 0)) s2.heap.objs.size (bs.map fun b => Value.ref b.1) out.toArray, gens := s2.gens, drawn := s2.drawn, toks := s2.toks } := by
      cases s2
      cases s1
      cases o2
      rfl
    show EP X pins σ Q (.ref s2.heap.objs.size) ({ s2 with heap := sortedHeap (s2.heap.push (seqObj "list" (bs.map fun b => Value.ref b.1).toArray 0)) s2.heap.objs.size (bs.map fun b => Value.ref b.1) out.toArray } : Shared)
    rw [e2]
    refine ⟨.ref _, _, J, rfl, k _ (bs2.map (·.2)) _ (dps_of bs2 fun p hp => dp p (bT p (pmB.mem_iff.mp hp))) ⟨(pmB.map _).nodup_iff.mpr nd, so2, fun d => ((pmB.map _).mem_iff).trans (mem d)⟩ offH⟩
/-- sorted(set(xs)) -/
theorem pe_sortedSet (hc : X.calm = true) (hu : X.A.units + 65 < cLine) (hg : Gl X "sorted") (hm : X.mg "sorted" = none) (hg2 : Gl X "set") (hm2 : X.mg "set" = none) (ha : PE X e te)
    (na : starEach [e] X.env = (false, eval e X.env) :: starEach [] X.env := by rfl) : PE X (.Call (.Name "sorted" p) [.Call (.Name "set" p2) [e] [] q] [] pos) (tSortedSet X.K te) := by
  refine ⟨fun pins s σ H Q I h => ?_⟩
  refine Call_ (ld_blt I hg hm boot_sorted ?_)
  refine PyProof.Rows.callWith_builtin1 (PyProof.Rows.args_cons ?_ rfl) rfl rfl
  refine Call_ (ld_blt I hg2 hm2 PyProof.Rows.boot_set ?_)
  refine PyProof.Rows.callWith_type1 (PyProof.Rows.args_cons (thn (ha.run pins s σ H _ I h) fun v s1 ⟨x, H1, I1, r1, q1⟩ => PyProof.Rows.args_nil ?_) na) na rfl
  obtain ⟨l, ys, ds, rfl, hs, hd, si, k⟩ := q1
  cases r1
  obtain ⟨T, rfl, rfl, dp⟩ := refs_pairs hd fun d hd => (si.hk d hd).2.1
  have key : ∀ p ∈ T, (numKind X.prog X.w).is s1.heap (keyD p.2) p.1 := fun p hp => by
    obtain ⟨as, ra⟩ := Dp.reads I1 p.2 (.ref p.1) (.ref p.1) (dp p hp) rfl
    obtain ⟨h1, _, h3⟩ := si.hk p.2 (List.mem_map.mpr ⟨p, hp, rfl⟩)
    obtain ⟨n1, n2⟩ := key_reads p.2 _ as h1 ra
    exact ⟨⟨n1, by rw [key_depth _ h1]; exact h3⟩, n2⟩
  have few : (T.map fun p => (p.1, keyD p.2)).length ≤ 1000 := by have := si.few; simpa using this
  have room : ∀ A' : Around, A'.units ≤ X.A.units + 4 → (numKind X.prog X.w).room A' := fun A' hA => (show A'.units + 8 < cLine by omega)
  have key2 : ∀ p ∈ T.map (fun p => (p.1, keyD p.2)), (numKind X.prog X.w).is s1.heap p.2 p.1 := fun p hp => by
    obtain ⟨b, hb, rfl⟩ := List.mem_map.mp hp
    exact key b hb
  have len2 : ∀ {us : List Value}, us = T.map (fun p => Value.ref p.1) → us.toArray.toList = (T.map fun p => (p.1, keyD p.2)).map fun p => Value.ref p.1 := fun e => by
    rw [e, List.map_map]
    rfl
  rcases hs with hs | hs
  · obtain ⟨its, rv, pl, hz⟩ := I1.list hs
    refine set_list (numQ _ _) _ (I1.ok.hd hc) pl.isList (len2 (vals_refs rv)) key2 few room fun h' tk m => PyProof.Rows.args_nil ?_
    obtain ⟨L, es, ep, t, R, g, kp⟩ := m
    exact sorted_made (I1.kept (t' := tk) kp) hc hu si dp R g k
  · obtain ⟨its, rv, pl, hz⟩ := I1.tuple hs
    refine set_tup (numQ _ _) _ (I1.ok.hd hc) pl (len2 (vals_refs rv)) key2 few room fun h' tk m => PyProof.Rows.args_nil ?_
    obtain ⟨L, es, ep, t, R, g, kp⟩ := m
    exact sorted_made (I1.kept (t' := tk) kp) hc hu si dp R g k
end
end SD
/-! ## R22 -/
/-! rules: t[::-1] of a tuple; a call with keywords alone -/
namespace Ws
open PySem PySem.Spec PyProof.Rows L2
theorem back_pick (xs : Array Value) : ((List.range xs.size).filterMap fun (k : Nat) => xs[(((xs.size : Int) - 1) + (k : Int) * (-1)).toNat]?) = xs.toList.reverse := by
  refine List.ext_getElem? fun i => ?_
  have e : (List.range xs.size).filterMap (fun (k : Nat) => xs[(((xs.size : Int) - 1) + (k : Int) * (-1)).toNat]?) = (List.range xs.size).map fun k => xs[xs.size - 1 - k]?.getD .none := by
    have go : ∀ l : List Nat, (∀ k ∈ l, k < xs.size) → l.filterMap (fun (k : Nat) => xs[(((xs.size : Int) - 1) + (k : Int) * (-1)).toNat]?) = l.map fun k => xs[xs.size - 1 - k]?.getD .none := fun l => by
      induction l with
      | nil => intro _; rfl
      | cons k l ih =>
        intro hl
        have hk := hl k List.mem_cons_self
        have h1 : (((xs.size : Int) - 1) + (k : Int) * (-1)).toNat = xs.size - 1 - k := by omega
        have h2 : xs.size - 1 - k < xs.size := by omega
        have h3 : xs[(((xs.size : Int) - 1) + (k : Int) * (-1)).toNat]? = some (xs[xs.size - 1 - k]?.getD .none) := by
          rw [h1, Array.getElem?_eq_getElem h2]
          rfl
        rw [List.filterMap_cons_some (f := fun (k : Nat) => xs[(((xs.size : Int) - 1) + (k : Int) * (-1)).toNat]?) h3, List.map_cons, ih fun j hj => hl j (List.mem_cons_of_mem _ hj)]
    exact go _ fun k hk => List.mem_range.mp hk
  rw [e]
  by_cases h : i < xs.size
  · rw [List.getElem?_map, List.getElem?_range h, List.getElem?_reverse (by simpa using h)]
    have h2 : xs.size - 1 - i < xs.size := by omega
    show some (xs[xs.size - 1 - i]?.getD .none) = _
    rw [Array.getElem?_eq_getElem h2, Array.length_toList, Array.getElem?_toList, Array.getElem?_eq_getElem h2]
    rfl
  · rw [List.getElem?_eq_none (by simpa using h), List.getElem?_eq_none (by simpa using h)]
theorem back_adjust (n : Nat) : Builtin.Slice.sliceAdjust none none (-1) (n : Int) = ((n : Int) - 1, -1) := rfl
theorem back_places (n : Nat) : Builtin.Slice.slicePlaces ((n : Int) - 1) (-1) (-1) = n := by
  unfold Builtin.Slice.slicePlaces
  have h1 : ¬ ((-1 : Int) > 0) := by omega
  simp only [h1, if_false]
  by_cases h : n = 0
  · subst h; rfl
  · rw [if_pos (by omega)]
    have : -1 + 1 - ((n : Int) - 1) = -(n : Int) + 1 := by omega
    simp only [Int.neg_neg, Int.ediv_one]
    omega
section
variable {prog : Program} {w : World} {A : Around} {E : Value → Shared → Prop} {s : Shared}
theorem getItem_tuple_back {t sl : Addr} {items : Array Value} {u : Tok} {Q : Value → Shared → Prop} (ht : IsTup s.heap t items) (hs : s.heap.IsSliceOf sl .none .none (.int (-1) u)) (hsz : items.size ≤ sizeLine)
    (h : Q (.ref s.heap.objs.size) { s with heap := s.heap.push { cls := .type "tuple", data := .seq items.toList.reverse.toArray } }) : wpAny (model prog w) A (getItem (.ref t) (.ref sl)) Q E s := by
  obtain ⟨os, hos, hcs, hds⟩ := id hs
  have hTs : s.TypeIs (.ref sl) "slice" := ⟨os, hos, hcs⟩
  have small : sizeOk (.seq items.toList.reverse.toArray) := by
    show items.toList.reverse.toArray.size ≤ sizeLine
    simpa using hsz
  unfold getItem
  try with_reducible refine wpAny_holding ?_
  first | refine wpAny_bind (wpAny_pure ?_) | skip
  refine wpAny_bind (wpAny_sequenceKey ht.typeIs (by decide) (wpAny_bind (wpAny_callSpecial?_slot (name := Str.ofString "__getitem__") ht.typeIs PyProof.Rows.slot_tuple_getitem
    (wpAny_call_entry PyProof.Rows.slot_tuple_getitem ht.typeIs entry_tuple_getitem ?_ (args_tuple_getitem _ _)))))
  show wpAny _ _ (Builtin.Tuple.tupleItemsOf (.ref t) >>= _) _ _ s
  refine wpAny_bind (tupleItemsOf_ ht (wpAny_bind (wpAny_typeOf hTs ?_)))
  rw [if_pos (by decide)]
  refine wpAny_bind ?_
  unfold Builtin.Slice.sliceApplied Builtin.Slice.sliceFields
  refine wpAny_bind (wpAny_bind (wpAny_field hos hds (x := .none) rfl (wpAny_bind (wpAny_field hos hds (x := .none) rfl (wpAny_bind (wpAny_field hos hds (x := .int (-1) u) rfl (wpAny_pure ?_)))))))
  refine wpAny_bind (slicePart_int ?_)
  show wpAny _ _ (if ((-1 : Int) == 0) = true then _ else _) _ _ s
  rw [if_neg (by decide)]
  refine wpAny_bind (slicePart_none (wpAny_bind (slicePart_none (wpAny_bind (wpAny_pure ?_)))))
  show wpAny _ _ (pure ((items.size : Int) - 1, (-1 : Int), Builtin.Slice.slicePlaces ((items.size : Int) - 1) (-1) (-1))) _ _ s
  rw [back_places]
  refine wpAny_pure ?_
  show wpAny _ _ (if (((items.size : Int) - 1) == 0 && (-1 : Int) == 1 && items.size == items.size) = true then _ else _) _ _ s
  rw [if_neg (by
    rw [Bool.and_eq_true, Bool.and_eq_true]
    intro z
    exact absurd z.1.2 (by decide)), back_pick]
  first
    | exact wpAny_bind (m := Builtin.Tuple.tupleExact _) (wpAny_newObj_type (wpAny_pure ⟨_, rfl, wpAny_pure h⟩) small)
    | exact wpAny_bind (m := Builtin.Tuple.tupleExact _) (wpAny_newObj_type (wpAny_bind (wpAny_pure (wpAny_pure ⟨_, rfl, wpAny_pure h⟩))) small)
    | exact wpAny_bind (wpAny_bind (m := Builtin.Tuple.tupleExact _) (wpAny_newObj_type (wpAny_pure (wpAny_pure ⟨_, rfl, wpAny_pure h⟩)) small))
    | exact wpAny_bind (wpAny_bind (m := Builtin.Tuple.tupleExact _) (wpAny_newObj_type (wpAny_pure ⟨_, rfl, wpAny_pure h⟩) small))
end
section
variable {X : Cx}
def tRevT (K : PySem.W.Frag) (te : TE) : TE := fun σ H Q => te σ H fun x H1 => ∃ a xs, x = .ref a ∧ SqT K H1 a xs ∧ ∀ p, H1 p = none → Q (.ref p) (upd H1 p (.tup xs.reverse))
theorem pe_revT {e : Expr} {te : TE} {k : Nat} {p1 p2 p3 pos : Pos} (he : PE X e te) : PE X (.Subscript e (.Slice none none (some (.UnaryOp .USub (.Constant (.int 1) k p1) p2)) p3) pos) (tRevT X.K te) := by
  refine ⟨fun pins s σ H Q I h => Subscript_ (thn (he.run pins s σ H _ I h) fun v s1 ⟨x, H1, I1, r1, q1⟩ => ?_)⟩
  obtain ⟨a, xs, rfl, hx, q⟩ := q1
  cases r1
  have minus : PO X (some (.UnaryOp .USub (.Constant (.int 1) k p1) p2)) (tPart (tUn (rU fun i => .int (-i)) (tC (.int 1)))) := po_some (pe_un un_neg pe_int)
  refine wpAny_Slice (thn (po_none.run pins s1 σ H1 (fun o G => o = none ∧ G = H1) I1 ⟨rfl, rfl⟩) fun vl s2 ⟨l, H2, I2, pl, el, e2⟩ => ?_)
  subst el e2
  refine thn (po_none.run pins s2 σ H2 (fun o G => o = none ∧ G = H2) I2 ⟨rfl, rfl⟩) fun vu s3 ⟨u, H3, I3, pu, eu, e3⟩ => ?_
  subst eu e3
  refine thn (minus.run pins s3 σ H3 (fun o G => o = some (-1) ∧ G = H3) I3 ⟨1, rfl, -1, rfl, rfl, rfl⟩) fun vs s4 ⟨o, H4, I4, ps, eo, e4⟩ => ?_
  subst eo e4
  obtain rfl : vl = .none := by cases pl; rfl
  obtain rfl : vu = .none := by cases pu; rfl
  obtain ⟨tk, rfl⟩ : ∃ tk, vs = .int (-1) tk := by cases ps; exact ⟨_, rfl⟩
  have I5 : Inv X pins σ H4 { s4 with heap := s4.heap.push { cls := .type "slice", data := .fields #[.none, .none, .int (-1) tk] } } := I4.kept (t' := s4.toks) fun b ob q => Heap.get?_push_of_some _ q
  obtain ⟨its, r, ht, hz⟩ := I5.tuple hx
  have ln := r.length
  show wpAny (model X.prog X.w) X.A (subscriptTail e (.Slice none none (some (.UnaryOp .USub (.Constant (.int 1) k p1) p2)) p3) (.ref a) (.ref s4.heap.objs.size)) (EP X pins σ Q) X.xe { s4 with heap := s4.heap.push { cls := .type "slice", data := .fields #[.none, .none, .int (-1) tk] } }
  refine tail_any (ops := [.ref a, .ref s4.heap.objs.size]) ht.typeIs (PyProof.Rows.slot_tuple_getitem.lookup) (getItem_tuple_back ht (Heap.IsSliceOf.new _ .none .none (.int (-1) tk)) (by rw [List.size_toArray]; omega) ?_) (by with_unfolding_all rfl)
  refine ⟨.ref _, _, I5.laid (t' := s4.toks) (o := .tup xs.reverse) (fun b ob q => Heap.get?_push_of_some _ q) (Nat.le_refl _) ?_, rfl, q _ (I5.hok.fresh (Nat.le_refl _))⟩
  exact ⟨by rw [List.length_reverse]; exact hz, _, r.reverse, IsTup.new _ _⟩
end
/-! ### a call with keywords alone, in the parameters' order -/
section
variable {X : Cx} {CX : CXT} {k : Nat} {ps : List Str} {sp : Sp} {E : XK} {x : Str} {p pos : Pos} {kws : List Keyword} {tk : TA}
/-- the keywords' values bind the parameters, in their order -/
def KwB (K : PySem.W.Frag) (fd : FuncData) (ps : List Str) : Prop := ∀ (s : Shared) (ws : List Value), K.In s.heap → ws.length = ps.length → BindsTo s fd ⟨[], ps.zip ws⟩ (ps.zip ws)
structure DfK (P : Program) (w : World) (K : PySem.W.Frag) (mg : Str → Option Value) (base : Heap) (CX : CXT) (k : Nat) (x : Str) (ps : List Str) (sp : Sp) : Prop where
  ex : ∃ (f : Addr) (fd : FuncData), FnOk P w K mg base CX k f fd ps sp ∧ mg x = some (.ref f) ∧ PySem.W.keepIn K (.ref f) = true ∧ KwB K fd ps
variable {Es : L2.St → XK}
theorem pe_fK (D : DfK X.prog X.w X.K X.mg X.base CX k x ps sp) (hr : Room k X.A) (hx : ∀ σ, PassesAt CX X σ (Es σ)) (hkw : PK X kws tk) (hg : Gl X x := by rfl)
    (hall : (backToKw pos (keywordEach kws X.env)).all (·.1.isSome) = true := by rfl) (hks : (backToKw pos (keywordEach kws X.env)).filterMap (·.1) = ps := by rfl) (hdb : (x == ("__debug__" : Str)) = false := by decide)
    (hpl : ((backTo pos (starEach [] X.env)).any (·.1) || (backToKw pos (keywordEach kws X.env)).any (·.1.isNone)) = false := by rfl) :
    PE X (.Call (.Name x p) [] kws pos) (tCallS sp Es tk) := by
  obtain ⟨f, fd, F, hm, hk, hb⟩ := D.ex
  refine ⟨fun pins s σ H Q I h => ?_⟩
  refine wpAny_Call_Name_kw (ld_glob I hg hm ?_ hdb)
  refine PySem.W.callWith_KW0 (h₀ := X.base) I.ok.mod.kin hk hall (thn (hkw.run pos pins s σ H _ I h) fun ws s2 ⟨zs, H2, I2, rz, q⟩ => ⟨I2.kIn, ?_⟩) hpl
  rw [hks]
  have hl : ws.length = ps.length := by rw [← rz.length]; exact F.len _ _ _ _ q
  refine wpAny_call (codeAny_mono (F.run X.A X.stack s2 H2 ⟨[], ps.zip ws⟩ ws zs Q (Es σ) hr I2.env0 (hb s2 ws I2.kIn hl) rz q) fun r s' hq => ?_)
  cases r with
  | error e => exact hx σ pins H2 s2 e s' I2 hq
  | ok fl =>
    cases fl with
    | ret u => exact I2.after hq
    | next => exact False.elim hq
    | brk => exact False.elim hq
    | cont => exact False.elim hq
end
section
variable {P : Program} {w : World} {K : PySem.W.Frag} {mg : Str → Option Value} {base : Heap} {x : Str} {st : Stmt} {N ps : List Str} {k : Nat} {sp : Sp}
theorem Dt.okXK (D : Dt K mg x st ps) (S : FnScope N ps (defScope st)) (len : ∀ vs H Q E, sp vs H Q E → vs.length = ps.length)
    (hkw : ∀ (kV doc pm : Value) (an : Option Addr) (cdv ct : Value) (us : List Value), us.length = ps.length → bindArgs (PySem.W.fnOf x x (defArgs st) (defBody st) (defScope st) .none kV doc pm an cdv ct) ⟨[], ps.zip us⟩ = pure (ps.zip us))
    (hbody : ∀ (f : Addr) (cdv : Value) (A : Around) (outer : List Env) (s : Shared) (H : Hp) (vs : List V) (Q : VK) (E : XK), Room k (A.deeper (envOfC x (defScope st) s.heap.objs.size f cdv)) → sp vs H Q E →
      ∃ t, PSs (cxOf (L2.CX P w) P w K mg base N x (defScope st) f cdv A outer s H E) (defBody st) t ∧ t { nx := fun _ H' => Q .non H', rt := Q } (start N vs) H) : DfK P w K mg base (L2.CX P w) (k + 1) x ps sp := by
  obtain ⟨f, fd, F, m, b⟩ := D.ex
  have ok := F.okX S len (hbody f)
  have kp := F.kp
  obtain ⟨oc, od, kV, doc, pm, an, cdv, ct, osl, rfl, lk, hcd⟩ := F.ex
  exact ⟨f, _, ok, m, kp, fun s ws _ hl => .of_eq (hkw kV doc pm an cdv ct ws hl)⟩
end
end Ws
/-! ## D22 -/
namespace Ws
open PySem PySem.Spec PyProof.Rows L2
def top (i : Nat) : Stmt := PySem.Challenge.pw_wholesay_k25_whole_unions_sums_stars.main.body.getD i (.Pass ⟨0, 0, 0, 0⟩)
/-! ### what the top has written -/
structure Bl (mg : Str → Option Value) : Prop where
  isinstance : mg "isinstance" = none
  int : mg "int" = none
  bool : mg "bool" = none
  tuple : mg "tuple" = none
  list : mg "list" = none
  str : mg "str" = none
  len : mg "len" = none
  all : mg "all" = none
  any : mg "any" = none
  sum : mg "sum" = none
  max : mg "max" = none
  min : mg "min" = none
  range : mg "range" = none
  enumerate : mg "enumerate" = none
  repr : mg "repr" = none
  abs : mg "abs" = none
  sorted : mg "sorted" = none
  zip : mg "zip" = none
  set : mg "set" = none
local macro_rules | `(tactic| walk_at "nf") => `(tactic| dsimp only [tNext, tSeq, tDrop, tRet, tRetN, tIfS, tAsg, gName, gCons, gNil, tVar, tC, tOp, tUn, rI, rI0, rU, rEq, rNe, tTest, tChain, tAnd, tOr, tNot, tAndV, tOrV, tNotV, tIf, tCB, tCKw, tCons, tNil, tTup, tLst, tCa, tCallS, tB, rIxT, rIxL, rIxS, cxOf, Cx.nox, Cx.wish, Cx.blk, L2.start, tPar, tPar3, tNever, tYes])
local macro_rules | `(tactic| walk_at "sx") => `(tactic| simp only [wipe, List.map_cons, List.map_nil, List.length_cons, List.length_nil, List.cons_append, List.nil_append, List.append_nil, Nat.reduceAdd, Nat.reduceSub, List.replicate, List.getElem?_cons_zero, List.getElem?_cons_succ, List.set_cons_zero, List.set_cons_succ, Option.some.injEq, V.int.injEq, V.bl.injEq, V.ref.injEq, V.str.injEq, exists_eq_left', exists_eq_left, true_and, Bool.true_eq_false, Bool.false_eq_true, if_true, if_false])
/-! ### wholesay.kinds -/
def spIsInteger (K : PySem.W.Frag) : Sp := fun vs H Q _ => ∃ v d, vs = [v] ∧ Dp K H v d ∧ Q (.bl (isI d)) H
def spIsBetween (K : PySem.W.Frag) : Sp := fun vs H Q _ => ∃ v d lo hi, vs = [v, .int lo, .int hi] ∧ Dp K H v d ∧ Q (.bl (isBt d lo hi)) H
def spIsTupleOf (K : PySem.W.Frag) : Sp := fun vs H Q _ => ∃ v d n, vs = [v, .int n] ∧ Dp K H v d ∧ Q (.bl (isTn d n)) H
def spAreBetween (K : PySem.W.Frag) : Sp := fun vs H Q _ => ∃ v d lo hi, vs = [v, .int lo, .int hi] ∧ Dp K H v d ∧ (∀ ds, d = .tuple ds → ds.length < 100000) ∧ ∀ H', Same H H' → Q (.bl (areB d lo hi)) H'
abbrev s_is_integer : Stmt := top 2
abbrev nm_is_integer : List Str := ["value"]
abbrev pr_is_integer : List Str := ["value"]
theorem sc_is_integer : FnScope nm_is_integer pr_is_integer (defScope s_is_integer) := ⟨rfl, rfl, rfl, by decide +kernel, rfl, by decide +kernel, by decide +kernel⟩
abbrev s_is_between : Stmt := top 3
abbrev nm_is_between : List Str := ["value", "low", "high"]
abbrev pr_is_between : List Str := ["value", "low", "high"]
theorem sc_is_between : FnScope nm_is_between pr_is_between (defScope s_is_between) := ⟨rfl, rfl, rfl, by decide +kernel, rfl, by decide +kernel, by decide +kernel⟩
abbrev s_is_tuple_of : Stmt := top 4
abbrev nm_is_tuple_of : List Str := ["value", "many"]
abbrev pr_is_tuple_of : List Str := ["value", "many"]
theorem sc_is_tuple_of : FnScope nm_is_tuple_of pr_is_tuple_of (defScope s_is_tuple_of) := ⟨rfl, rfl, rfl, by decide +kernel, rfl, by decide +kernel, by decide +kernel⟩
abbrev s_are_between : Stmt := top 5
abbrev nm_are_between : List Str := ["value", "low", "high", "item"]
abbrev pr_are_between : List Str := ["value", "low", "high"]
theorem sc_are_between : FnScope nm_are_between pr_are_between (defScope s_are_between) := ⟨rfl, rfl, rfl, by decide +kernel, rfl, by decide +kernel, by decide +kernel⟩
section
variable {P : Program} {w : World} {K : PySem.W.Frag} {mg : Str → Option Value} {base : Heap}
theorem ok_is_integer (B : Bl mg) (D : Dt K mg "is_integer" s_is_integer pr_is_integer) : Df P w K mg base CX0 1 "is_integer" pr_is_integer (spIsInteger K) := by
  refine D.ok sc_is_integer (fun vs H Q E h => ?_) (fun f cdv A outer s H vs Q E hr h => ?_)
  · obtain ⟨v, d, rfl, _⟩ := h
    rfl
  · obtain ⟨v, d, rfl, hd, k⟩ := h
    refine ⟨_, (pss_one (ps_ret (pe_and (pe_callB call_isi (by rfl) B.isinstance boot_isinstance (pa_cons (pv 0) (pa_cons (pe_bltn (v := .ty "int") (by rfl) B.int PyProof.Rows.boot_int rfl) pa_nil))) (pe_one (pe_not (pe_callB call_isi (by rfl) B.isinstance boot_isinstance (pa_cons (pv 0) (pa_cons (pe_bltn (v := .ty "bool") (by rfl) B.bool PyProof.Rows.boot_bool rfl) pa_nil)))))))), ?_⟩
    walk_at "nf"
    walk_at "sx"
    refine isi_int hd ⟨_, rfl, ?_⟩
    cases hx : isIB d with
    | true =>
      refine iteT (isi_bool hd ⟨_, rfl, ?_⟩)
      have e : (!isBo d) = isI d := by cases d <;> first | rfl | (simp [isIB, isI, isBo] at hx)
      rw [e]
      exact k
    | false =>
      refine iteF ?_
      have e : isI d = false := by cases d <;> first | rfl | (simp [isIB, isI, isBo] at hx)
      rw [← e]
      exact k
theorem ok_is_between (B : Bl mg) (F1 : Df P w K mg base CX0 1 "is_integer" pr_is_integer (spIsInteger K)) (D : Dt K mg "is_between" s_is_between pr_is_between) : Df P w K mg base CX0 2 "is_between" pr_is_between (spIsBetween K) := by
  refine D.ok sc_is_between (fun vs H Q E h => ?_) (fun f cdv A outer s H vs Q E hr h => ?_)
  · obtain ⟨v, d, lo, hi, rfl, _⟩ := h
    rfl
  · obtain ⟨v, d, lo, hi, rfl, hd, k⟩ := h
    refine ⟨_, (pss_one (ps_ret (pe_and (pe_f F1 (hr.mono (by decide)) pass0 (pa_cons (pv 0) pa_nil)) (pe_one (pe_chain op_le op_le (pv 1) (pv 0) (pv 2)))))), ?_⟩
    walk_at "nf"
    walk_at "sx"
    refine ⟨v, d, rfl, hd, _, rfl, ?_⟩
    cases hd with
    | int i =>
      refine iteT ⟨lo, i, rfl, rfl, ?_⟩
      by_cases c : lo ≤ i
      · rw [decide_eq_true c]
        refine iteT ⟨i, hi, rfl, rfl, ?_⟩
        have e : isBt (.int i) lo hi = decide (i ≤ hi) := by simp [isBt, c]
        rw [← e]
        exact k
      · rw [decide_eq_false c]
        refine iteF ?_
        have e : isBt (.int i) lo hi = false := by simp [isBt, c]
        rw [← e]
        exact k
    | _ => exact iteF k
theorem ok_is_tuple_of (B : Bl mg) (D : Dt K mg "is_tuple_of" s_is_tuple_of pr_is_tuple_of) : Df P w K mg base CX0 1 "is_tuple_of" pr_is_tuple_of (spIsTupleOf K) := by
  refine D.ok sc_is_tuple_of (fun vs H Q E h => ?_) (fun f cdv A outer s H vs Q E hr h => ?_)
  · obtain ⟨v, d, n, rfl, _⟩ := h
    rfl
  · obtain ⟨v, d, n, rfl, hd, k⟩ := h
    refine ⟨_, (pss_one (ps_ret (pe_and (pe_callB call_isi (by rfl) B.isinstance boot_isinstance (pa_cons (pv 0) (pa_cons (pe_bltn (v := .ty "tuple") (by rfl) B.tuple PyProof.Rows.boot_tuple rfl) pa_nil))) (pe_one (pe_cmpR op_eq (pe_callB call_len_seq (by rfl) B.len PySem.boot_len (pa_cons (pv 0) pa_nil)) (pv 1) (nomark _)))))), ?_⟩
    walk_at "nf"
    walk_at "sx"
    refine isi_tuple hd ⟨_, rfl, ?_⟩
    cases hd with
    | tup hs ha =>
      refine iteT ⟨_, _, rfl, .inr hs, rfl, ?_⟩
      rename_i a xs ds
      have e : isTn (.tuple ds) n = decide (((xs.length : Nat) : Int) = n) := by
        have := ha.length
        simp only [isTn, this]
      rw [← e]
      exact k
    | _ => exact iteF k
theorem ok_are_between (B : Bl mg) (F1 : Df P w K mg base CX0 2 "is_between" pr_is_between (spIsBetween K)) (D : Dt K mg "are_between" s_are_between pr_are_between) : Df P w K mg base CX0 3 "are_between" pr_are_between (spAreBetween K) := by
  refine D.ok sc_are_between (fun vs H Q E h => ?_) (fun f cdv A outer s H vs Q E hr h => ?_)
  · obtain ⟨v, d, lo, hi, rfl, _⟩ := h
    rfl
  · obtain ⟨v, d, lo, hi, rfl, hd, hz, k⟩ := h
    refine ⟨_, (pss_one (ps_ret (pe_and (pe_callB call_isi (by rfl) B.isinstance boot_isinstance (pa_cons (pv 0) (pa_cons (pe_bltn (v := .ty "tuple") (by rfl) B.tuple PyProof.Rows.boot_tuple rfl) pa_nil))) (pe_one (pe_callB (cr_all rfl) (by rfl) B.all boot_all (pa_cons (pe_lc (own := [("item", 3)]) (g := gName 3) (tt := tYes) (by rfl) sc_are_between.nd (pi_tup (pv 0)) (blkOk_by (own := [("item", 3)]) (N := nm_are_between) (sc := defScope s_are_between) (by decide +kernel)) (fun _ _ _ _ _ => pg_name (i := 3) sc_are_between.nd rfl (Or.inl rfl)) (fun _ _ _ _ _ => pts_nil) (fun _ _ _ _ _ => (pe_f F1 (hr.mono (by decide)) pass0 (pa_cons (pv 3) (pa_cons (pv 1) (pa_cons (pv 2) pa_nil)))))) pa_nil)))))), ?_⟩
    walk_at "nf"
    walk_at "sx"
    refine isi_tuple hd ⟨_, rfl, ?_⟩
    cases hd with
    | tup hs ha =>
      rename_i a xs ds
      refine iteT ?_
      have hl := ha.length
      refine ⟨_, rfl, a, rfl, ⟨_, hs⟩, fun L hL => lcS (walk_tup (K := K) (a := a) (xs := xs)) hL (by rw [hl]; exact slt (hz ds rfl)) (fun i y => y = V.bl (isBt (ds.getD i .none) lo hi)) (fun H1 e => Same.seqT e hs) (fun i x H1 H2 Q1 hi1 e y q => ?_) (fun H1 ys e hy hn hr => ?_)⟩
      · obtain ⟨rfl, hx⟩ := y
        obtain ⟨d, hd1, hd2⟩ := ha.getV hx
        walk_at "nf"
        walk_at "sx"
        refine ⟨x, d, lo, hi, rfl, hd2.to e, ?_⟩
        exact q _ _ (by simp [hd1]) (Same.refl _)
      · refine ⟨_, _, rfl, .of (by rw [hy]; exact congrArg (fun z => some (HO.lst z)) (vals_bl hn hr)), ?_⟩
        have e2 : (((List.range xs.length).map fun i => isBt (ds.getD i .none) lo hi).all id) = areB (.tuple ds) lo hi := by
          rw [hl]
          simp only [areB, List.all_map]
          rw [Bool.eq_iff_iff]
          simp only [List.all_eq_true, List.mem_range, Function.comp, id]
          constructor
          · intro h x hx
            obtain ⟨i, hi, rfl⟩ := List.mem_iff_getElem.mp hx
            have := h i hi
            simpa [hi] using this
          · intro h i hi
            have := h ds[i] (List.getElem_mem hi)
            simpa [hi] using this
        rw [e2]
        exact k _ e
    | _ => exact iteF (k _ (Same.refl _))
end
/-! ### the defs that the laws share -/
local macro_rules | `(tactic| walk_at "nf") => `(tactic| dsimp only [tNext, tSeq, tDrop, tRet, tRetN, tIfS, tAsg, gName, gTup, gCons, gNil, tVar, tC, tOp, tUn, rI, rI0, rU, rEq, rNe, tTest, tChain, tAnd, tOr, tNot, tAndV, tOrV, tNotV, tIf, tCB, tCKw, tCons, tNil, tTup, tLst, tCa, tCallS, tB, rIxT, rIxL, rIxS, cxOf, Cx.nox, Cx.wish, Cx.blk, L2.start, tPar, tPar3, tNever, tYes, tBits, tRz, tBM, rAppend, tyV, tXf, suiteEnds, gSub, rSetL, tBreak, rMax, tDGet, sDPut, tSl, tNoPart, tPart, tDisp, tPairs, tDGet2, tDNewK])
local macro_rules | `(tactic| walk_at "sx") => `(tactic| simp only [wipe, List.cons.injEq, and_assoc, exists_and_left, and_true, List.map_cons, List.map_nil, List.length_cons, List.length_nil, List.cons_append, List.nil_append, List.append_nil, Nat.reduceAdd, Nat.reduceSub, List.replicate, List.getElem?_cons_zero, List.getElem?_cons_succ, List.set_cons_zero, List.set_cons_succ, Option.some.injEq, V.int.injEq, V.bl.injEq, V.ref.injEq, V.str.injEq, exists_eq_left', exists_eq_left, true_and, Bool.true_eq_false, Bool.false_eq_true, if_true, if_false])

def spDrawW : Sp := fun vs H Q _ => ∃ (a l c : Addr) (n : Nat) (lim : Int), vs = [.ref a, .int lim] ∧ LSt H a l c n ∧ n ≤ 1000000 ∧ 1 ≤ lim ∧ lim < 2 ^ 220 ∧ ∀ H' (r : Int), Sbt a l H H' → LSt H' a l c (n + 1) → 0 ≤ r → r < lim → Q (.int r) H'
def spOf : Sp := fun vs H Q _ => ∃ (a l c p : Addr) (n : Nat) (xs : List V), vs = [.ref a, .ref p] ∧ LSt H a l c n ∧ n ≤ 1000000 ∧ H p = some (.lst xs) ∧ p ≠ a ∧ p ≠ l ∧ 1 ≤ xs.length ∧ xs.length ≤ 1000 ∧ ∀ H' x, Sbt a l H H' → LSt H' a l c (n + 1) → x ∈ xs → Q x H'
abbrev s__law_mixed : Stmt := top 30
abbrev nm__law_mixed : List Str := ["cell", "k"]
abbrev pr__law_mixed : List Str := ["cell", "k"]
theorem sc__law_mixed : FnScope nm__law_mixed pr__law_mixed (defScope s__law_mixed) := ⟨rfl, rfl, rfl, by decide +kernel, rfl, by decide +kernel, by decide +kernel⟩
abbrev s__law_draw : Stmt := top 32
abbrev nm__law_draw : List Str := ["state", "limit", "at", "place", "left", "number"]
abbrev pr__law_draw : List Str := ["state", "limit"]
theorem sc__law_draw : FnScope nm__law_draw pr__law_draw (defScope s__law_draw) := ⟨rfl, rfl, rfl, by decide +kernel, rfl, by decide +kernel, by decide +kernel⟩
abbrev s__law_like : Stmt := top 37
abbrev nm__law_like : List Str := ["got", "due"]
abbrev pr__law_like : List Str := ["got", "due"]
theorem sc__law_like : FnScope nm__law_like pr__law_like (defScope s__law_like) := ⟨rfl, rfl, rfl, by decide +kernel, rfl, by decide +kernel, by decide +kernel⟩
abbrev s__law_begin : Stmt := top 31
abbrev nm__law_begin : List Str := ["script", "cells_so", "cell"]
abbrev pr__law_begin : List Str := ["script"]
theorem sc__law_begin : FnScope nm__law_begin pr__law_begin (defScope s__law_begin) := ⟨rfl, rfl, rfl, by decide +kernel, rfl, by decide +kernel, by decide +kernel⟩
section
variable {P : Program} {w : World} {K : PySem.W.Frag} {mg : Str → Option Value} {base : Heap}
theorem ok_mixed (B : Bl mg) (D : Dt K mg "_law_mixed" s__law_mixed pr__law_mixed) : Df P w K mg base CX0 1 "_law_mixed" pr__law_mixed spMixed := by
  refine D.ok sc__law_mixed (fun vs H Q E h => ?_) (fun f cdv A outer s H vs Q E hr h => ?_)
  · obtain ⟨i, k, rfl, _⟩ := h
    rfl
  · obtain ⟨i, k, rfl, hk1, hk2, q⟩ := h
    refine ⟨_, (pss_cons (ps_set (i := 0) sc__law_mixed.nd rfl (Or.inl rfl) (pe_op op_mod (pe_callTy call_int1 (by rfl) B.int PyProof.Rows.boot_int (pa_cons (pv 0) pa_nil)) pe_int)) (pss_one (ps_ret (pe_op op_mod (pe_op op_mul (pe_op op_mod (pe_op op_add (pe_op op_add (pe_op op_mul (pv 0) (pe_op op_add pe_int (pe_op op_mul (pe_op op_mul pe_int (pv 1)) (pv 1)))) (pe_op op_mul pe_int (pv 1))) pe_int) pe_int) pe_int) pe_int)))), ?_⟩
    walk_at "nf"
    walk_at "sx"
    have m1 := Int.emod_nonneg i (show (2147483647 : Int) ≠ 0 by decide)
    have m2 := Int.emod_lt_of_pos i (show (0 : Int) < 2147483647 by decide)
    generalize hz : (i % 2147483647 * (48271 + 2 * k * k) + 69621 * k + 11) = z
    refine .inl ⟨by decide, .inl ⟨by decide, by decide⟩, .inr ⟨by omega, by omega⟩, .inl ⟨by omega, by omega⟩, .inl ⟨by decide, by decide⟩, by decide, .inr ⟨by decide, by decide⟩, by decide, q _ (Int.emod_nonneg _ (by decide)) (Int.emod_lt_of_pos _ (by decide))⟩
theorem ok_draw (B : Bl mg) (F1 : Df P w K mg base CX0 1 "_law_mixed" pr__law_mixed spMixed) (D : Dt K mg "_law_draw" s__law_draw pr__law_draw) : Df P w K mg base CX0 2 "_law_draw" pr__law_draw spDrawW := by
  refine D.ok sc__law_draw (fun vs H Q E h => ?_) (fun f cdv A outer s H vs Q E hr h => ?_)
  · obtain ⟨a, l, c, n, lim, rfl, _⟩ := h
    rfl
  · obtain ⟨a, l, c, n, lim, rfl, hs, hn, h1, h2, k⟩ := h
    refine ⟨_, (pss_cons (ps_set (i := 2) sc__law_draw.nd rfl (Or.inl rfl) (pe_dget (hu_of hr) (pv 0) pe_str (fun _ _ => rfl))) (pss_cons (ps_dput (hu_of hr) (pv 0) pe_str (pe_op op_add (pv 2) pe_int) rfl) (pss_cons (ps_set (i := 3) sc__law_draw.nd rfl (Or.inl rfl) (pe_op op_mod (pe_callTy call_int1 (by rfl) B.int PyProof.Rows.boot_int (pa_cons (pv 2) pa_nil)) (pe_callB call_len_seq (by rfl) B.len PySem.boot_len (pa_cons (pe_dget (hu_of hr) (pv 0) pe_str (fun _ _ => rfl)) pa_nil)))) (pss_cons (ps_set (i := 4) sc__law_draw.nd rfl (Or.inl rfl) (pe_ix ix_list (pe_dget (hu_of hr) (pv 0) pe_str (fun _ _ => rfl)) (pv 3) (fun _ _ => rfl))) (pss_cons (ps_if (pt_cmpR op_gt (pv 4) pe_int (nomark _)) (pss_cons (ps_asg (pe_op op_fdivW (pv 4) (pv 1)) (pg_sub (pe_dget (hu_of hr) (pv 0) pe_str (fun _ _ => rfl)) (pv 3) set_list)) (pss_one (ps_ret (pe_op op_mod (pe_callTy call_int1 (by rfl) B.int PyProof.Rows.boot_int (pa_cons (pv 4) pa_nil)) (pv 1))))) pss_nil) (pss_cons (ps_set (i := 5) sc__law_draw.nd rfl (Or.inl rfl) (pe_f F1 (hr.mono (by decide)) pass0 (pa_cons (pe_f F1 (hr.mono (by decide)) pass0 (pa_cons (pe_ix ix_list (pe_dget (hu_of hr) (pv 0) pe_str (fun _ _ => rfl)) (pv 3) (fun _ _ => rfl)) (pa_cons (pv 2) pa_nil))) (pa_cons (pe_op op_add pe_int (pv 2)) pa_nil)))) (pss_one (ps_ret (pe_op op_mod (pe_op op_fdiv (pe_callTy call_int1 (by rfl) B.int PyProof.Rows.boot_int (pa_cons (pe_op op_add (pe_op op_mul (pv 5) pe_int) (pe_f F1 (hr.mono (by decide)) pass0 (pa_cons (pv 5) (pa_cons (pe_op op_add pe_int (pv 2)) pa_nil)))) pa_nil)) pe_int) (pv 1)))))))))), ?_⟩
    walk_at "nf"
    walk_at "sx"
    obtain ⟨cs, ls, m, S⟩ := hs
    have hac : a ≠ c := ne_of S.top S.cells (by intro z; cases z)
    have hal : a ≠ l := ne_of S.top S.lefts (by intro z; cases z)
    have hq : m % cs.length < cs.length := Nat.mod_lt _ S.pos
    have hq2 : m % cs.length < ls.length := by rw [S.len]; exact hq
    have em : ((m : Nat) : Int) % (((cs.map V.int).length : Nat) : Int) = ((m % cs.length : Nat) : Int) := by
      rw [List.length_map]
      exact (Int.natCast_emod m cs.length).symm
    have top1 : upd H a (.dK (stK c l (m + 1))) a = some (.dK (stK c l (m + 1))) := upd_same
    have cells1 : upd H a (.dK (stK c l (m + 1))) c = some (.lst (cs.map V.int)) := by rw [upd_ne (Ne.symm hac)]; exact S.cells
    have lefts1 : upd H a (.dK (stK c l (m + 1))) l = some (.lst (ls.map V.int)) := by rw [upd_ne (Ne.symm hal)]; exact S.lefts
    have few := S.few
    refine ⟨_, dg_at S.top, m, rfl, _, dp_at S.top, .inl ⟨m, rfl, _, dg_cells top1, c, rfl, _, .inl (.of cells1), by rw [List.length_map]; have := S.pos; omega, _, dg_lefts top1, l, rfl, _, .of lefts1, ?_⟩⟩
    rw [em]
    refine ⟨V.int (ls.getD (m % cs.length) 0), atI_nat (by simp [hq2]), _, rfl, ?_⟩
    generalize hleft : ls.getD (m % cs.length) 0 = left
    by_cases hp : 0 < left
    · rw [decide_eq_true hp]
      refine iteT ⟨left, rfl, wide_div (b := 220) (by omega) (by omega) (by decide) (by decide), _, dg_lefts top1, l, rfl, _, lefts1, m % cs.length, ?_, .inl ⟨left, rfl, by omega, ?_⟩⟩
      · unfold ixN
        rw [if_pos (by omega), List.length_map, if_pos (by omega), Int.toNat_natCast]
      · refine k _ _ (Sbt.refl H).a.l ⟨cs, ls.set (m % cs.length) (left / lim), m + 1, ?_, ?_, ?_, by rw [List.length_set]; exact S.len, S.pos, by omega, S.apart⟩ (Int.emod_nonneg _ (by omega)) (Int.emod_lt_of_pos _ (by omega))
        · rw [upd_ne hal]
          exact top1
        · rw [upd_ne S.apart]
          exact cells1
        · rw [upd_same, List.map_set]
    · rw [decide_eq_false hp]
      have fin : ∀ r : Int, 0 ≤ r → r < lim → Q (.int r) (upd H a (.dK (stK c l (m + 1)))) := fun r r1 r2 => k _ r (Sbt.refl H).a ⟨cs, ls, m + 1, top1, cells1, lefts1, S.len, S.pos, by omega, S.apart⟩ r1 r2
      refine iteF ⟨_, dg_cells top1, c, rfl, _, .of cells1, V.int (cs.getD (m % cs.length) 0), atI_nat (by simp [hq]), _, _, rfl, by omega, by omega, fun r1 a1 b1 => ⟨m, rfl, _, _, rfl, by omega, by omega, fun r2 a2 b2 => ⟨r2, rfl, .inr ⟨by decide, by decide⟩, m, rfl, _, _, rfl, by omega, by omega, fun r3 a3 b3 => ⟨r3, rfl, .inl ⟨⟨by decide, by decide⟩, by omega, ?_⟩⟩⟩⟩⟩
      exact fin _ (Int.emod_nonneg _ (by omega)) (Int.emod_lt_of_pos _ (by omega))
theorem ok_like (B : Bl mg) (D : Dt K mg "_law_like" s__law_like pr__law_like) : DfG P w K mg base CX0 1 "_law_like" pr__law_like (spLike K) := by
  refine D.okG sc__law_like (fun vs H Q E h => ?_) (fun f cdv A outer s H vs Q E hG hr h => ?_)
  · obtain ⟨v, u, d, N, D, rfl, _⟩ := h
    rfl
  · obtain ⟨v, u, d, N, D, rfl, hv, hu, hs, hN, hD, k⟩ := h
    refine ⟨_, (pss_one (ps_ret (pe_cmpR op_eq (pe_callB (call_reprD hG hr.units) (by rfl) B.repr boot_repr (pa_cons (pv 0) pa_nil)) (pe_callB (call_reprD hG hr.units) (by rfl) B.repr boot_repr (pa_cons (pv 1) pa_nil)) (nomark _)))), ?_⟩
    walk_at "nf"
    walk_at "sx"
    refine ⟨d, hv, hs.sh, hs.nd, by have := hs.dp; omega, hs.fits hN, d, hu, hs.sh, hs.nd, by have := hs.dp; omega, hs.fits hN, rfl, ?_⟩
    rw [decide_eq_true rfl]
    exact k
theorem ok_begin (B : Bl mg) (D : Dt K mg "_law_begin" s__law_begin pr__law_begin) : Df P w K mg base CX0 1 "_law_begin" pr__law_begin (spBegin K) := by
  refine D.ok sc__law_begin (fun vs H Q E h => ?_) (fun f cdv A outer s H vs Q E hr h => ?_)
  · obtain ⟨p, is, rfl, _⟩ := h
    rfl
  · obtain ⟨p, is, rfl, hs, hl, k⟩ := h
    refine ⟨_, (pss_cons (ps_set (i := 1) sc__law_begin.nd rfl (Or.inl rfl) (pe_ifExp (pt_cmpR (op_neD hr.units) (pv 0) (pe_lst pa_nil) (nomark _)) (pe_callTy call_list_of (by rfl) B.list PyProof.Rows.boot_list (pa_cons (pv 0) pa_nil)) (pe_lst (pa_cons pe_int pa_nil)))) (pss_one (ps_ret (pe_disp (pps_cons pe_str (pv 1) (pps_cons pe_str (pe_lc (own := [("cell", 2)]) (g := gName 2) (tt := tYes) (by rfl) sc__law_begin.nd (pi_list (pv 1)) (blkOk_by (own := [("cell", 2)]) (N := nm__law_begin) (sc := defScope s__law_begin) (by decide +kernel)) (fun _ _ _ _ _ => pg_name (i := 2) sc__law_begin.nd rfl (Or.inl rfl)) (fun _ _ _ _ _ => pts_nil) (fun _ _ _ _ _ => (pe_ifExp (pt_cmpR op_ge (pv 2) (pe_op op_pow pe_int pe_int) (nomark _)) (pv 2) pe_int))) (pps_cons pe_str pe_int pps_nil))) (by rfl) (by rfl) (fun z => by cases z) (by decide))))), ?_⟩
    walk_at "nf"
    walk_at "sx"
    have fin : ∀ (G : Hp) (l : Addr) (zs : List Int), Same H G → G l = some (.lst (zs.map V.int)) → 0 < zs.length → zs.length ≤ 1000 → ∀ p2, G p2 = none →
        tLc (iList K (tVar 1)) (gName 2) tYes (tIf (tTest (tOp (rI0 fun i j => V.bl (decide (j ≤ i))) (tVar 2) (tOp (rI CPow fun i j => V.int (i ^ j.toNat)) (tC (V.int 10)) (tC (V.int 18))))) (tVar 2) (tC (V.int 0)))
          [2] [some (V.ref p), some (V.ref l), none] (upd G p2 (HO.dK [])) fun y H2 => H2 p2 = some (HO.dK []) ∧ ∃ kvs : List (Key × V),
            [(V.str (Str.ofString "cells"), V.ref l), (V.str (Str.ofString "lefts"), y), (V.str (Str.ofString "at"), V.int 0)] = List.map (fun kv => (kV kv.fst, kv.snd)) kvs ∧ kvs.length ≤ 15 ∧ Q (V.ref p2) (upd H2 p2 (HO.dK (mergeK [] kvs))) := by
      intro G l zs e hl2 hz1 hz2 p2 hp2
      have hl3 : upd G p2 (HO.dK []) l = some (.lst (zs.map V.int)) := by rw [upd_ne (ne_of_none hl2 hp2)]; exact hl2
      try walk_at "nf"
      try walk_at "sx"
      refine ⟨_, rfl, l, rfl, ⟨_, .of hl3⟩, fun D hD => lcS walk_list hD (by rw [List.length_map]; exact slt (by omega)) (fun _ y => ∃ z : Int, y = .int z) (fun H1 e1 => .of (e1 _ _ hl3)) (fun i x H1 H2 Q1 hi1 e1 y q => ?_) (fun H1 ys e1 hy hn hr => ?_)⟩
      · obtain ⟨rfl, hx⟩ := y
        obtain ⟨z, hz, rfl⟩ := List.mem_map.mp (List.mem_of_getElem? hx)
        try walk_at "nf"
        try walk_at "sx"
        refine ⟨⟨by decide, by decide, by decide⟩, ?_⟩
        refine ite2 (fun _ => q _ _ ⟨_, rfl⟩ (Same.refl _)) (fun _ => q _ _ ⟨_, rfl⟩ (Same.refl _))
      · obtain ⟨ls, rfl, hlen⟩ := ints_any hr
        have hp3 : H1 p2 = some (.dK []) := e1 _ _ upd_same
        refine ⟨hp3, [(.inr "cells", .ref l), (.inr "lefts", .ref D), (.inr "at", .int 0)], rfl, by show 3 ≤ 15; omega, ?_⟩
        have em : mergeK [] [((.inr ("cells" : Str) : Key), V.ref l), (.inr ("lefts" : Str), V.ref D), (.inr ("at" : Str), V.int 0)] = stK l D 0 := by
          have k4 : ¬ (("lefts" : Str) = "cells") := by decide +kernel
          have k5 : ¬ (("cells" : Str) = "lefts") := ks3
          simp [mergeK, putK, stK, ks1, ks2, k4, k5]
        rw [em]
        have hl4 := e1 _ _ hl3
        have hDl : D ≠ l := fun z => by rw [z, hl3] at hD; cases hD
        refine k _ p2 D l ?_ ⟨zs, ls, 0, upd_same, by rw [upd_ne (ne_of_none hl2 hp2)]; exact hl4, by rw [upd_ne (fun z => by rw [z, upd_same] at hD; cases hD)]; exact hy, by rw [hlen, hn, List.length_map], hz1, Nat.le_refl _, Ne.symm hDl⟩
        intro b o hb
        have hb2 := e _ _ hb
        have nb : b ≠ p2 := ne_of_none hb2 hp2
        rw [upd_ne nb]
        exact e1 _ _ (by rw [upd_ne nb]; exact hb2)
    refine ⟨by decide, fun p1 hp1 => ⟨.list (is.map PyData.int), .list [], .lst ((Same.new hp1).seq hs) (DpAll.ints is), .lst (.of upd_same) .nil, shaped_ints is, rfl, _, rfl, ?_⟩⟩
    cases is with
    | nil => exact iteF ⟨by decide, fun p2 hp2 => fun p3 hp3 => fin _ p2 [0] ((Same.new hp1).then_new hp2) upd_same (by decide) (by decide) p3 hp3⟩
    | cons z zs =>
      refine iteT ⟨_, .inl ((Same.new hp1).seq hs), fun p2 hp2 => fun p3 hp3 => fin _ p2 (z :: zs) ((Same.new hp1).then_new hp2) upd_same (by simp) hl p3 hp3⟩
end
end Ws
/-! ## U27 -/
namespace Ws
open PySem PySem.Spec PyProof.Rows L2 RZ
theorem walk_zipT {K : PySem.W.Frag} {a b : Addr} {xs ys : List V} : Walk (ItzT K a b) (min xs.length ys.length) (fun H => SqT K H a xs ∧ SqT K H b ys) (YPair (fun i => xs[i]?) (fun i => ys[i]?)) := by
  refine ⟨fun i _ hi q => ⟨xs, ys, xs[i]'(by omega), ys[i]'(by omega), q.1, q.2, by rw [List.getElem?_eq_getElem], by rw [List.getElem?_eq_getElem]⟩, fun _ q => ⟨xs, ys, q.1, q.2, by omega⟩, fun i H v H' _ q y => ?_⟩
  obtain ⟨T, x, z, h1, h2, h3, h4, h5⟩ := y
  exact ⟨T, x, z, h1, h2, h3, h4 xs q.1, h5 ys q.2⟩
def intsD (xs : List Int) : PyData := .tuple (xs.map PyData.int)
section
variable {K : PySem.W.Frag}
def isS : PyData → Bool
  | .str _ => true
  | _ => false
theorem kit_str : ∀ d : PyData, PySem.W.kitOne K (.type (tyName d)) (.type "str") = some (isS d)
  | .none => kit_ty (by decide +kernel)
  | .bool _ => kit_ty (by show kitB "bool" "str" = some false; decide +kernel)
  | .int _ => kit_ty (by show kitB "int" "str" = some false; decide +kernel)
  | .str _ => kit_ty (by show kitB "str" "str" = some true; decide +kernel)
  | .list _ => kit_ty (by show kitB "list" "str" = some false; decide +kernel)
  | .tuple _ => kit_ty (by show kitB "tuple" "str" = some false; decide +kernel)
  | .dict _ => kit_ty (by show kitB "dict" "str" = some false; decide +kernel)
theorem isi_str {H : Hp} {v : V} {d : PyData} {Q : VK} (h : Dp K H v d) (q : Q (.bl (isS d)) H) : rIsi K [v, .ty "str"] H Q := ⟨v, _, _, _, _, rfl, .ty _, dp_ty h, kit_str d, q⟩
end
/-- an error of the class at C with a field f of the data d is handed on -/
def OutF (K : PySem.W.Frag) (C : Addr) (f : Str) (d : PyData) (H : Hp) (E : XK) : Prop := ∀ H' dd u, Same H H' → Dp K H' u d → H' dd = some (.xd [(f, u)]) → E (.ref C) (some dd) H'
theorem OutF.to {K : PySem.W.Frag} {C : Addr} {f : Str} {d : PyData} {H H1 : Hp} {E : XK} (h : OutF K C f d H E) (e : Same H H1) : OutF K C f d H1 E := fun H' dd u e' => h H' dd u (e.trans e')
theorem rz_f {K : PySem.W.Frag} {C : Addr} {f : Str} {d : PyData} {H H1 : Hp} {E : XK} {v : V} {σ : L2.St} (h : OutF K C f d H E) (e : Same H H1) (hv : Dp K H1 v d) : rzQ C f (fun cls d _ H => E cls d H) σ v H1 := rz_ok fun dd hd => h _ dd v (e.then_new hd) (hv.to (Same.new hd)) upd_same
def OutW (C : Addr) (f : Str) (v : V) (H : Hp) (E : XK) : Prop := ∀ H' dd, Same H H' → H' dd = some (.xd [(f, v)]) → E (.ref C) (some dd) H'
theorem rz_w {C : Addr} {f : Str} {H H1 : Hp} {E : XK} {v : V} {σ : L2.St} (h : OutW C f v H E) (e : Same H H1) : rzQ C f (fun cls d _ H => E cls d H) σ v H1 := rz_ok fun dd hd => h _ dd (e.then_new hd) upd_same

theorem noList_ints (xs : List Int) : noList (intsD xs) = true := noListAll_of fun x hx => by
  obtain ⟨i, _, rfl⟩ := List.mem_map.mp hx
  rfl
/-! ### what a tuple of told data is -/
theorem tup_view {K : PySem.W.Frag} {H : Hp} {α : Type} {f : α → PyData} {xs : List α} {v : V} (h : Dp K H v (.tuple (xs.map f))) : ∃ p zs, v = .ref p ∧ SqT K H p zs ∧ zs.length = xs.length ∧ (∀ (i : Nat) z, zs[i]? = some z → ∃ x, xs[i]? = some x ∧ Dp K H z (f x)) ∧ DpAll K H zs (xs.map f) := by
  obtain ⟨p, zs, rfl, hs, ha⟩ := h.tup_inv
  have hl := ha.length
  rw [List.length_map] at hl
  refine ⟨p, zs, rfl, hs, hl, fun i z hz => ?_, ha⟩
  obtain ⟨d, h1, h2⟩ := ha.getV hz
  rw [List.getElem?_map] at h1
  cases e : xs[i]? with
  | none => rw [e] at h1; cases h1
  | some x =>
    rw [e] at h1
    cases h1
    exact ⟨x, rfl, h2⟩
theorem row_view {K : PySem.W.Frag} {H : Hp} {v : V} {ns : List Nat} (h : Dp K H v (rowD ns)) : ∃ p, v = .ref p ∧ SqT K H p ((nI ns).map V.int) := h.ints_tup
theorem row_of {K : PySem.W.Frag} {H : Hp} {p : Addr} {ns : List Nat} (h : SqT K H p ((nI ns).map V.int)) : Dp K H (.ref p) (rowD ns) := Dp.tup_ints h
theorem nI_get {ns : List Nat} {i : Nat} {x : V} (h : ((nI ns).map V.int)[i]? = some x) : ∃ n, ns[i]? = some n ∧ x = .int (n : Nat) := by
  unfold nI at h
  rw [List.map_map, List.getElem?_map] at h
  cases e : ns[i]? with
  | none => rw [e] at h; cases h
  | some n => rw [e] at h; cases h; exact ⟨n, rfl, rfl⟩
theorem nI_app (a b : List Nat) : nI (a ++ b) = nI a ++ nI b := List.map_append
end Ws
/-! ## C27 -/
namespace Ws
open PySem PySem.Spec PyProof.Rows L2 LamX
/-! ### data that is drawn: what an expression that draws may make -/
theorem Tabs.sbt {T : List (Addr × Str)} {a l c : Addr} {m : Nat} {H H' : Hp} (t : Tabs T H) (s : LSt H a l c m) (e : Sbt a l H H') : Tabs T H' := fun x hx => by
  obtain ⟨ps, h1, h2, h3⟩ := t x hx
  obtain ⟨cs, ls, k, S⟩ := s
  refine ⟨ps, e _ _ h1 (fun z => by rw [z, S.top] at h1; cases h1) (fun z => by rw [z, S.lefts] at h1; cases h1), h2, fun pos cv hc => ?_⟩
  obtain ⟨c, e1, e2⟩ := h3 pos cv hc
  exact ⟨c, e1, e _ _ e2 (fun z => by rw [z, S.top] at e2; cases e2) (fun z => by rw [z, S.lefts] at e2; cases e2)⟩
def GX (S : List Addr) (H H' : Hp) : Prop := ExtN (hid S H) (hid S H') ∧ ∀ T, Tabs T H → Tabs T H'
theorem GX.refl {S : List Addr} (H : Hp) : GX S H H := ⟨ExtN.refl _, fun _ t => t⟩
theorem GX.trans {S : List Addr} {H H1 H2 : Hp} (a : GX S H H1) (b : GX S H1 H2) : GX S H H2 := ⟨ExtN.trans a.1 b.1, fun T t => b.2 T (a.2 T t)⟩
theorem GX.of {S : List Addr} {H H1 : Hp} (e : Same H H1) : GX S H H1 := ⟨hid_ext (Same.extN e), fun T t => Tabs.same t e⟩
theorem GX.new {S : List Addr} {H : Hp} {p : Addr} {o : HO} (h : H p = none) : GX S H (upd H p o) := GX.of (Same.new h)
theorem gx_sbt {a l c : Addr} {m : Nat} {H H1 : Hp} (s : LSt H a l c m) (e : Sbt a l H H1) : GX [a, l] H H1 := ⟨fun b o h n => by
  unfold hid at h ⊢
  split at h
  · cases h
  · rename_i m
    rw [if_neg m]
    simp only [List.mem_cons, List.not_mem_nil, or_false, not_or] at m
    exact e b o h m.1 m.2, fun T t => Tabs.sbt t s e⟩
theorem lst_st {H : Hp} {a l c : Addr} {m : Nat} (h : LSt H a l c m) : Lsts [a, l] H := fun b hb => by
  obtain ⟨cs, ls, k, S⟩ := h
  simp only [List.mem_cons, List.not_mem_nil, or_false] at hb
  rcases hb with rfl | rfl
  · exact ⟨_, S.top, .inr ⟨_, rfl⟩⟩
  · exact ⟨_, S.lefts, .inl ⟨_, rfl⟩⟩
section
variable {K : PySem.W.Frag} {S : List Addr} {H H1 : Hp}
theorem _root_.L2.Dp.gx {v : V} {d : PyData} (h : Dp K (hid S H) v d) (e : GX S H H1) : Dp K (hid S H1) v d := Dp.ext e.1 d v h
theorem _root_.L2.DpAll.gx {v : List V} {d : List PyData} (h : DpAll K (hid S H) v d) (e : GX S H H1) : DpAll K (hid S H1) v d := Dp.exts e.1 d v h
end
section
variable (K : PySem.W.Frag) (a l c : Addr)
def DW (s : Nat) (te : TE) (σ : L2.St) (H : Hp) (P : PyData → Prop) : Prop := ∀ H1 m, GX [a, l] H H1 → LSt H1 a l c m → m + s ≤ 1000000 → ∀ Q : VK, (∀ H' v d, GX [a, l] H1 H' → LSt H' a l c (m + s) → P d → Dp K (hid [a, l] H') v d → Q v H') → te σ H1 Q
def DWs (s : Nat) (ta : TA) (σ : L2.St) (H : Hp) (P : List PyData → Prop) : Prop := ∀ H1 m, GX [a, l] H H1 → LSt H1 a l c m → m + s ≤ 1000000 → ∀ Q : List V → Hp → Prop, (∀ H' vs ds, GX [a, l] H1 H' → LSt H' a l c (m + s) → P ds → DpAll K (hid [a, l] H') vs ds → Q vs H') → ta σ H1 Q
end
def OW (to : TO) (σ : L2.St) (o : Option Int) : Prop := ∀ H Q, Q o H → to σ H Q
theorem OW.no {σ : L2.St} : OW tNoPart σ none := fun _ _ q => q
theorem OW.int {σ : L2.St} {i : Int} : OW (tPart (tC (.int i))) σ (some i) := fun _ _ q => ⟨i, rfl, q⟩
theorem OW.neg {σ : L2.St} {i : Int} : OW (tPart (tUn (rU fun i => V.int (-i)) (tC (.int i)))) σ (some (-i)) := fun _ _ q => ⟨i, rfl, -i, rfl, q⟩
theorem OW.var {σ : L2.St} {j : Nat} {i : Int} (h : σ[j]? = some (some (.int i))) : OW (tPart (tVar j)) σ (some i) := fun _ _ q => ⟨_, h, i, rfl, q⟩
theorem OW.add {σ : L2.St} {j : Nat} {i k : Int} (h : σ[j]? = some (some (.int i))) : OW (tPart (tOp (rI0 fun i j => V.int (i + j)) (tVar j) (tC (.int k)))) σ (some (i + k)) := fun _ _ q => ⟨_, h, i, k, rfl, rfl, i + k, rfl, q⟩
def cutD (xs : List PyData) (lo hi : Option Int) : List PyData := (xs.drop (HT.sIx xs.length 0 lo)).take (HT.sIx xs.length xs.length hi - HT.sIx xs.length 0 lo)
section
variable {K : PySem.W.Frag} {a l c : Addr} {s s1 s2 : Nat} {te ta tb : TE} {tas : TA} {σ : L2.St} {H : Hp} {P R : PyData → Prop} {Ps : List PyData → Prop}
theorem cut_dp {H : Hp} {xs : List V} {ds : List PyData} (h : DpAll K H xs ds) (lo hi : Option Int) : DpAll K H (cutV xs lo hi) (cutD ds lo hi) := by
  unfold cutV cutD
  rw [h.length]
  exact (h.drop _).take _
theorem DW.mono (h : DW K a l c s te σ H P) (hp : ∀ d, P d → R d) (hs : s ≤ s1 := by omega) : DW K a l c s1 te σ H R := fun H1 m g t b Q q => h H1 m g t (by omega) Q fun H' v d g2 t2 p hv => q H' v d g2 (t2.mono (by omega)) (hp d p) hv
theorem DW.int {i : Int} : DW K a l c 0 (tC (.int i)) σ H (· = .int i) := fun H1 m _ t _ Q q => q H1 _ _ (GX.refl _) t rfl (.int i)
theorem DW.str {x : Str} : DW K a l c 0 (tC (.str x)) σ H (· = .str x) := fun H1 m _ t _ Q q => q H1 _ _ (GX.refl _) t rfl (.str x)
theorem DW.bl {b : Bool} : DW K a l c 0 (tC (.bl b)) σ H (· = .bool b) := fun H1 m _ t _ Q q => q H1 _ _ (GX.refl _) t rfl (.bl b)
theorem DW.non : DW K a l c 0 (tC .non) σ H (· = .none) := fun H1 m _ t _ Q q => q H1 _ _ (GX.refl _) t rfl .non
theorem DW.var {i : Nat} {v : V} {d : PyData} (h : σ[i]? = some (some v)) (hd : Dp K (hid [a, l] H) v d) : DW K a l c 0 (tVar i) σ H (· = d) := fun H1 m g t _ Q q => ⟨v, h, q H1 v d (GX.refl _) t rfl (hd.gx g)⟩
theorem DWs.nil : DWs K a l c 0 tNil σ H (· = []) := fun H1 m _ t _ Q q => q H1 [] [] (GX.refl _) t rfl .nil
theorem DWs.cons (x : DW K a l c s1 te σ H P) (y : DWs K a l c s2 tas σ H Ps) : DWs K a l c (s1 + s2) (tCons te tas) σ H (fun ds => ∃ d es, ds = d :: es ∧ P d ∧ Ps es) := fun H1 m g t b Q q =>
  x H1 m g t (by omega) _ fun H2 v d g2 t2 p hv => y H2 _ (g.trans g2) t2 (by omega) _ fun H3 vs es g3 t3 ps hs => q H3 (v :: vs) (d :: es) (g2.trans g3) (t3.mono (by omega)) ⟨d, es, rfl, p, ps⟩ (.cons (hv.gx g3) hs)
theorem DWs.one (x : DW K a l c s te σ H P) : DWs K a l c s (tCons te tNil) σ H (fun ds => ∃ d, ds = [d] ∧ P d) := fun H1 m g t b Q q =>
  x H1 m g t b _ fun H2 v d g2 t2 p hv => q H2 [v] [d] g2 t2 ⟨d, rfl, p⟩ (.cons hv .nil)
theorem DW.tup (x : DWs K a l c s tas σ H Ps) (hl : ∀ ds, Ps ds → ds.length ≤ 100000) : DW K a l c s (tTup tas) σ H (fun d => ∃ ds, d = .tuple ds ∧ Ps ds) := fun H1 m g t b Q q =>
  x H1 m g t b _ fun H2 vs ds g2 t2 p hs => ⟨by have := hl ds p; rw [hs.length, sizeLine_eq]; omega, fun r hr => q _ _ _ (g2.trans (GX.new hr)) (t2.new hr) ⟨ds, rfl, p⟩ (.tup (seqT_hid (lst_st (t2.new hr)) (.of upd_same)) (hs.gx (GX.new hr)))⟩
theorem DW.cat (x : DW K a l c s1 ta σ H P) (y : DW K a l c s2 tb σ H R) (hp : ∀ d, P d → ∃ ds, d = .tuple ds ∧ ds.length ≤ 100000) (hr : ∀ d, R d → ∃ ds, d = .tuple ds ∧ ds.length ≤ 100000) :
    DW K a l c (s1 + s2) (tOp (rCatA K) ta tb) σ H (fun d => ∃ ds es, d = .tuple (ds ++ es) ∧ P (.tuple ds) ∧ R (.tuple es)) := fun H1 m g t b Q q =>
  x H1 m g t (by omega) _ fun H2 v d g2 t2 p hv => y H2 _ (g.trans g2) t2 (by omega) _ fun H3 u e g3 t3 r hu => by
    obtain ⟨ds, rfl, hl1⟩ := hp d p
    obtain ⟨es, rfl, hl2⟩ := hr e r
    obtain ⟨p1, xs, rfl, hs1, ha1⟩ := hv.tup_inv
    obtain ⟨p2, ys, rfl, hs2, ha2⟩ := hu.tup_inv
    refine cat_ok (seqTE hid_out (seqTE g3.1 hs1)) (seqTE hid_out hs2) (by rw [ha1.length, ha2.length, sizeLine_eq]; omega) fun r1 H4 e4 h4 => ?_
    have t4 := t3.same e4
    exact q _ _ _ ((g2.trans g3).trans (GX.of e4)) (t4.mono (by omega)) ⟨ds, es, rfl, p, r⟩ (.tup (seqT_hid (lst_st t4) h4) ((ha1.gx (g3.trans (GX.of e4))).append (ha2.gx (GX.of e4))))
theorem DW.cut {lo hi : Option Int} {to tu : TO} (x : DW K a l c s te σ H P) (h1 : OW to σ lo) (h2 : OW tu σ hi) (hp : ∀ d, P d → ∃ ds, d = .tuple ds) :
    DW K a l c s (L2.tSl (rSlA K) te to tu) σ H (fun d => ∃ ds, d = .tuple (cutD ds lo hi) ∧ P (.tuple ds)) := fun H1 m g t b Q q =>
  x H1 m g t b _ fun H2 v d g2 t2 p hv => h1 _ _ (h2 _ _ (by
    obtain ⟨ds, rfl⟩ := hp d p
    obtain ⟨p1, xs, rfl, hs1, ha1⟩ := hv.tup_inv
    refine sl_ok (seqTE hid_out hs1) fun r1 H4 e4 h4 => ?_
    have t4 := t2.same e4
    exact q _ _ _ (g2.trans (GX.of e4)) t4 ⟨ds, rfl, p⟩ (.tup (seqT_hid (lst_st t4) h4) ((cut_dp ha1 lo hi).gx (GX.of e4)))))
theorem at_dp {H : Hp} {xs : List V} {ds : List PyData} {i : Int} {d : PyData} (h : DpAll K H xs ds) (e : atI ds i = some d) : ∃ x, atI xs i = some x ∧ Dp K H x d := by
  unfold atI at e ⊢
  rw [h.length]
  cases hi : ixN ds.length i with
  | none => rw [hi] at e; cases e
  | some j =>
    rw [hi] at e
    have hj : j < ds.length := (List.getElem?_eq_some_iff.mp (show ds[j]? = some d from e)).1
    obtain ⟨x, hx, _, hd⟩ := h.at_ hj
    refine ⟨x, hx, ?_⟩
    have e2 : ds[j]? = some d := e
    have : ds.getD j .none = d := by rw [List.getD_eq_getElem?_getD, e2]; rfl
    rwa [this] at hd
theorem DW.ixv {i : Nat} {k : Int} {v : V} {ds : List PyData} {d : PyData} {ti : TE} (h : σ[i]? = some (some v)) (hd : Dp K (hid [a, l] H) v (.tuple ds)) (e : atI ds k = some d) (hti : ∀ H (Q : VK), Q (.int k) H → ti σ H Q) : DW K a l c 0 (tOp (rIxT K) (tVar i) ti) σ H (· = d) := fun H1 m g t _ Q q => by
  obtain ⟨p1, xs, rfl, hs1, ha1⟩ := (hd.gx g).tup_inv
  obtain ⟨x, hx, hdx⟩ := at_dp ha1 e
  exact ⟨_, h, hti _ _ ⟨p1, xs, k, x, rfl, rfl, seqTE hid_out hs1, hx, q H1 x d (GX.refl _) t rfl hdx⟩⟩
theorem DW.draw {i : Nat} {lim : Int} {ti : TE} (h : σ[i]? = some (some (.ref a))) (hti : ∀ H (Q : VK), Q (.int lim) H → ti σ H Q) (h1 : 1 ≤ lim) (h2 : lim < 2 ^ 220) : DW K a l c 1 (tCa spDrawW E0 (tCons (tVar i) (tCons ti tNil))) σ H (fun d => ∃ r, d = .int r ∧ 0 ≤ r ∧ r < lim) := fun H1 m g t b Q q =>
  ⟨_, h, hti _ _ ⟨a, l, c, m, lim, rfl, t, by omega, h1, h2, fun H' r e s r1 r2 => q H' _ _ (gx_sbt t e) s ⟨r, rfl, r1, r2⟩ (.int r)⟩⟩
theorem DW.of {i : Nat} (h : σ[i]? = some (some (.ref a))) (x : DWs K a l c s tas σ H Ps) (hl : ∀ ds, Ps ds → 1 ≤ ds.length ∧ ds.length ≤ 1000) : DW K a l c (s + 1) (tCa spOf E0 (tCons (tVar i) (tCons (tLst tas) tNil))) σ H (fun d => ∃ ds, Ps ds ∧ d ∈ ds) := fun H1 m g t b Q q =>
  ⟨_, h, x H1 m g t (by omega) _ fun H2 vs ds g2 t2 p hs => by
    have hl2 := hl ds p
    refine ⟨by rw [hs.length, sizeLine_eq]; omega, fun r hr => ?_⟩
    obtain ⟨ra, rl, rc⟩ := t2.off hr
    refine ⟨a, l, c, r, _, vs, rfl, t2.new hr, by omega, upd_same, ra, rl, by rw [hs.length]; omega, by rw [hs.length]; omega, fun H' y e s' hy => ?_⟩
    obtain ⟨j, hj⟩ := List.mem_iff_getElem?.mp hy
    obtain ⟨d, hd1, hd2⟩ := hs.getV hj
    exact q H' y d ((g2.trans (GX.new hr)).trans (gx_sbt (t2.new hr) e)) (s'.mono (by omega)) ⟨ds, p, List.mem_of_getElem? hd1⟩ (hd2.gx ((GX.new hr).trans (gx_sbt (t2.new hr) e)))⟩
theorem DW.list (x : DW K a l c s te σ H P) (hp : ∀ d, P d → ∃ ds, d = .tuple ds) :
    DW K a l c s (tCB (fun xs H Q => ∃ p ys, xs = [.ref p] ∧ (SqL K H p ys ∨ SqT K H p ys) ∧ ∀ l, H l = none → Q (.ref l) (upd H l (.lst ys))) (tCons te tNil)) σ H (fun d => ∃ ds, d = .list ds ∧ P (.tuple ds)) := fun H1 m g t b Q q =>
  x H1 m g t b _ fun H2 v d g2 t2 p hv => by
    obtain ⟨ds, rfl⟩ := hp d p
    obtain ⟨p1, xs, rfl, hs1, ha1⟩ := hv.tup_inv
    refine ⟨p1, xs, rfl, .inr (seqTE hid_out hs1), fun r hr => q _ _ _ (g2.trans (GX.new hr)) (t2.new hr) ⟨ds, rfl, p⟩ (.lst (.of ?_) (ha1.gx (GX.new hr)))⟩
    obtain ⟨ra, rl, rc⟩ := t2.off hr
    unfold hid
    rw [if_neg (by simp [ra, rl])]
    exact upd_same
theorem rep_dp {H : Hp} {xs : List V} {ds : List PyData} (h : DpAll K H xs ds) : ∀ n : Nat, DpAll K H (List.replicate n xs).flatten (List.replicate n ds).flatten
  | 0 => .nil
  | n + 1 => by rw [List.replicate_succ, List.replicate_succ, List.flatten_cons, List.flatten_cons]; exact h.append (rep_dp h n)
theorem DW.rep {k : Int} (x : DW K a l c s te σ H P) (hp : ∀ d, P d → ∃ ds, d = .tuple ds ∧ ds.length ≤ 1000) (h1 : 2 ≤ k := by decide) (h2 : k ≤ 1000 := by decide) :
    DW K a l c s (tOp (rRepA K) te (tC (.int k))) σ H (fun d => ∃ ds, d = .tuple (List.replicate k.toNat ds).flatten ∧ P (.tuple ds)) := fun H1 m g t b Q q =>
  x H1 m g t b _ fun H2 v d g2 t2 p hv => by
    obtain ⟨ds, rfl, hl⟩ := hp d p
    obtain ⟨p1, xs, rfl, hs1, ha1⟩ := hv.tup_inv
    have hxl := ha1.length
    refine ⟨p1, k, xs, rfl, rfl, seqTE hid_out hs1, h1, h2, by omega, fun e => ?_, fun _ r hr => ?_⟩
    · subst e
      cases ha1
      refine q _ _ _ g2 t2 ⟨[], rfl, p⟩ (.tup (xs := []) hs1 ?_)
      rw [show (List.replicate k.toNat ([] : List PyData)).flatten = [] by simp]
      exact .nil
    · refine q _ _ _ (g2.trans (GX.new hr)) (t2.new hr) ⟨ds, rfl, p⟩ (.tup (seqT_hid (lst_st (t2.new hr)) (.of upd_same)) ?_)
      exact rep_dp (ha1.gx (GX.new hr)) _
theorem DWs.consE {d : PyData} {ds : List PyData} (x : DW K a l c s1 te σ H (· = d)) (y : DWs K a l c s2 tas σ H (· = ds)) : DWs K a l c (s1 + s2) (tCons te tas) σ H (· = d :: ds) := fun H1 m g t b Q q =>
  DWs.cons x y H1 m g t b Q fun H' vs es g2 t2 ⟨d', es', e1, e2, e3⟩ hs => q H' vs es g2 t2 (by rw [e1, e2, e3]) hs
theorem DWs.consC {d : PyData} {ds : List PyData} (x : DW K a l c 0 te σ H (· = d)) (y : DWs K a l c 0 tas σ H (· = ds)) : DWs K a l c 0 (tCons te tas) σ H (· = d :: ds) := DWs.consE x y
theorem DW.neg {i : Int} : DW K a l c 0 (tUn (rU fun i => V.int (-i)) (tC (.int i))) σ H (· = .int (-i)) := fun H1 m _ t _ Q q => ⟨i, rfl, q H1 _ _ (GX.refl _) t rfl (.int (-i))⟩
theorem DW.pick {i : Nat} {ds : List PyData} (h : σ[i]? = some (some (.ref a))) (x : DWs K a l c s tas σ H (· = ds)) (h1 : 1 ≤ ds.length := by exact Nat.le_of_ble_eq_true rfl) (h2 : ds.length ≤ 1000 := by exact Nat.le_of_ble_eq_true rfl) : DW K a l c (s + 1) (tCa spOf E0 (tCons (tVar i) (tCons (tLst tas) tNil))) σ H (· ∈ ds) :=
  (DW.of h x fun es e => by rw [e]; exact ⟨h1, h2⟩).mono fun d ⟨es, e, m⟩ => by rw [← e]; exact m
theorem DW.tupE {ds : List PyData} (x : DWs K a l c s tas σ H (· = ds)) (hl : ds.length ≤ 100000 := by exact Nat.le_of_ble_eq_true rfl) : DW K a l c s (tTup tas) σ H (· = .tuple ds) :=
  (DW.tup x fun es e => by rw [e]; exact hl).mono fun d ⟨es, e, e2⟩ => by rw [e, e2]
theorem DW.listE {ds : List PyData} (x : DW K a l c s te σ H (· = .tuple ds)) :
    DW K a l c s (tCB (fun xs H Q => ∃ p ys, xs = [.ref p] ∧ (SqL K H p ys ∨ SqT K H p ys) ∧ ∀ l, H l = none → Q (.ref l) (upd H l (.lst ys))) (tCons te tNil)) σ H (· = .list ds) :=
  (DW.list x fun d e => ⟨ds, e⟩).mono fun d ⟨es, e, e2⟩ => by rw [e, PyData.tuple.inj e2]
theorem DW.ix {k : Int} {ds : List PyData} {d : PyData} {ti : TE} (x : DW K a l c s te σ H (· = .tuple ds)) (e : atI ds k = some d) (hti : ∀ H (Q : VK), Q (.int k) H → ti σ H Q) : DW K a l c s (tOp (rIxT K) te ti) σ H (· = d) := fun H1 m g t b Q q =>
  x H1 m g t b _ fun H2 v d' g2 t2 p hv => by
    subst p
    obtain ⟨p1, xs, rfl, hs1, ha1⟩ := hv.tup_inv
    obtain ⟨y, hx, hdx⟩ := at_dp ha1 e
    exact hti _ _ ⟨p1, xs, k, y, rfl, rfl, seqTE hid_out hs1, hx, q H2 y d g2 t2 rfl hdx⟩
theorem DW.addk {i k : Int} (x : DW K a l c s te σ H (· = .int i)) : DW K a l c s (tOp (rI0 fun i j => V.int (i + j)) te (tC (.int k))) σ H (· = .int (i + k)) := fun H1 m g t b Q q =>
  x H1 m g t b _ fun H2 v d' g2 t2 p hv => by
    subst p
    obtain rfl := hv.int_inv
    exact ⟨i, k, rfl, rfl, q H2 _ _ g2 t2 rfl (.int _)⟩
theorem DW.drawW {i : Nat} {lim : Int} {ti : TE} (h : σ[i]? = some (some (.ref a))) (x : DW K a l c 0 ti σ H (· = .int lim)) (h1 : 1 ≤ lim) (h2 : lim < 2 ^ 220) : DW K a l c 1 (tCa spDrawW E0 (tCons (tVar i) (tCons ti tNil))) σ H (fun d => ∃ r, d = .int r ∧ 0 ≤ r ∧ r < lim) := fun H1 m g t b Q q =>
  ⟨_, h, x H1 m g t (by omega) _ fun H2 v d g2 t2 p hv => by
    subst p
    obtain rfl := hv.int_inv
    exact ⟨a, l, c, m, lim, rfl, t2, by omega, h1, h2, fun H' r e s r1 r2 => q H' _ _ (g2.trans (gx_sbt t2 e)) s ⟨r, rfl, r1, r2⟩ (.int r)⟩⟩
theorem DW.len {ds : List PyData} (x : DW K a l c s te σ H (· = .tuple ds)) : DW K a l c s (tCB (fun xs H Q => ∃ p ys, xs = [.ref p] ∧ (SqL K H p ys ∨ SqT K H p ys) ∧ Q (.int ys.length) H) (tCons te tNil)) σ H (· = .int ds.length) := fun H1 m g t b Q q =>
  x H1 m g t b _ fun H2 v d g2 t2 p hv => by
    subst p
    obtain ⟨p1, xs, rfl, hs1, ha1⟩ := hv.tup_inv
    exact ⟨p1, xs, rfl, .inr (seqTE hid_out hs1), q H2 _ _ g2 t2 (by rw [ha1.length]) (.int _)⟩
theorem DW.repE {k : Int} {ds : List PyData} (x : DW K a l c s te σ H (· = .tuple ds)) (hl : ds.length ≤ 1000) (h1 : 2 ≤ k := by decide) (h2 : k ≤ 1000 := by decide) :
    DW K a l c s (tOp (rRepA K) te (tC (.int k))) σ H (· = .tuple (List.replicate k.toNat ds).flatten) :=
  (DW.rep x (fun d e => ⟨ds, e, hl⟩) h1 h2).mono fun d ⟨es, e, e2⟩ => by rw [e, PyData.tuple.inj e2]
theorem DW.catE {ds es : List PyData} (x : DW K a l c s1 ta σ H (· = .tuple ds)) (y : DW K a l c s2 tb σ H (· = .tuple es)) (h1 : ds.length ≤ 100000) (h2 : es.length ≤ 100000) :
    DW K a l c (s1 + s2) (tOp (rCatA K) ta tb) σ H (· = .tuple (ds ++ es)) :=
  (DW.cat x y (fun d e => ⟨ds, e, h1⟩) (fun d e => ⟨es, e, h2⟩)).mono fun d ⟨xs, ys, e, e2, e3⟩ => by rw [e, PyData.tuple.inj e2, PyData.tuple.inj e3]
theorem DW.cutE {ds : List PyData} {lo hi : Option Int} {to tu : TO} (x : DW K a l c s te σ H (· = .tuple ds)) (h1 : OW to σ lo) (h2 : OW tu σ hi) :
    DW K a l c s (L2.tSl (rSlA K) te to tu) σ H (· = .tuple (cutD ds lo hi)) := (DW.cut x h1 h2 (fun d e => ⟨_, e⟩)).mono fun d ⟨es, e, e2⟩ => by rw [e, PyData.tuple.inj e2]
theorem DW.repB {k : Int} {ds : List PyData} (x : DW K a l c s1 te σ H (· = .tuple ds)) (y : DW K a l c s2 tb σ H (· = .int k)) (hl : ds.length ≤ 1000) (h1 : 1 ≤ k) (h2 : k ≤ 1000) :
    DW K a l c (s1 + s2) (tOp (rRepB K) te tb) σ H (· = .tuple (List.replicate k.toNat ds).flatten) := fun H1 m g t b Q q =>
  x H1 m g t (by omega) _ fun H2 v d g2 t2 p hv => y H2 _ (g.trans g2) t2 (by omega) _ fun H3 u e g3 t3 r hu => by
    subst p r
    obtain rfl := hu.int_inv
    have hv3 := hv.gx g3
    obtain ⟨p1, xs, rfl, hs1, ha1⟩ := hv3.tup_inv
    have hxl := ha1.length
    refine ⟨p1, k, xs, rfl, rfl, seqTE hid_out hs1, h1, h2, by omega, fun e => ?_, fun _ _ r hr => ?_⟩
    · refine q _ _ _ (g2.trans g3) (t3.mono (by omega)) rfl (.tup (xs := xs) hs1 ?_)
      rcases e with rfl | rfl
      · cases ha1
        rw [show (List.replicate k.toNat ([] : List PyData)).flatten = [] by simp]
        exact .nil
      · rw [show (List.replicate (Int.toNat 1) ds).flatten = ds by simp]
        exact ha1
    · exact q _ _ _ ((g2.trans g3).trans (GX.new hr)) ((t3.new hr).mono (by omega)) rfl (.tup (seqT_hid (lst_st (t3.new hr)) (.of upd_same)) (rep_dp (ha1.gx (GX.new hr)) _))
theorem DW.repL {k : Int} {ds : List PyData} (x : DWs K a l c s1 tas σ H (· = ds)) (y : DW K a l c s2 tb σ H (· = .int k)) (hl : ds.length ≤ 1000) (h1 : 1 ≤ k) (h2 : k ≤ 1000) :
    DW K a l c (s1 + s2) (tOp rRep (tLst tas) tb) σ H (· = .list (List.replicate k.toNat ds).flatten) := fun H1 m g t b Q q =>
  x H1 m g t (by omega) _ fun H2 vs es g2 t2 p hs => by
    subst p
    refine ⟨by rw [hs.length, sizeLine_eq]; omega, fun r hr => y _ _ (g.trans (g2.trans (GX.new hr))) (t2.new hr) (by omega) _ fun H3 u e g3 t3 re hu => ?_⟩
    subst re
    obtain rfl := hu.int_inv
    obtain ⟨ra, rl, rc⟩ := t2.off hr
    have h0 : hid [a, l] (upd H2 r (.lst vs)) r = some (.lst vs) := by
      unfold hid
      rw [if_neg (by simp [ra, rl])]
      exact upd_same
    have h3 : H3 r = some (.lst vs) := hid_out _ _ (g3.1 _ _ h0 (fun ps z => by cases z)) (fun ps z => by cases z)
    have hk : k.toNat ≤ 1000 := by omega
    have hm : vs.length * k.toNat ≤ 1000 * 1000 := Nat.mul_le_mul (by rw [hs.length]; exact hl) hk
    refine ⟨r, k, vs, rfl, rfl, h3, by omega, by omega, by rw [sizeLine_eq]; omega, fun q1 hq1 => q _ _ _ (((g2.trans (GX.new hr)).trans g3).trans (GX.new hq1)) ((t3.new hq1).mono (by omega)) rfl (.lst (.of ?_) (rep_dp (((hs.gx (GX.new hr)).gx g3).gx (GX.new hq1)) _))⟩
    obtain ⟨qa, ql, qc⟩ := t3.off hq1
    unfold hid
    rw [if_neg (by simp [qa, ql])]
    exact upd_same
/-! statements -/
theorem sw_val {i m : Nat} {u : TS} {D : Ends} (x : DW K a l c s te σ H P) (g : LSt H a l c m) (b : m + s ≤ 1000000) (q : ∀ H' v d, GX [a, l] H H' → LSt H' a l c (m + s) → P d → Dp K (hid [a, l] H') v d → u D (σ.set i (some v)) H') : tSeq (tAsg te (gName i)) u D σ H := x H m (GX.refl _) g b _ q
theorem sw_ret {m : Nat} {D : Ends} (x : DW K a l c s te σ H P) (g : LSt H a l c m) (b : m + s ≤ 1000000) (q : ∀ H' v d, GX [a, l] H H' → LSt H' a l c (m + s) → P d → Dp K (hid [a, l] H') v d → D.rt v H') : tRet te D σ H := x H m (GX.refl _) g b _ q
theorem sw_ifk {i : Nat} {k z : Int} {t u : TS} {D : Ends} (h : σ[i]? = some (some (.int z))) (y : z = k → t { D with nx := u D } σ H) (n : z ≠ k → u D σ H) : tSeq (tIfS (tTest (tOp rEq (tVar i) (tC (.int k)))) t tNext) u D σ H := by
  refine ⟨_, h, rfl, _, rfl, ?_⟩
  by_cases e : z = k
  · rw [decide_eq_true (by rw [e])]
    exact iteT (y e)
  · rw [decide_eq_false (fun w => e (V.int.inj w))]
    exact iteF (n e)
theorem sw_ifx {i : Nat} {k z : Int} {Q : VK} (h : σ[i]? = some (some (.int z))) (y : z = k → ta σ H Q) (n : z ≠ k → tb σ H Q) : tIf (tTest (tOp rEq (tVar i) (tC (.int k)))) ta tb σ H Q := by
  refine ⟨_, h, rfl, _, rfl, ?_⟩
  by_cases e : z = k
  · rw [decide_eq_true (by rw [e])]
    exact iteT (y e)
  · rw [decide_eq_false (fun w => e (V.int.inj w))]
    exact iteF (n e)
/-! tuples of small data -/
def TI (k : Nat) (d : PyData) : Prop := ∃ ds, d = .tuple ds ∧ ds.length ≤ k ∧ ∀ x ∈ ds, Sm 40 5 x
def TH (k : Nat) (d : PyData) : Prop := ∃ x ds, d = .tuple (x :: ds) ∧ (match x with | .list _ => false | .tuple _ => false | .dict _ => false | _ => true) = true ∧ ds.length + 1 ≤ k ∧ ∀ y ∈ x :: ds, Sm 40 5 y
theorem TH.ti {k : Nat} {d : PyData} (h : TH k d) : TI k d := let ⟨x, ds, e, _, l, s⟩ := h; ⟨x :: ds, e, l, s⟩
theorem DW.catI {k1 k2 : Nat} (x : DW K a l c s1 ta σ H (TI k1)) (y : DW K a l c s2 tb σ H (TI k2)) (h1 : k1 ≤ 100000 := by decide) (h2 : k2 ≤ 100000 := by decide) : DW K a l c (s1 + s2) (tOp (rCatA K) ta tb) σ H (TI (k1 + k2)) :=
  (DW.cat x y (fun d ⟨ds, e, hl, _⟩ => ⟨ds, e, by omega⟩) (fun d ⟨ds, e, hl, _⟩ => ⟨ds, e, by omega⟩)).mono fun d ⟨ds, es, e, ⟨ds1, e1, l1, s1⟩, ⟨es1, e2, l2, s2⟩⟩ => by
    obtain rfl := PyData.tuple.inj e1
    obtain rfl := PyData.tuple.inj e2
    exact ⟨ds ++ es, e, by rw [List.length_append]; omega, fun z hz => (List.mem_append.mp hz).elim (s1 z) (s2 z)⟩
theorem DW.catH {k1 k2 : Nat} (x : DW K a l c s1 ta σ H (TH k1)) (y : DW K a l c s2 tb σ H (TI k2)) (h1 : k1 ≤ 100000 := by decide) (h2 : k2 ≤ 100000 := by decide) : DW K a l c (s1 + s2) (tOp (rCatA K) ta tb) σ H (TH (k1 + k2)) :=
  (DW.cat x y (fun d h => let ⟨ds, e, hl, _⟩ := h.ti; ⟨ds, e, by omega⟩) (fun d ⟨ds, e, hl, _⟩ => ⟨ds, e, by omega⟩)).mono fun d ⟨ds, es, e, ⟨x, ds1, e1, f, l1, s1⟩, ⟨es1, e2, l2, s2⟩⟩ => by
    obtain rfl := PyData.tuple.inj e1
    obtain rfl := PyData.tuple.inj e2
    exact ⟨x, ds1 ++ es, e, f, by rw [List.length_append]; omega, fun z hz => (List.mem_append.mp (show z ∈ (x :: ds1) ++ es from hz)).elim (s1 z) (s2 z)⟩
theorem DW.tupI {k : Nat} (x : DWs K a l c s tas σ H Ps) (h : ∀ ds, Ps ds → ds.length ≤ k ∧ ∀ x ∈ ds, Sm 40 5 x) (hk : k ≤ 100000 := by decide) : DW K a l c s (tTup tas) σ H (TI k) :=
  (DW.tup x fun ds p => by have := (h ds p).1; omega).mono fun d ⟨ds, e, p⟩ => ⟨ds, e, (h ds p).1, (h ds p).2⟩
theorem DW.tupH {k : Nat} (x : DWs K a l c s tas σ H Ps) (h : ∀ ds, Ps ds → ds.length ≤ k ∧ (∀ x ∈ ds, Sm 40 5 x) ∧ ∃ y ys, ds = y :: ys ∧ (match y with | .list _ => false | .tuple _ => false | .dict _ => false | _ => true) = true) (hk : k ≤ 100000 := by decide) : DW K a l c s (tTup tas) σ H (TH k) :=
  (DW.tup x fun ds p => by have := (h ds p).1; omega).mono fun d ⟨ds, e, p⟩ => by
    obtain ⟨h1, h2, y, ys, rfl, f⟩ := h ds p
    exact ⟨y, ys, e, f, by simpa using h1, h2⟩
end
end Ws
/-! ## L27 -/
/-! a comprehension of two clauses, walked -/
namespace Ws
open PySem PySem.Spec PyProof.Rows L2
theorem lc2_out {J : L2.It} {n : Nat} {Gd : Hp → Prop} {Yd : Nat → Hp → V → Hp → Prop} (wk : Walk J n Gd Yd) {g : TG} {tt : TT} {wi1 : L2.TI} {g1 : TG} {tt1 : TT} {te : TE} {vs vs1 : List Nat} {σ : L2.St} {H1 : Hp} {D : Addr} {Fin : Hp → Prop} (P : Nat → Hp → Prop) (start : P 0 (upd H1 D (.lst []))) (keep : ∀ i H, i ≤ n → P i H → Gd H)
    (turn : ∀ i x H H', i < n → P i H → Yd i H x H' → g x (wipe σ vs) H' fun σ2 H2 => wipe σ2 vs = wipe σ vs ∧ tt σ2 H2 fun b H3 =>
      if b = true then wi1 σ2 H3 fun J1 H4 => ∃ W1 : Nat → Nat → Hp → Prop, (∃ m, W1 0 m H4) ∧ ∀ j k H, W1 j k H →
        (J1.stop j H ∧ P (i + 1) H) ∨ (J1.go j H ∧ ∃ Nx1 : Hp → Prop, (∀ H', Nx1 H' → ∃ k', k' < k ∧ W1 (j + 1) k' H') ∧ ∀ x H', J1.yld j H x H' → g1 x (wipe σ2 vs1) H' fun σ3 H5 => wipe σ3 vs1 = wipe σ2 vs1 ∧ tt1 σ3 H5 fun b H6 =>
          if b = true then te σ3 H6 fun y H7 => ∃ acc, H7 D = some (.lst acc) ∧ acc.length < sizeLine ∧ Nx1 (upd H7 D (.lst (acc ++ [y]))) else Nx1 H6)
      else P (i + 1) H3)
    (fin : ∀ H, P n H → Fin H) :
    ∃ W : Nat → Nat → Hp → Prop, (∃ m, W 0 m (upd H1 D (.lst []))) ∧ ∀ i m H, W i m H → (J.stop i H ∧ Fin H) ∨ (J.go i H ∧ ∃ Nx : Hp → Prop, (∀ H', Nx H' → ∃ m', m' < m ∧ W (i + 1) m' H') ∧ ∀ x H', J.yld i H x H' → g x (wipe σ vs) H' fun σ2 H2 => wipe σ2 vs = wipe σ vs ∧ tt σ2 H2 fun b H3 =>
      if b = true then wi1 σ2 H3 fun J1 H4 => ∃ W1 : Nat → Nat → Hp → Prop, (∃ m, W1 0 m H4) ∧ ∀ j k H, W1 j k H →
        (J1.stop j H ∧ Nx H) ∨ (J1.go j H ∧ ∃ Nx1 : Hp → Prop, (∀ H', Nx1 H' → ∃ k', k' < k ∧ W1 (j + 1) k' H') ∧ ∀ x H', J1.yld j H x H' → g1 x (wipe σ2 vs1) H' fun σ3 H5 => wipe σ3 vs1 = wipe σ2 vs1 ∧ tt1 σ3 H5 fun b H6 =>
          if b = true then te σ3 H6 fun y H7 => ∃ acc, H7 D = some (.lst acc) ∧ acc.length < sizeLine ∧ Nx1 (upd H7 D (.lst (acc ++ [y]))) else Nx1 H6)
      else Nx H3) := by
  refine ⟨fun i left H => left + i = n ∧ P i H, ⟨n, rfl, start⟩, fun i left H w => ?_⟩
  obtain ⟨sum, p⟩ := w
  by_cases more : i < n
  · exact .inr ⟨wk.goes i H more (keep i H (by omega) p), P (i + 1), fun H' p' => ⟨left - 1, by omega, by omega, p'⟩, fun x H' y => turn i x H H' more p (wk.yields i H x H' more (keep i H (by omega) p) y)⟩
  · obtain rfl : i = n := by omega
    exact .inl ⟨wk.stops H (keep i H (by omega) p), fin H p⟩
theorem lc2_in {J1 : L2.It} {n : Nat} {Gd : Hp → Prop} {Yd : Nat → Hp → V → Hp → Prop} (wk : Walk J1 n Gd Yd) {g1 : TG} {tt1 : TT} {te : TE} {vs1 : List Nat} {σ2 : L2.St} {H4 : Hp} {D : Addr} {Fin : Hp → Prop} (P : Nat → Hp → Prop) (start : P 0 H4) (keep : ∀ i H, i ≤ n → P i H → Gd H)
    (turn : ∀ j x H H', j < n → P j H → Yd j H x H' → g1 x (wipe σ2 vs1) H' fun σ3 H5 => wipe σ3 vs1 = wipe σ2 vs1 ∧ tt1 σ3 H5 fun b H6 =>
          if b = true then te σ3 H6 fun y H7 => ∃ acc, H7 D = some (.lst acc) ∧ acc.length < sizeLine ∧ P (j + 1) (upd H7 D (.lst (acc ++ [y]))) else P (j + 1) H6)
    (fin : ∀ H, P n H → Fin H) :
    ∃ W1 : Nat → Nat → Hp → Prop, (∃ m, W1 0 m H4) ∧ ∀ j k H, W1 j k H →
        (J1.stop j H ∧ Fin H) ∨ (J1.go j H ∧ ∃ Nx1 : Hp → Prop, (∀ H', Nx1 H' → ∃ k', k' < k ∧ W1 (j + 1) k' H') ∧ ∀ x H', J1.yld j H x H' → g1 x (wipe σ2 vs1) H' fun σ3 H5 => wipe σ3 vs1 = wipe σ2 vs1 ∧ tt1 σ3 H5 fun b H6 =>
          if b = true then te σ3 H6 fun y H7 => ∃ acc, H7 D = some (.lst acc) ∧ acc.length < sizeLine ∧ Nx1 (upd H7 D (.lst (acc ++ [y]))) else Nx1 H6) := by
  refine ⟨fun i left H => left + i = n ∧ P i H, ⟨n, by omega, start⟩, fun i left H w => ?_⟩
  obtain ⟨sum, p⟩ := w
  by_cases more : i < n
  · exact .inr ⟨wk.goes i H more (keep i H (by omega) p), P (i + 1), fun H' p' => ⟨left - 1, by omega, by omega, p'⟩, fun x H' y => turn i x H H' more p (wk.yields i H x H' more (keep i H (by omega) p) y)⟩
  · obtain rfl : i = n := by omega
    exact .inl ⟨wk.stops H (keep i H (by omega) p), fin H p⟩
/-- a comprehension of data that may hold new lists -/
theorem lcLN {K : PySem.W.Frag} {J : L2.It} {n : Nat} {G : Hp → Prop} {Y : Nat → Hp → V → Hp → Prop} (w : Walk J n G Y) {g : TG} {te : TE} {vs : List Nat} {σ : L2.St} {H1 : Hp} {D : Addr} {Qd : Hp → Prop} (hD : H1 D = none) (hn : n < sizeLine) (f : Nat → PyData)
    (hG : ∀ H, Same H1 H → G H)
    (hs : ∀ i x H H' (Q : VK), i < n → Same H1 H → H D ≠ none → Y i H x H' → (∀ y H4, Same H H4 → DpN H K H4 y (f i) → Q y H4) → g x (wipe σ vs) H' fun σ2 H2 => wipe σ2 vs = wipe σ vs ∧ te σ2 H2 Q)
    (hd : ∀ H ys, Same H1 H → H D = some (.lst ys) → ys.length = n → (∀ j y, ys[j]? = some y → DpN (upd H1 D (.lst [])) K H y (f j)) → Qd H) :
    ∃ W : Nat → Nat → Hp → Prop, (∃ m, W 0 m (upd H1 D (.lst []))) ∧ ∀ i m H, W i m H →
      (J.stop i H ∧ Qd H) ∨ (J.go i H ∧ ∃ Nx : Hp → Prop, (∀ H', Nx H' → ∃ m', m' < m ∧ W (i + 1) m' H') ∧ ∀ x H', J.yld i H x H' → g x (wipe σ vs) H' fun σ2 H2 => wipe σ2 vs = wipe σ vs ∧ tYes σ2 H2 fun b H3 =>
        if b = true then te σ2 H3 fun y H4 => ∃ acc, H4 D = some (.lst acc) ∧ acc.length < sizeLine ∧ Nx (upd H4 D (.lst (acc ++ [y]))) else Nx H3) := by
  let B0 : Hp := upd H1 D (.lst [])
  have hB : B0 D ≠ none := by show upd H1 D _ D ≠ none; rw [upd_same]; exact fun z => by cases z
  let Pv : Nat → Hp → Prop := fun i H => Same H1 H ∧ ∃ ys, H D = some (.lst ys) ∧ ys.length = i ∧ ∀ j y, ys[j]? = some y → DpN B0 K H y (f j)
  refine lc_it w Pv ⟨Same.new hD, [], upd_same, rfl, fun j y h => by simp at h⟩ (fun i H _ p => hG H p.1) (fun i x H H' hi p y => ?_) (fun H p => ?_)
  · obtain ⟨s, ys, hy, hl, hr⟩ := p
    have hDn : H D ≠ none := by rw [hy]; exact fun z => by cases z
    have q := hs i x H H' (fun y H4 => ∃ acc, H4 D = some (.lst acc) ∧ acc.length < sizeLine ∧ Pv (i + 1) (upd H4 D (.lst (acc ++ [y])))) hi s hDn y (fun v H4 s4 hv => ?_)
    · have e : (fun σ2 H2 => wipe σ2 vs = wipe σ vs ∧ tYes σ2 H2 fun b H3 =>
        if b = true then te σ2 H3 fun y H4 => ∃ acc, H4 D = some (.lst acc) ∧ acc.length < sizeLine ∧ Pv (i + 1) (upd H4 D (.lst (acc ++ [y]))) else Pv (i + 1) H3) =
        (fun σ2 H2 => wipe σ2 vs = wipe σ vs ∧ te σ2 H2 fun y H4 => ∃ acc, H4 D = some (.lst acc) ∧ acc.length < sizeLine ∧ Pv (i + 1) (upd H4 D (.lst (acc ++ [y])))) := by
        funext σ2 H2
        simp only [tYes, if_true]
      rw [e]
      exact q
    · have hy4 := s4 _ _ hy
      have kp : Kp B0 H4 (upd H4 D (.lst (ys ++ [v]))) := Kp.put hy4 hB
      refine ⟨ys, hy4, by omega, (Same.trans s s4).mut hD, _, upd_same, by simp [hl], fun j z hz => ?_⟩
      by_cases hj : j < ys.length
      · rw [List.getElem?_append_left hj] at hz
        exact ((hr j z hz).step (Kp.same s4)).step kp
      · rw [List.getElem?_append_right (by omega)] at hz
        have e : j = i := by
          have := (List.getElem?_eq_some_iff.mp hz).1
          simp at this
          omega
        subst e
        rw [hl, Nat.sub_self] at hz
        simp at hz
        rw [← hz]
        refine (hv.base fun b hb => ?_).step kp
        have nb : b ≠ D := fun z => hDn (by rw [← z]; exact hb)
        show upd H1 D _ b = none
        rw [upd_ne nb]
        cases e1 : H1 b with
        | none => rfl
        | some o => rw [s b o e1] at hb; cases hb
  · obtain ⟨s, ys, hy, hl, hr⟩ := p
    exact hd H ys s hy hl hr
theorem lcL {K : PySem.W.Frag} {J : L2.It} {n : Nat} {G : Hp → Prop} {Y : Nat → Hp → V → Hp → Prop} (w : Walk J n G Y) {g : TG} {te : TE} {vs : List Nat} {σ : L2.St} {H1 : Hp} {D : Addr} {Qd : Hp → Prop} (hD : H1 D = none) (hn : n < sizeLine) (f : Nat → PyData)
    (hG : ∀ H, Same H1 H → G H)
    (hs : ∀ i x H H' (Q : VK), i < n → Same H1 H → H D ≠ none → Y i H x H' → (∀ y H4, Same H H4 → DpN H K H4 y (f i) → Q y H4) → g x (wipe σ vs) H' fun σ2 H2 => wipe σ2 vs = wipe σ vs ∧ te σ2 H2 Q)
    (hd : ∀ H ys, Same H1 H → H D = some (.lst ys) → ys.length = n → DpAll K H ys ((List.range n).map f) → Qd H) :
    ∃ W : Nat → Nat → Hp → Prop, (∃ m, W 0 m (upd H1 D (.lst []))) ∧ ∀ i m H, W i m H →
      (J.stop i H ∧ Qd H) ∨ (J.go i H ∧ ∃ Nx : Hp → Prop, (∀ H', Nx H' → ∃ m', m' < m ∧ W (i + 1) m' H') ∧ ∀ x H', J.yld i H x H' → g x (wipe σ vs) H' fun σ2 H2 => wipe σ2 vs = wipe σ vs ∧ tYes σ2 H2 fun b H3 =>
        if b = true then te σ2 H3 fun y H4 => ∃ acc, H4 D = some (.lst acc) ∧ acc.length < sizeLine ∧ Nx (upd H4 D (.lst (acc ++ [y]))) else Nx H3) :=
  lcLN w hD hn f hG hs fun H ys s hy hl hr => by
    refine hd H ys s hy hl (dpAll_of (by rw [hl, List.length_map, List.length_range]) fun j y d h1 h2 => ?_)
    rw [List.getElem?_map] at h2
    have hj : j < n := by rw [← hl]; exact (List.getElem?_eq_some_iff.mp h1).1
    rw [List.getElem?_range hj] at h2
    cases h2
    exact (hr j y h1).dp
end Ws
/-! ## M27 -/
namespace Sq
abbrev Row := List Int
def dotp : Row → Row → Int
  | a :: w, b :: r => a * b + dotp w r
  | _, _ => 0
def addk (r o : Row) (k : Int) : Row := List.zipWith (fun n m => n + k * m) r o
def sgn (k : Nat) (x : Int) : Int := if k % 2 = 0 then x else -x
def minor (rows : List Row) (i j : Nat) : List Row := (rows.eraseIdx i).map (·.eraseIdx j)
def det : Nat → List Row → Int
  | 0, _ => 1
  | n + 1, rows => ((List.range (n + 1)).map fun j => (rows.getD 0 []).getD j 0 * sgn (0 + j) (det n (minor rows 0 j))).sum
def cof (n : Nat) (rows : List Row) (i j : Nat) : Int := sgn (i + j) (det n (minor rows i j))
def pick (ps : List Nat) (r : Row) : Row := ps.map fun p => r.getD p 0
def fromOf (e : List Nat) : Nat := match e.getLast? with | some l => l + 1 | none => 0
def chs (many : Nat) : Nat → List (List Nat)
  | 0 => [[]]
  | c + 1 => (chs many c).flatMap fun e => (List.range (many - fromOf e)).map fun k => e ++ [fromOf e + k]
def wFor (many : Nat) (ps : List Nat) (rows : List Row) (s : Int) (i : Nat) : Row :=
  (List.range ps.length).foldl (fun w j => w.set (ps.getD j 0) (if s > 0 then cof (ps.length - 1) rows i j else -cof (ps.length - 1) rows i j)) (List.replicate many 0)
structure Sqr where
  ps : List Nat
  size : Int
  ws : List Row
def sqAt (many : Nat) (pers : List Row) (ps : List Nat) : Option Sqr :=
  let rows := pers.map (pick ps)
  let s := det pers.length rows
  if s ≠ 0 then some ⟨ps, s.natAbs, (List.range pers.length).map fun i => wFor many ps rows s i⟩ else none
def sqOf (many : Nat) (pers : List Row) : Option Sqr := (chs many pers.length).findSome? (sqAt many pers)
def stp (act : List Row) (p : Nat) : List Row := match act.findIdx? (fun r => r.getD p 0 != 0) with
  | none => act
  | some h => ((act.set h (act.getD 0 [])).drop 1).map fun r => List.zipWith (fun m o => (act.getD h []).getD p 0 * m - r.getD p 0 * o) r (act.getD h [])
def freeB (rows : List Row) : Bool := ((List.range (rows.getD 0 []).length).foldl stp rows).isEmpty
/-! ### the law's elimination and the minors -/
theorem det1 (a : Int) (l : Row) : det 1 [a :: l] = a := by simp [det, sgn]
theorem det2 (a b c d : Int) : det 2 [[a, b], [c, d]] = a * d - b * c := by
  simp [det, sgn, minor, List.range_succ]; grind
theorem det3 (a b c d e f g h i : Int) : det 3 [[a, b, c], [d, e, f], [g, h, i]] = a * (e * i - f * h) - b * (d * i - f * g) + c * (d * h - e * g) := by
  simp [det, sgn, minor, List.range_succ, Int.mul_add, Int.mul_sub, Int.sub_eq_add_neg]; grind
def hasB (many : Nat) (pers : List Row) : Bool := (chs many pers.length).any fun ps => det pers.length (pers.map (pick ps)) != 0
theorem sq_isSome (many : Nat) (pers : List Row) : (sqOf many pers).isSome = hasB many pers := by
  unfold sqOf hasB
  induction chs many pers.length with
  | nil => rfl
  | cons ps l ih =>
    rw [List.findSome?_cons, List.any_cons]
    by_cases c : det pers.length (pers.map (pick ps)) = 0
    · have e : sqAt many pers ps = none := by unfold sqAt; simp [c]
      rw [e, ih, c]
      rfl
    · have e : ∃ q, sqAt many pers ps = some q := ⟨_, by unfold sqAt; simp only [ne_eq, c, not_false_eq_true, if_true]; rfl⟩
      obtain ⟨q, e⟩ := e
      rw [e]
      simp [c]
def el (n : Nat) (rows : List Row) : List Row := (List.range n).foldl stp rows
theorem stp_nil (p : Nat) : stp [] p = [] := rfl
theorem stp1 (r : Row) (p : Nat) : stp [r] p = if r.getD p 0 = 0 then [r] else [] := by
  unfold stp
  rw [List.findIdx?_cons]
  cases c : (r.getD p 0 != 0) with
  | true =>
    have : ¬ r.getD p 0 = 0 := by simpa using c
    rw [if_neg this]
    rfl
  | false =>
    have : r.getD p 0 = 0 := by simpa using c
    rw [if_pos this]
    rfl
def cut (p : Nat) (top r : Row) : Row := List.zipWith (fun m o => top.getD p 0 * m - r.getD p 0 * o) r top
theorem stp2 (r s : Row) (p : Nat) : stp [r, s] p = if r.getD p 0 = 0 then (if s.getD p 0 = 0 then [r, s] else [cut p s r]) else [cut p r s] := by
  unfold stp
  rw [List.findIdx?_cons, List.findIdx?_cons]
  cases c : (r.getD p 0 != 0) with
  | true =>
    have : ¬ r.getD p 0 = 0 := by simpa using c
    rw [if_neg this]
    rfl
  | false =>
    have : r.getD p 0 = 0 := by simpa using c
    rw [if_pos this]
    cases d : (s.getD p 0 != 0) with
    | true =>
      have : ¬ s.getD p 0 = 0 := by simpa using d
      rw [if_neg this]
      rfl
    | false =>
      have : s.getD p 0 = 0 := by simpa using d
      rw [if_pos this]
      rfl
theorem stp3 (r s t : Row) (p : Nat) : stp [r, s, t] p = if r.getD p 0 = 0 then (if s.getD p 0 = 0 then (if t.getD p 0 = 0 then [r, s, t] else [cut p t s, cut p t r]) else [cut p s r, cut p s t]) else [cut p r s, cut p r t] := by
  unfold stp
  rw [List.findIdx?_cons, List.findIdx?_cons, List.findIdx?_cons]
  cases c : (r.getD p 0 != 0) with
  | true =>
    have : ¬ r.getD p 0 = 0 := by simpa using c
    rw [if_neg this]
    rfl
  | false =>
    have : r.getD p 0 = 0 := by simpa using c
    rw [if_pos this]
    cases d : (s.getD p 0 != 0) with
    | true =>
      have : ¬ s.getD p 0 = 0 := by simpa using d
      rw [if_neg this]
      rfl
    | false =>
      have : s.getD p 0 = 0 := by simpa using d
      rw [if_pos this]
      cases e : (t.getD p 0 != 0) with
      | true =>
        have : ¬ t.getD p 0 = 0 := by simpa using e
        rw [if_neg this]
        rfl
      | false =>
        have : t.getD p 0 = 0 := by simpa using e
        rw [if_pos this]
        rfl
/-- what is left of rows below three, cleared at the places from p on -/
theorem pair_iff (x m n y u v : Int) : (stp (stp [[x, m, n], [y, u, v]] 1) 2 = []) ↔ m * v - u * n ≠ 0 := by
  rw [stp2]
  show stp (if m = 0 then (if u = 0 then _ else [cut 1 [y, u, v] [x, m, n]]) else [cut 1 [x, m, n] [y, u, v]]) 2 = [] ↔ _
  by_cases c : m = 0
  · rw [if_pos c]
    by_cases d : u = 0
    · rw [if_pos d, stp2]
      subst c d
      split <;> (try split) <;> simp
    · rw [if_neg d, stp1]
      subst c
      show (if (u * n - 0 * v) = 0 then _ else _) = [] ↔ _
      have e : u * n = 0 ↔ n = 0 := by rw [Int.mul_eq_zero]; simp [d]
      simp only [Int.zero_mul, Int.sub_zero, Int.zero_sub, ne_eq, Int.neg_eq_zero, e]
      split <;> rename_i h <;> simp [h]
  · rw [if_neg c, stp1]
    show (if (m * v - u * n) = 0 then _ else _) = [] ↔ _
    split <;> rename_i h <;> simp [h]
theorem free33 (a b c d e f g h i : Int) : (stp (stp (stp [[a, b, c], [d, e, f], [g, h, i]] 0) 1) 2 = []) ↔ a * (e * i - f * h) - b * (d * i - f * g) + c * (d * h - e * g) ≠ 0 := by
  rw [stp3]
  show stp (stp (if a = 0 then (if d = 0 then (if g = 0 then _ else [cut 0 [g, h, i] [d, e, f], cut 0 [g, h, i] [a, b, c]]) else [cut 0 [d, e, f] [a, b, c], cut 0 [d, e, f] [g, h, i]]) else [cut 0 [a, b, c] [d, e, f], cut 0 [a, b, c] [g, h, i]]) 1) 2 = [] ↔ _
  have go : ∀ (x m n y u v k : Int), k ≠ 0 → m * v - u * n = k * (a * (e * i - f * h) - b * (d * i - f * g) + c * (d * h - e * g)) → ((stp (stp [[x, m, n], [y, u, v]] 1) 2 = []) ↔ a * (e * i - f * h) - b * (d * i - f * g) + c * (d * h - e * g) ≠ 0) := fun x m n y u v k hk he => by
    rw [pair_iff, he, ne_eq, Int.mul_eq_zero]
    simp [hk]
  by_cases ca : a = 0
  · rw [if_pos ca]
    by_cases cd : d = 0
    · rw [if_pos cd]
      by_cases cg : g = 0
      · rw [if_pos cg]
        subst ca cd cg
        simp only [Int.zero_mul, Int.mul_zero, Int.sub_zero, Int.add_zero, ne_eq, not_true, iff_false]
        intro z
        rw [stp3] at z
        simp only [List.getD_cons_succ, List.getD_cons_zero] at z
        split at z
        · split at z
          · split at z
            · rw [stp3] at z
              simp only [List.getD_cons_succ, List.getD_cons_zero] at z
              split at z <;> (try split at z) <;> (try split at z) <;> simp at z
            · rw [stp2] at z
              split at z <;> (try split at z) <;> simp at z
          · rw [stp2] at z
            split at z <;> (try split at z) <;> simp at z
        · rw [stp2] at z
          split at z <;> (try split at z) <;> simp at z
      · rw [if_neg cg]
        exact go _ _ _ _ _ _ (-g) (by omega) (by subst ca cd; grind)
    · rw [if_neg cd]
      exact go _ _ _ _ _ _ (-d) (by omega) (by subst ca; grind)
  · rw [if_neg ca]
    exact go _ _ _ _ _ _ a ca (by grind)
/-- independence, for at most three rows of at most three places -/
theorem el0 (n : Nat) : el n [] = [] := by
  unfold el
  induction List.range n with
  | nil => rfl
  | cons p l ih => rw [List.foldl_cons, stp_nil]; exact ih
theorem r1 : List.range 1 = [0] := rfl
theorem r2 : List.range 2 = [0, 1] := rfl
theorem r3 : List.range 3 = [0, 1, 2] := rfl
theorem chs11 : chs 1 1 = [[0]] := by decide
theorem chs21 : chs 2 1 = [[0], [1]] := by decide
theorem chs31 : chs 3 1 = [[0], [1], [2]] := by decide
theorem chs12 : chs 1 2 = [] := by decide
theorem chs22 : chs 2 2 = [[0, 1]] := by decide
theorem chs32 : chs 3 2 = [[0, 1], [0, 2], [1, 2]] := by decide
theorem chs13 : chs 1 3 = [] := by decide
theorem chs23 : chs 2 3 = [] := by decide
theorem chs33 : chs 3 3 = [[0, 1, 2]] := by decide
theorem emp_iff {α : Type} (l : List α) : l.isEmpty = true ↔ l = [] := by cases l <;> simp
theorem free_eq {rows : List Row} {many : Nat} (h : ∀ r ∈ rows, r.length = many) (h1 : 1 ≤ many) (h3 : many ≤ 3) (hp : rows.length ≤ 3) : freeB rows = hasB many rows := by
  rw [Bool.eq_iff_iff]
  unfold freeB
  rw [emp_iff]
  show el _ rows = [] ↔ _
  match rows, hp with
  | [], _ => simp [el0, hasB, chs, det]
  | [r], _ =>
    have hr := h r (by simp)
    show el r.length [r] = [] ↔ _
    rw [hr]
    have : many = 1 ∨ many = 2 ∨ many = 3 := by omega
    rcases this with rfl | rfl | rfl
    · match r, hr with
      | [a], _ =>
        unfold el hasB
        simp only [r1, List.foldl_cons, List.foldl_nil, stp1, List.length_cons, List.length_nil, Nat.zero_add, chs11, List.any_cons, List.any_nil, List.map_cons, List.map_nil, pick, det1]
        by_cases c : a = 0 <;> simp [c]
    · match r, hr with
      | [a, b], _ =>
        unfold el hasB
        simp only [r2, List.foldl_cons, List.foldl_nil, stp1, List.length_cons, List.length_nil, Nat.zero_add, chs21, List.any_cons, List.any_nil, List.map_cons, List.map_nil, pick, det1]
        by_cases c : a = 0 <;> by_cases d : b = 0 <;> simp [c, d, stp_nil, stp1]
    · match r, hr with
      | [a, b, e], _ =>
        unfold el hasB
        simp only [r3, List.foldl_cons, List.foldl_nil, stp1, List.length_cons, List.length_nil, Nat.zero_add, chs31, List.any_cons, List.any_nil, List.map_cons, List.map_nil, pick, det1]
        by_cases c : a = 0 <;> by_cases d : b = 0 <;> by_cases f : e = 0 <;> simp [c, d, f, stp_nil, stp1]
  | [r, s], _ =>
    have hr := h r (by simp)
    have hs := h s (by simp)
    show el r.length [r, s] = [] ↔ _
    rw [hr]
    have : many = 1 ∨ many = 2 ∨ many = 3 := by omega
    rcases this with rfl | rfl | rfl
    · match r, hr, s, hs with
      | [a], _, [b], _ =>
        unfold el hasB
        simp only [r1, List.foldl_cons, List.foldl_nil, stp2, List.length_cons, List.length_nil, Nat.zero_add, Nat.reduceAdd, chs12, List.any_nil]
        by_cases c : a = 0 <;> by_cases d : b = 0 <;> simp [c, d]
    · match r, hr, s, hs with
      | [a, b], _, [c, d], _ =>
        have e : el 2 [[a, b], [c, d]] = [] ↔ a * d - c * b ≠ 0 := by
          have := pair_iff 0 a b 0 c d
          unfold el
          rw [r2, List.foldl_cons, List.foldl_cons, List.foldl_nil]
          rw [stp2] at this ⊢
          simp only [List.getD_cons_zero, List.getD_cons_succ] at this ⊢
          rw [← this]
          by_cases ca : a = 0 <;> by_cases cc : c = 0 <;> simp [ca, cc, stp1, stp2, cut] <;> (repeat' split) <;> simp
        rw [e]
        unfold hasB
        simp only [List.length_cons, List.length_nil, Nat.zero_add, Nat.reduceAdd, chs22, List.any_cons, List.any_nil, List.map_cons, List.map_nil, pick, List.getD_cons_zero, List.getD_cons_succ, det2, Bool.or_false, bne_iff_ne]
        rw [Int.mul_comm c b]
    · match r, hr, s, hs with
      | [a, b, c], _, [d, e, f], _ =>
        unfold el hasB
        simp only [r3, List.foldl_cons, List.foldl_nil, stp2, List.length_cons, List.length_nil, Nat.zero_add, Nat.reduceAdd, chs32, List.any_cons, List.any_nil, List.map_cons, List.map_nil, pick, List.getD_cons_zero, List.getD_cons_succ, det2, Bool.or_false, Bool.or_eq_true, bne_iff_ne]
        by_cases ca : a = 0
        · rw [if_pos ca]
          by_cases cd : d = 0
          · rw [if_pos cd, pair_iff]
            subst ca cd
            simp [Int.mul_comm]
          · rw [if_neg cd]
            subst ca
            have e1 : d * b = 0 ↔ b = 0 := by rw [Int.mul_eq_zero]; simp [cd]
            have e2 : d * c = 0 ↔ c = 0 := by rw [Int.mul_eq_zero]; simp [cd]
            have e3 : b * d = 0 ↔ b = 0 := by rw [Int.mul_comm]; exact e1
            have e4 : c * d = 0 ↔ c = 0 := by rw [Int.mul_comm]; exact e2
            by_cases cb : b = 0 <;> by_cases cc : c = 0 <;> simp [stp1, stp_nil, cut, cb, cc, e1, e2, e3, e4, cd]
        · rw [if_neg ca]
          by_cases g1 : a * e - d * b = 0
          · by_cases g2 : a * f - d * c = 0
            · have g3 : b * f - c * e = 0 := by
                have : a * (b * f - c * e) = 0 := by grind
                rcases Int.mul_eq_zero.mp this with z | z
                · exact absurd z ca
                · exact z
              have g1' : a * e - b * d = 0 := by rw [Int.mul_comm b d]; exact g1
              have g2' : a * f - c * d = 0 := by rw [Int.mul_comm c d]; exact g2
              simp [stp1, stp_nil, cut, g1, g2, g3, g1', g2']
            · have g2' : ¬ a * f - c * d = 0 := by rw [Int.mul_comm c d]; exact g2
              simp [stp1, stp_nil, cut, g1, g2, g2']
          · have g1' : ¬ a * e - b * d = 0 := by rw [Int.mul_comm b d]; exact g1
            simp [stp1, stp_nil, cut, g1, g1']
  | [r, s, t], _ =>
    have hr := h r (by simp)
    have hs := h s (by simp)
    have ht := h t (by simp)
    show el r.length [r, s, t] = [] ↔ _
    rw [hr]
    have : many = 1 ∨ many = 2 ∨ many = 3 := by omega
    rcases this with rfl | rfl | rfl
    · match r, hr, s, hs, t, ht with
      | [a], _, [b], _, [c], _ =>
        unfold el hasB
        simp only [r1, List.foldl_cons, List.foldl_nil, stp3, List.length_cons, List.length_nil, Nat.zero_add, Nat.reduceAdd, chs13, List.any_nil, Bool.false_eq_true, iff_false]
        split <;> (try split) <;> (try split) <;> simp
    · match r, hr, s, hs, t, ht with
      | [a, b], _, [c, d], _, [e, f], _ =>
        unfold el hasB
        simp only [r2, List.foldl_cons, List.foldl_nil, List.length_cons, List.length_nil, Nat.zero_add, Nat.reduceAdd, chs23, List.any_nil, Bool.false_eq_true, iff_false]
        intro z
        rw [stp3] at z
        split at z
        · split at z
          · split at z
            · rw [stp3] at z
              split at z <;> (try split at z) <;> (try split at z) <;> simp at z
            · rw [stp2] at z
              split at z <;> (try split at z) <;> simp at z
          · rw [stp2] at z
            split at z <;> (try split at z) <;> simp at z
        · rw [stp2] at z
          split at z <;> (try split at z) <;> simp at z
    · match r, hr, s, hs, t, ht with
      | [a, b, c], _, [d, e, f], _, [g, h, i], _ =>
        unfold el hasB
        simp only [r3, List.foldl_cons, List.foldl_nil, List.length_cons, List.length_nil, Nat.zero_add, Nat.reduceAdd, chs33, List.any_cons, List.any_nil, List.map_cons, List.map_nil, pick, List.getD_cons_zero, List.getD_cons_succ, det3, Bool.or_false, bne_iff_ne]
        rw [free33]
end Sq
/-! ## Z27 -/
namespace Ws
open PySem PySem.Spec PyProof.Rows L2 RZ
/-! ### zip of a tuple and a list -/
def ItzM (K : PySem.W.Frag) (l r : Addr) : L2.It :=
  ⟨fun k H => ∃ (us vs : List V) (y z : V), SqT K H l us ∧ SqL K H r vs ∧ us[k]? = some y ∧ vs[k]? = some z,
    fun k H out H' => ∃ T y z, out = .ref T ∧ H T = none ∧ H' = upd H T (.tup [y, z]) ∧ (∀ us, SqT K H l us → us[k]? = some y) ∧ ∀ vs, SqL K H r vs → vs[k]? = some z,
    fun k H => ∃ us vs : List V, SqT K H l us ∧ SqL K H r vs ∧ k ≤ us.length ∧ k ≤ vs.length ∧ (k = us.length ∨ k = vs.length)⟩
theorem sepM {c l r : Nat} (h1 : l < c) (h2 : r < c) : ZipSep2 (c + 4) (c + 2) (c + 3) c (c + 1) [c, l] [c + 1, r] := by
  have up : ∀ {a b : Nat}, a < b → b ≠ a := fun q => Nat.ne_of_gt q
  have dn : ∀ {a b : Nat}, a < b → a ≠ b := fun q => Nat.ne_of_lt q
  have off : ∀ {a x y : Nat}, a ≠ x → a ≠ y → a ∉ [x, y] := fun p q hm => by
    rcases List.mem_cons.mp hm with e | hm
    · exact p e
    · exact q (List.mem_singleton.mp hm)
  exact ⟨dn (by omega), dn (by omega), dn (by omega), up (by omega), List.mem_cons_self .., off (up (by omega)) (up (by omega)), off (up (by omega)) (up (by omega)), up (by omega), List.mem_cons_self .., off (up (by omega)) (up (by omega)), off (up (by omega)) (up (by omega)), off (dn (by omega)) (up (by omega)), off (up (by omega)) (up (by omega))⟩
structure SepM (z t o i j l r : Addr) : Prop where
  s : ZipSep2 z t o i j [i, l] [j, r]
  il : l ≠ i
  jr : r ≠ j
  iz : i ≠ z
  jz : j ≠ z
theorem turn_zipM {P : Program} {w : World} {K : PySem.W.Frag} {elts : List Expr} {kk : Nat} {tpos : Pos} {l r z t o i j : Addr} (D : SepM z t o i j l r) :
    Turn P w K (.Tuple elts kk tpos) (ItzM K l r) [z, t, o, i, j] z (fun k h => IsZip h z t o .none ∧ IsTupOf2 h t (.ref i) (.ref j) ∧ (∃ y1 y2, IsTupOf2 h o y1 y2) ∧ h.IsTupleIter i l k ∧ h.IsListIter j r k) where
  mem := List.mem_cons_self ..
  obj := fun k h st c hc => by
    obtain ⟨st1, st2, ⟨y1, y2, st3⟩, ⟨oi, gi, _, di⟩, ⟨oj, gj, _, dj⟩⟩ := st
    have hc' : c = z ∨ c = t ∨ c = o ∨ c = i ∨ c = j := by simpa using hc
    rcases hc' with rfl | rfl | rfl | rfl | rfl
    · exact ⟨_, st1, fun _ e => nomatch e⟩
    · exact ⟨_, st2, fun _ e => nomatch e⟩
    · exact ⟨_, st3, fun _ e => nomatch e⟩
    · exact ⟨oi, gi, fun _ e => by rw [di] at e; cases e⟩
    · exact ⟨oj, gj, fun _ e => by rw [dj] at e; cases e⟩
  keep := fun k h h' st q => by
    obtain ⟨st1, st2, ⟨y1, y2, st3⟩, st4, st5⟩ := st
    exact ⟨q z (by simp) _ st1, q t (by simp) _ st2, ⟨y1, y2, q o (by simp) _ st3⟩, st4.at fun ob e => q i (by simp) ob e, st5.at fun ob e => q j (by simp) ob e⟩
  item := by
    intro X hP hw hK hc k pins s σ H E I fresh st go
    subst hP hw hK
    obtain ⟨st1, st2, ⟨y1, y2, st3⟩, st4, st5⟩ := st
    obtain ⟨us, vs, y, w0, su, sv, gy, gw⟩ := go
    obtain ⟨its, rel, ti, _⟩ := I.tuple su
    obtain ⟨jts, rel2, tj, _⟩ := I.list sv
    obtain ⟨p, hp, rp⟩ := rel.get gy
    obtain ⟨p2, hp2, rp2⟩ := rel2.get gw
    have below : z < s.heap.objs.size := Heap.lt_size st1
    have bi : i < s.heap.objs.size := let ⟨_, e, _⟩ := st4; Heap.lt_size e
    have bj : j < s.heap.objs.size := let ⟨_, e, _⟩ := st5; Heap.lt_size e
    have hd := I.ok.hd hc
    have d1 := Draws.tuple (prog := X.prog) (w := X.w) (A := X.A.in1) hd i l D.il its.toArray
    have d2 := Draws.list (prog := X.prog) (w := X.w) (A := X.A.in1) hd j r D.jr jts.toArray
    refine wpAny_pyNext_zipD2_item D.s d1 d2 st1 st2 st3 ⟨st4, ti⟩ ⟨st5, tj.isList⟩
      (by have := (List.getElem?_eq_some_iff.mp hp).1; simpa using this) (by have := (List.getElem?_eq_some_iff.mp hp2).1; simpa using this) fun x1 x2 h1 tk1 e1 e2 n1 n2 n3 n4 n5 n6 up => ?_
    obtain rfl : p = x1 := by have e1 : its.toArray[k]? = some x1 := e1; rw [List.getElem?_toArray, hp] at e1; exact Option.some.inj e1
    obtain rfl : p2 = x2 := by have e2 : jts.toArray[k]? = some x2 := e2; rw [List.getElem?_toArray, hp2] at e2; exact Option.some.inj e2
    refine ⟨_, rfl, wpAny_letOwnedTupleGo_zip (s := { s with heap := h1, toks := tk1 }) n1 fun h2 m1 sb => ?_⟩
    have pair : h2.get? s.heap.objs.size = some { cls := .type "tuple", data := .seq #[p, p2] } := (sb.2 _ (Nat.ne_of_gt below)).trans n5
    have both : ∀ c ob, c ∉ [z, t, o, i, j] → s.heap.get? c = some ob → h2.get? c = some ob := fun c ob out e => by
      have a1 : c ≠ z := fun q => out (by simp [q])
      have a2 : c ≠ o := fun q => out (by simp [q])
      have a3 : c ≠ i := fun q => out (by simp [q])
      have a4 : c ≠ j := fun q => out (by simp [q])
      exact (sb.2 c a1).trans (up c ob a1 a2 a3 a4 e)
    have J := I.turnedNew (t' := tk1) (ch := [z, t, o, i, j]) (ob := .tup [y, w0]) both fresh (Nat.le_refl _)
      ⟨by show 2 ≤ sizeLine; decide, [p, p2], .cons rp (.cons rp2 .nil), ⟨_, pair, rfl, _, rfl⟩⟩
    refine ⟨.ref s.heap.objs.size, _, J, rfl, ⟨_, y, w0, rfl, I.hok.fresh (Nat.le_refl _), rfl, fun q hq => by rw [I.tuple_inj hq su]; exact gy, fun q hq => by rw [I.list_inj hq sv]; exact gw⟩, ⟨m1, ?_, ⟨p, p2, ?_⟩, ?_, ?_⟩, fun c hc' => ?_⟩
    · exact (sb.2 _ D.s.TIz).trans (up _ _ D.s.TIz D.s.TITO D.s.TIi1 D.s.TIi2 st2)
    · exact (sb.2 _ D.s.TOz).trans n2
    · exact n3.1.at fun ob e => (sb.2 _ D.iz).trans e
    · exact n4.1.at fun ob e => (sb.2 _ D.jz).trans e
    · have lt : c < s.heap.objs.size := by
        have hc2 : c = z ∨ c = t ∨ c = o ∨ c = i ∨ c = j := by simpa using hc'
        rcases hc2 with rfl | rfl | rfl | rfl | rfl
        · exact below
        · exact Heap.lt_size st2
        · exact Heap.lt_size st3
        · exact bi
        · exact bj
      rw [upd_ne (Nat.ne_of_lt lt)]
      exact (fresh c hc').1
  done := by
    intro X hP hw hK hc k pins s σ H E I fresh st go
    subst hP hw hK
    obtain ⟨st1, st2, ⟨y1, y2, st3⟩, st4, st5⟩ := st
    obtain ⟨us, vs, su, sv, le1, le2, fin⟩ := go
    obtain ⟨its, rel, ti, _⟩ := I.tuple su
    obtain ⟨jts, rel2, tj, _⟩ := I.list sv
    have hd := I.ok.hd hc
    have k1 := rel.length
    have k2 := rel2.length
    have d1 := Draws.tuple (prog := X.prog) (w := X.w) (A := X.A.in1) hd i l D.il its.toArray
    have d2 := Draws.list (prog := X.prog) (w := X.w) (A := X.A.in1) hd j r D.jr jts.toArray
    refine wpAny_pyNext_zipD2_end (i := k) D.s d1 d2 st1 st2 st3 ⟨st4, ti⟩ ⟨st5, tj.isList⟩ (by simp; omega) (by simp; omega) (by simp; omega) fun h1 tk1 up => ⟨rfl, I.turnedL (t' := tk1) (ch := [z, t, o, i, j]) (fun c ob out e => ?_) fresh⟩
    exact up c ob (fun q => out (by simp [q])) (fun q => out (by simp [q])) (fun q => out (by simp [q])) (fun q => out (by simp [q])) e
  self := fun A k s Q E st q => wpAny_pyIter_zip st.1 q
theorem walk_zipM {K : PySem.W.Frag} {l r : Addr} {us vs : List V} : Walk (ItzM K l r) (min us.length vs.length) (fun H => SqT K H l us ∧ SqL K H r vs) (YPair (fun k => us[k]?) (fun k => vs[k]?)) := by
  refine ⟨fun k _ lt g => ⟨us, vs, us[k]'(by omega), vs[k]'(by omega), g.1, g.2, by rw [List.getElem?_eq_getElem], by rw [List.getElem?_eq_getElem]⟩, fun _ g => ⟨us, vs, g.1, g.2, by omega, by omega, by omega⟩, fun k H out H' _ g y => ?_⟩
  obtain ⟨T, y1, y2, q1, q2, q3, q4, q5⟩ := y
  exact ⟨T, y1, y2, q1, q2, q3, q4 us g.1, q5 vs g.2⟩
def zipC (K : PySem.W.Frag) (l r : Addr) (H1 : Hp) (R : L2.It → Hp → Prop) : Prop := ∃ xs ys, (((SqT K H1 l xs ∧ SqT K H1 r ys) ∧ R (ItzT K l r) H1) ∨ ((SqT K H1 l xs ∧ SqL K H1 r ys) ∧ R (ItzM K l r) H1))
/-- zip of a tuple and a tuple or a list -/
def iZipB (K : PySem.W.Frag) (ta : TA) : L2.TI := fun σ H R => ta σ H fun vs H1 => ∃ l r, vs = [.ref l, .ref r] ∧ zipC K l r H1 R
theorem pi_zipB {X : Cx} {e e2 : Expr} {ta : TA} {p pos tpos : Pos} {elts : List Expr} {kk : Nat} (hg : Gl X "zip") (hm : X.mg "zip" = none) (ha : PA X [e, e2] ta)
    (hs : starEach [e, e2] X.env = (false, eval e X.env) :: starEach [e2] X.env := by rfl) (hpl : (backTo pos (starEach [e2] X.env)).any (·.1) = false := by rfl) :
    PI X (.Tuple elts kk tpos) (.Call (.Name "zip" p) [e, e2] [] pos) (iZipB X.K ta) := by
  refine ⟨fun pins s σ H R I h => ?_⟩
  refine Call_ (ld_blt I hg hm PyProof.Rows.boot_zip (PyProof.Rows.callWith_type1 (thn (ha.run pos pins s σ H _ I h) fun us s1 ⟨vs, H1, J, rel, q⟩ => ?_) hs hpl))
  obtain ⟨l, r, rfl, xs, ys, q⟩ := q
  cases rel with
  | cons rl rel =>
  cases rel with
  | cons rr rel =>
  cases rel
  cases rl
  cases rr
  generalize hc : s1.heap.objs.size = c
  have news : ∀ b, b ∈ [c + 4, c + 2, c + 3, c, c + 1] → FpOk X pins H1 b := fun b hb => by
    have lo : s1.heap.objs.size ≤ b := by
      rw [hc]
      have hb2 : b = c + 4 ∨ b = c + 2 ∨ b = c + 3 ∨ b = c ∨ b = c + 1 := by simpa using hb
      rcases hb2 with e | e | e | e | e
      · exact e ▸ Nat.le_add_right _ _
      · exact e ▸ Nat.le_add_right _ _
      · exact e ▸ Nat.le_add_right _ _
      · exact e ▸ Nat.le_refl _
      · exact e ▸ Nat.le_add_right _ _
    exact J.fpOk lo (J.hok.fresh lo)
  rcases q with ⟨⟨ql, qr⟩, q⟩ | ⟨⟨ql, qr⟩, q⟩
  · obtain ⟨its, _, p1, _⟩ := J.tuple ql
    obtain ⟨jts, _, p2, _⟩ := J.tuple qr
    obtain ⟨_, g1, _⟩ := id p1
    obtain ⟨_, g2, _⟩ := id p2
    refine zip_begins2 (begins_tuple l its.toArray) (begins_tuple r jts.toArray) p1 p2 fun h2 n1 n2 n3 n4 n5 _ up => wpAny_pyIter_zip n1 ?_
    have J2 : Inv X pins σ H1 { s1 with heap := h2 } := J.kept (t' := s1.toks) up
    rw [hc] at n1 n2 n3 n4 n5
    have D := PySem.W.ktu_apart c l r (hc ▸ Heap.lt_size g1) (hc ▸ Heap.lt_size g2)
    rw [← hc] at D n1 n2 n3 n4 n5 news
    exact ⟨_, _, _, _, H1, rfl, J2, turn_zipT D, ⟨n1, n2, ⟨_, _, n3⟩, ⟨_, n4, rfl, rfl⟩, ⟨_, n5, rfl, rfl⟩⟩, news, q⟩
  · obtain ⟨its, _, p1, _⟩ := J.tuple ql
    obtain ⟨jts, _, p2, _⟩ := J.list qr
    obtain ⟨_, g1, _⟩ := id p1
    refine zip_begins2 (begins_tuple l its.toArray) (begins_list r jts.toArray) p1 p2.isList fun h2 n1 n2 n3 n4 n5 _ up => wpAny_pyIter_zip n1 ?_
    have J2 : Inv X pins σ H1 { s1 with heap := h2 } := J.kept (t' := s1.toks) up
    have b1 : l < s1.heap.objs.size := Heap.lt_size g1
    have b2 : r < s1.heap.objs.size := p2.lt
    have D : SepM (s1.heap.objs.size + 4) (s1.heap.objs.size + 2) (s1.heap.objs.size + 3) s1.heap.objs.size (s1.heap.objs.size + 1) l r :=
      ⟨sepM b1 b2, Nat.ne_of_lt b1, Nat.ne_of_lt (Nat.lt_succ_of_lt b2), Nat.ne_of_lt (Nat.lt_add_of_pos_right (by decide)), Nat.ne_of_lt (Nat.add_lt_add_left (by decide) _)⟩
    rw [← hc] at news
    exact ⟨_, _, _, _, H1, rfl, J2, turn_zipM D, ⟨n1, n2, ⟨_, _, n3⟩, ⟨_, n4, rfl, rfl⟩, ⟨_, n5, rfl, rfl⟩⟩, news, q⟩
/-- one way to walk both -/
theorem zipB_core {K : PySem.W.Frag} {H0 H : Hp} {l r : Addr} {us vs : List V} {R : L2.It → Hp → Prop} (e : Same H0 H) (hl : SqT K H0 l us) (hr : SqT K H0 r vs ∨ SqL K H0 r vs)
    (k : ∀ J G, Walk J (min us.length vs.length) G (YPair (fun i => us[i]?) (fun i => vs[i]?)) → (∀ H', Same H0 H' → G H') → R J H) :
    zipC K l r H R := by
  rcases hr with hr | hr
  · exact ⟨us, vs, .inl ⟨⟨e.seqT hl, e.seqT hr⟩, k _ _ walk_zipT fun H' e' => ⟨e'.seqT hl, e'.seqT hr⟩⟩⟩
  · exact ⟨us, vs, .inr ⟨⟨e.seqT hl, e.seq hr⟩, k _ _ walk_zipM fun H' e' => ⟨e'.seqT hl, e'.seq hr⟩⟩⟩
/-- any(t) of a tuple of ints -/
def rAnyT (K : PySem.W.Frag) : List V → Hp → VK → Prop := fun vs H Q => ∃ (a : Addr) (ns : List Int), vs = [V.ref a] ∧ SqT K H a (ns.map V.int) ∧ Q (.bl (ns.any fun n => n != 0)) H
theorem cr_anyT {X : Cx} (hc : X.calm = true) : CallR X (.builtin "any") (rAnyT X.K) := by
  intro pins s σ H vs us Q I r h
  obtain ⟨a, ns, rfl, hs, q⟩ := h
  obtain ⟨its, rv, hl, _⟩ := I.tuple hs
  rw [Vals.ref1 r]
  obtain ⟨as, h4⟩ := Dp.readsAll I (ns.map PyData.int) (ns.map V.int) its (DpAll.ints ns) rv
  refine PySem.W.any_tuple_data (xs := ns.map PyData.int) (I.ok.hd hc) hl (by simpa using h4) (plain_ints ns) (fun x hx => ?_) fun h' tk hk => ⟨.bl (ns.any fun n => n != 0), H, I.kept hk, ?_, q⟩
  · obtain ⟨i, _, rfl⟩ := List.mem_map.mp hx
    exact trivial
  · show Value.bool _ = Value.bool _
    rw [List.any_map]
    rfl
end Ws
/-! ## V25 -/
namespace Ws
open PySem PySem.Spec PyProof.Rows L2 RZ
local macro_rules | `(tactic| walk_at "nf") => `(tactic| dsimp only [tNext, tSeq, tDrop, tRet, tRetN, tIfS, tAsg, gName, gTup, gCons, gNil, tVar, tC, tOp, tUn, rI, rI0, rU, rEq, rNe, tTest, tChain, tAnd, tOr, tNot, tAndV, tOrV, tNotV, tIf, tCB, tCKw, tCons, tNil, tTup, tLst, tCa, tCallS, tB, rIxT, rIxL, rIxS, cxOf, Cx.nox, Cx.wish, Cx.blk, L2.start, tPar, tPar3, tNever, tYes, tBits, tRz, tBM, rAppend, tyV, tXf, suiteEnds, gSub, rSetL, tBreak, rMax, tDGet, sDPut, tSl, tNoPart, tPart, tDisp, tPairs, tDGet2, tDNewK, tAugS, ipI, rGetL, tDIn, tDNotIn, tBM0, rPop])
local macro_rules | `(tactic| walk_at "sx") => `(tactic| simp only [wipe, List.cons.injEq, and_assoc, exists_and_left, and_true, List.map_cons, List.map_nil, List.length_cons, List.length_nil, List.cons_append, List.nil_append, List.append_nil, Nat.reduceAdd, Nat.reduceSub, List.replicate, List.getElem?_cons_zero, List.getElem?_cons_succ, List.set_cons_zero, List.set_cons_succ, Option.some.injEq, V.int.injEq, V.bl.injEq, V.ref.injEq, V.str.injEq, exists_eq_left', exists_eq_left, true_and, Bool.true_eq_false, Bool.false_eq_true, if_true, if_false])

theorem cutV_from (xs : List V) (k : Nat) : cutV xs (some (k : Int)) none = xs.drop k := by
  unfold cutV
  rw [HT.sIx_nat, HT.sIx_none]
  by_cases h : k ≤ xs.length
  · rw [Nat.min_eq_left h, List.take_of_length_le (by rw [List.length_drop]; omega)]
  · rw [Nat.min_eq_right (by omega), List.drop_eq_nil_of_le (Nat.le_refl _), List.drop_eq_nil_of_le (by omega)]
    simp
theorem cutV_to (xs : List V) (k : Nat) : cutV xs none (some (k : Int)) = xs.take k := by
  unfold cutV
  rw [HT.sIx_nat, HT.sIx_none, List.drop_zero, Nat.sub_zero]
  by_cases h : k ≤ xs.length
  · rw [Nat.min_eq_left h]
  · rw [Nat.min_eq_right (by omega), List.take_of_length_le (Nat.le_refl _), List.take_of_length_le (by omega)]
theorem sq_go {te : TE} {i : Nat} {u : TS} {D : Ends} {σ : L2.St} {H : Hp} (h : te σ H fun v H1 => u D (σ.set i (some v)) H1) : tSeq (tAsg te (gName i)) u D σ H := h
theorem sq_if0 {t : TT} {r u : TS} {D : Ends} {σ : L2.St} {H : Hp} (h : t σ H fun b H1 => if b = true then r { D with nx := u D } σ H1 else u D σ H1) : tSeq (tIfS t r tNext) u D σ H := h
theorem sq_fr {w : L2.TI} {g : TG} {b u : TS} {D : Ends} {σ : L2.St} {H : Hp} (h : tFor w g b { D with nx := u D } σ H) : tSeq (tFor w g b) u D σ H := h
/-- what a list of told data is -/
theorem lst_view {K : PySem.W.Frag} {H : Hp} {α : Type} {f : α → PyData} {xs : List α} {v : V} (h : Dp K H v (.list (xs.map f))) : ∃ p zs, v = .ref p ∧ SqL K H p zs ∧ zs.length = xs.length ∧ (∀ (i : Nat) z, zs[i]? = some z → ∃ x, xs[i]? = some x ∧ Dp K H z (f x)) ∧ DpAll K H zs (xs.map f) := by
  cases h with
  | lst hs ha =>
    have hl := ha.length
    rw [List.length_map] at hl
    refine ⟨_, _, rfl, hs, hl, fun i z hz => ?_, ha⟩
    obtain ⟨d, h1, h2⟩ := ha.getV hz
    rw [List.getElem?_map] at h1
    cases e : xs[i]? with
    | none => rw [e] at h1; cases h1
    | some x =>
      rw [e] at h1
      cases h1
      exact ⟨x, rfl, h2⟩
theorem noList_ints' (xs : List Int) : noList (intsD xs) = true := noList_ints xs
theorem sq_as {te : TE} {g : TG} {u : TS} {D : Ends} {σ : L2.St} {H : Hp} (h : te σ H fun v H1 => g v σ H1 fun σ2 H2 => u D σ2 H2) : tSeq (tAsg te g) u D σ H := h
theorem sq_dr {te : TE} {u : TS} {D : Ends} {σ : L2.St} {H : Hp} (h : te σ H fun _ H1 => u D σ H1) : tSeq (tDrop te) u D σ H := h
def lnD (base : Sq.Row) (pers : List Sq.Row) : PyData := .tuple [intsD base, .tuple (pers.map intsD)]
theorem hu64 {A : Around} {k : Nat} (hr : Room k A) : A.units + 64 < cLine := by have := hr.un; omega
theorem hu65 {A : Around} {k : Nat} (hr : Room k A) : A.units + 65 < cLine := by have := hr.un; omega
theorem eqv_ints : ∀ a b : List Int, PyData.eqv (intsD a) (intsD b) = decide (a = b)
  | [], [] => rfl
  | [], _ :: _ => rfl
  | _ :: _, [] => rfl
  | x :: a, y :: b => by
    have ih := eqv_ints a b
    show ((x == y) && PyData.eqv (intsD a) (intsD b)) = _
    rw [ih]
    by_cases c : x = y
    · subst c; simp
    · simp [c]
theorem shaped_intsD (is : List Int) : SeqAt.shaped (intsD is) = true := by
  unfold SeqAt.shaped intsD
  simp only [PyData.canLay0, canLay_ints, PyData.depth, depth_ints, Bool.true_and]
  rfl
section
variable {K : PySem.W.Frag} {H : Hp} {v : V}
theorem ln_v {base : Sq.Row} {pers : List Sq.Row} (h : Dp K H v (lnD base pers)) : ∃ p b u, v = .ref p ∧ SqT K H p [b, u] ∧ Dp K H b (intsD base) ∧ Dp K H u (.tuple (pers.map intsD)) := by
  obtain ⟨p, xs, rfl, hs, ha⟩ := h.tup_inv
  obtain ⟨x, y, rfl, h1, h2⟩ := ha.two
  exact ⟨p, x, y, rfl, hs, h1, h2⟩
end
theorem zip_at {α β : Type} {l : List α} {r : List β} {i : Nat} {x : α} {y : β} (h1 : l[i]? = some x) (h2 : r[i]? = some y) : (l.zip r)[i]? = some (x, y) := by
  rw [List.getElem?_zip_eq_some]
  exact ⟨h1, h2⟩
theorem take_at {α : Type} {l : List α} {i : Nat} {x : α} (h : l[i]? = some x) : l.take (i + 1) = l.take i ++ [x] := by
  obtain ⟨hi, e⟩ := List.getElem?_eq_some_iff.mp h
  rw [List.take_succ_eq_append_getElem hi, e]
theorem ints_get {ts : List Int} {i : Nat} {x : V} (h : (ts.map V.int)[i]? = some x) : ∃ t, ts[i]? = some t ∧ x = .int t := by
  rw [List.getElem?_map] at h
  cases e : ts[i]? with
  | none => rw [e] at h; cases h
  | some n => rw [e] at h; cases h; exact ⟨n, rfl, rfl⟩
/-! ### wholesay.lines: sets -/
def isEntryD (m : Int) (d : PyData) : Bool := isTn d m && areB d 0 (10 ^ 9)
def nzD : PyData → Bool
  | .tuple ds => ds.any fun d => iOf d != 0
  | _ => false
def ltAt (ps : List PyData) (i : Nat) : Bool := PySem.W.dataLt (ps.getD i .none) (ps.getD (i + 1) .none)
def ascD (ps : List PyData) : Bool := (List.range (ps.length - 1)).all (ltAt ps)
def isLineD (m : Int) : PyData → Bool
  | .tuple [b, .tuple ps] => isEntryD m b && (decide (ps.length ≤ 12) && ps.all (fun p => isEntryD m p && nzD p)) && ascD ps
  | _ => false
def lineR (n : Int) (c : PyData) : PyData → Bool
  | .tuple ps => isEntryD n c && (decide (ps.length ≤ 12) && ps.all (fun p => isEntryD n p && nzD p)) && ascD ps
  | _ => false
theorem line_pair (n : Int) (c rows : PyData) : isLineD n (.tuple [c, rows]) = lineR n c rows := by cases rows <;> rfl
inductive SF
  | ok
  | bad (n : Nat)
  | great
def badAt (m : Int) (ls : List PyData) (i : Nat) : Bool := !isLineD m (ls.getD i .none) || (decide (0 < i) && !PySem.W.dataLt (ls.getD (i - 1) .none) (ls.getD i .none))
def setF : PyData → SF
  | .tuple [m, .tuple ls] => if isBt m 1 4 then (if 400 < ls.length then .great else match (List.range ls.length).find? (badAt (iOf m) ls) with
      | some i => .bad (i + 1)
      | none => .ok) else .bad 0
  | _ => .bad 0
def spIsEntry (K : PySem.W.Frag) : Sp := fun vs H Q _ => ∃ (v : V) (d : PyData) (m : Int), vs = [v, .int m] ∧ Dp K H v d ∧ m < 10000 ∧ ∀ H', Same H H' → Q (.bl (isEntryD m d)) H'
def spIsLine (K : PySem.W.Frag) : Sp := fun vs H Q _ => ∃ (v : V) (d : PyData) (m : Int), vs = [v, .int m] ∧ Dp K H v d ∧ m < 10000 ∧ ∀ H', Same H H' → Q (.bl (isLineD m d)) H'
def spNeedSet (K : PySem.W.Frag) (BS TG : Addr) : Sp := fun vs H Q E => ∃ (v : V) (d : PyData), vs = [v] ∧ Dp K H v d ∧ (setF d = .ok → ∀ H', Same H H' → Q v H') ∧ (∀ n, setF d = .bad n → OutF K BS "place" (.int (n : Nat)) H E) ∧ (setF d = .great → OutF K TG "most" (.int 400) H E)
structure CsL (mg : Str → Option Value) : Prop where
  MOST_FACTOR : ∃ t, mg "MOST_FACTOR" = some (.int (10 ^ 9) t)
  MOST_PERIODS : ∃ t, mg "MOST_PERIODS" = some (.int 12 t)
  MOST_LINES : ∃ t, mg "MOST_LINES" = some (.int 400 t)
structure ErS (P : Program) (w : World) (K : PySem.W.Frag) (mg : Str → Option Value) (base : Heap) (BS TG BW : Addr) : Prop where
  BadSet : ErC P w K mg base "BadSet" "place" BS
  TooGreat : ErC P w K mg base "TooGreat" "most" TG
  Unlike : ErC P w K mg base "Unlike" "value" BW
abbrev s_is_entry : Stmt := top 16
abbrev nm_is_entry : List Str := ["value", "many"]
abbrev pr_is_entry : List Str := ["value", "many"]
theorem sc_is_entry : FnScope nm_is_entry pr_is_entry (defScope s_is_entry) := ⟨rfl, rfl, rfl, by decide +kernel, rfl, by decide +kernel, by decide +kernel⟩
abbrev s_is_line : Stmt := top 17
abbrev nm_is_line : List Str := ["value", "many", "periods", "at", "period"]
abbrev pr_is_line : List Str := ["value", "many"]
theorem sc_is_line : FnScope nm_is_line pr_is_line (defScope s_is_line) := ⟨rfl, rfl, rfl, by decide +kernel, rfl, by decide +kernel, by decide +kernel⟩
abbrev s_need_set : Stmt := top 18
abbrev nm_need_set : List Str := ["value", "many", "lines", "at", "line"]
abbrev pr_need_set : List Str := ["value"]
theorem sc_need_set : FnScope nm_need_set pr_need_set (defScope s_need_set) := ⟨rfl, rfl, rfl, by decide +kernel, rfl, by decide +kernel, by decide +kernel⟩
theorem entry_ints {m : Int} {d : PyData} (h : isEntryD m d = true) : ∃ xs : List Int, d = intsD xs ∧ (xs.length : Int) = m ∧ ∀ x ∈ xs, 0 ≤ x ∧ x ≤ 10 ^ 9 := by
  unfold isEntryD at h
  rw [Bool.and_eq_true] at h
  obtain ⟨ds, rfl, hl⟩ := isTn_tup h.1
  have h2 := h.2
  simp only [areB, List.all_eq_true] at h2
  have hi : ∀ d ∈ ds, d = .int (iOf d) ∧ 0 ≤ iOf d ∧ iOf d ≤ 10 ^ 9 := fun d hd => by
    have := h2 d hd
    cases d with
    | int i => simpa [isBt, iOf] using this
    | _ => cases this
  refine ⟨ds.map iOf, ?_, by simpa using hl, fun x hx => ?_⟩
  · unfold intsD
    rw [List.map_map]
    congr 1
    conv => lhs; rw [← List.map_id ds]
    exact List.map_congr_left fun d hd => (hi d hd).1
  · obtain ⟨d, hd, rfl⟩ := List.mem_map.mp hx
    exact (hi d hd).2
theorem nz_ints (xs : List Int) : nzD (intsD xs) = xs.any fun n => n != 0 := by
  unfold nzD intsD
  show (xs.map PyData.int).any _ = _
  rw [List.any_map]
  rfl
theorem alike_intsD (a b : List Int) : PySem.W.alike (intsD a) (intsD b) = true := by
  unfold intsD
  simp only [PySem.W.alike]
  exact PySem.W.alike_ints a b
theorem depth_intsD (a : List Int) : (intsD a).depth = 1 := by
  unfold intsD
  simp only [PyData.depth]
  rw [PySem.W.depth_ints]
section
variable {P : Program} {w : World} {K : PySem.W.Frag} {mg : Str → Option Value} {base : Heap} {BS TG BW : Addr}
theorem ok_is_entry (C : CsL mg) (F1 : Df P w K mg base CX0 1 "is_tuple_of" pr_is_tuple_of (spIsTupleOf K)) (F2 : Df P w K mg base CX0 3 "are_between" pr_are_between (spAreBetween K)) (D : Dt K mg "is_entry" s_is_entry pr_is_entry) : Df P w K mg base CX0 4 "is_entry" pr_is_entry (spIsEntry K) := by
  refine D.ok sc_is_entry (fun vs H Q E h => ?_) (fun f cdv A outer s H vs Q E hr h => ?_)
  · obtain ⟨v, d, n, rfl, _⟩ := h
    rfl
  · obtain ⟨v, d, n, rfl, hd, hn, k⟩ := h
    unfold isEntryD at k
    refine ⟨_, (pss_one (ps_ret (pe_and (pe_f F1 (hr.mono (by decide)) pass0 (pa_cons (pv 0) (pa_cons (pv 1) pa_nil))) (pe_one (pe_f F2 (hr.mono (by decide)) pass0 (pa_cons (pv 0) (pa_cons pe_int (pa_cons (pe_glob (v := .int (10 ^ 9)) rfl C.MOST_FACTOR.choose_spec ⟨_, rfl⟩) pa_nil)))))))), ?_⟩
    walk_at "nf"
    walk_at "sx"
    refine ⟨v, d, n, rfl, hd, _, rfl, ?_⟩
    cases e : isTn d n with
    | true =>
      refine iteT ⟨v, d, 0, 10 ^ 9, rfl, hd, fun ds e2 => ?_, fun H' e3 => ?_⟩
      · subst e2
        simp only [isTn, decide_eq_true_eq] at e
        omega
      · have := k H' e3
        rw [e, Bool.true_and] at this
        exact this
    | false =>
      refine iteF ?_
      have := k H (Same.refl _)
      rw [e, Bool.false_and] at this
      exact this
theorem ok_is_line (B : Bl mg) (C : CsL mg) (F1 : Df P w K mg base CX0 1 "is_tuple_of" pr_is_tuple_of (spIsTupleOf K)) (F2 : Df P w K mg base CX0 4 "is_entry" pr_is_entry (spIsEntry K)) (D : Dt K mg "is_line" s_is_line pr_is_line) : Df P w K mg base CX0 5 "is_line" pr_is_line (spIsLine K) := by
  refine D.ok sc_is_line (fun vs H Q E h => ?_) (fun f cdv A outer s H vs Q E hr h => ?_)
  · obtain ⟨v, d, n, rfl, _⟩ := h
    rfl
  · obtain ⟨v, d, n, rfl, hd, hn, k⟩ := h
    refine ⟨_, (pss_cons (ps_if (PW.pt (pw_or (pt_not (pt_val (pe_f F1 (hr.mono (by decide)) pass0 (pa_cons (pv 0) (pa_cons pe_int pa_nil))))) (pw_or (pt_not (pt_val (pe_f F2 (hr.mono (by decide)) pass0 (pa_cons (pe_ix ix_tup (pv 0) pe_int (fun _ _ => rfl)) (pa_cons (pv 1) pa_nil))))) (pw_or1 (pt_not (pt_val (pe_callB call_isi (by rfl) B.isinstance boot_isinstance (pa_cons (pe_ix ix_tup (pv 0) pe_int (fun _ _ => rfl)) (pa_cons (pe_bltn (v := .ty "tuple") (by rfl) B.tuple PyProof.Rows.boot_tuple rfl) pa_nil))))))))) (pss_one (ps_ret pe_bl)) pss_nil) (pss_cons (ps_set (i := 2) sc_is_line.nd rfl (Or.inr rfl) (pe_ix ix_tup (pv 0) pe_int (fun _ _ => rfl))) (pss_cons (ps_if (PW.pt (pw_or (pt_cmpR op_gt (pe_callB call_len_seq (by rfl) B.len PySem.boot_len (pa_cons (pv 2) pa_nil)) (pe_glob (v := .int 12) rfl C.MOST_PERIODS.choose_spec ⟨_, rfl⟩) (nomark _)) (pw_or1 (pt_not (pt_val (pe_callB (cr_all rfl) (by rfl) B.all boot_all (pa_cons (pe_lc (own := [("period", 4)]) (g := gName 4) (tt := tYes) (te := tAndV (tCa (spIsEntry K) E0 (tCons (tVar 4) (tCons (tVar 1) tNil))) (tCB (rAnyT K) (tCons (tVar 4) tNil))) (by rfl) sc_is_line.nd (pi_tup (pv 2)) (blkOk_by (own := [("period", 4)]) (N := nm_is_line) (sc := defScope s_is_line) (by decide +kernel)) (fun _ _ _ _ _ => pg_name (i := 4) sc_is_line.nd rfl (Or.inl rfl)) (fun _ _ _ _ _ => pts_nil) (fun _ _ _ _ _ => (pe_and (pe_f F2 (hr.mono (by decide)) pass0 (pa_cons (pv 4) (pa_cons (pv 1) pa_nil))) (pe_one (pe_callB (cr_anyT rfl) (by rfl) B.any boot_any (pa_cons (pv 4) pa_nil)))))) pa_nil))))))) (pss_one (ps_ret pe_bl)) pss_nil) (pss_one (ps_ret (pe_callB (cr_all rfl) (by rfl) B.all boot_all (pa_cons (pe_lc (own := [("at", 3)]) (g := gName 3) (tt := tYes) (te := tOp (rLtD K) (tOp (rIxT K) (tVar 2) (tVar 3)) (tOp (rIxT K) (tVar 2) (tOp (rI0 fun i j => V.int (i + j)) (tVar 3) (tC (V.int 1))))) (by rfl) sc_is_line.nd (pi_range1 (by rfl) B.range (pa_cons (pe_op op_sub (pe_callB call_len_seq (by rfl) B.len PySem.boot_len (pa_cons (pv 2) pa_nil)) pe_int) pa_nil)) (blkOk_by (own := [("at", 3)]) (N := nm_is_line) (sc := defScope s_is_line) (by decide +kernel)) (fun _ _ _ _ _ => pg_name (i := 3) sc_is_line.nd rfl (Or.inl rfl)) (fun _ _ _ _ _ => pts_nil) (fun _ _ _ _ _ => (pe_cmpR (op_ltD (hu65 hr)) (pe_ix ix_tup (pv 2) (pv 3) (fun _ _ => rfl)) (pe_ix ix_tup (pv 2) (pe_op op_add (pv 3) pe_int) (fun _ _ => rfl)) (nomark _)))) pa_nil))))))), ?_⟩
    walk_at "nf"
    walk_at "sx"
    refine ⟨v, d, 2, rfl, hd, _, rfl, ?_⟩
    cases e0 : isTn d 2 with
    | false =>
      have ef : isLineD n d = false := by
        unfold isLineD
        split
        · simp [isTn] at e0
        · rfl
      rw [ef] at k
      exact iteT (k _ (Same.refl _))
    | true =>
      obtain ⟨ds, rfl, hl⟩ := isTn_tup e0
      match ds, hl with
      | [c, rows], _ =>
      obtain ⟨a, xs, rfl, hs, ha⟩ := hd.tup_inv
      obtain ⟨cv, rv, rfl, hc, hrw⟩ := ha.two
      have e12 := line_pair n c rows
      refine iteF ⟨a, rfl, _, hs, _, rfl, cv, c, n, rfl, hc, hn, fun H1 s1 => ⟨_, rfl, ?_⟩⟩
      cases e1 : isEntryD n c with
      | false =>
        have ef : isLineD n (.tuple [c, rows]) = false := by rw [e12]; cases rows <;> simp [lineR, e1]
        rw [ef] at k
        exact iteT (k _ s1)
      | true =>
        refine iteF ⟨a, rfl, _, s1.seqT hs, _, rfl, isi_tuple (hrw.to s1) ⟨_, rfl, ?_⟩⟩
        cases rows with
        | tuple ps =>
          have e12 : isLineD n (.tuple [c, .tuple ps]) = ((decide (ps.length ≤ 12) && ps.all (fun p => isEntryD n p && nzD p)) && ascD ps) := by
            rw [e12]
            show (isEntryD n c && _ && _) = _
            rw [e1, Bool.true_and]
          obtain ⟨b, zs, rfl, hz, hza⟩ := hrw.tup_inv
          have hzl := hza.length
          have hz1 := s1.seqT hz
          refine iteF ⟨a, rfl, _, s1.seqT hs, _, rfl, b, rfl, zs, .inr hz1, ?_⟩
          by_cases c12 : ps.length ≤ 12
          · rw [decide_eq_false (by omega)]
            rw [decide_eq_true c12, Bool.true_and] at e12
            refine iteF ⟨_, rfl, b, rfl, ⟨zs, hz1⟩, fun D hD => lcS (walk_tup (K := K) (a := b) (xs := zs)) hD (slt (by omega)) (fun i y => y = .bl (isEntryD n (ps.getD i .none) && nzD (ps.getD i .none))) (fun H e => e.seqT hz1) (fun i x H2 H3 Q1 hi e y q1 => ?_) (fun H2 ys e hy hn2 hr2 => ?_)⟩
            · obtain ⟨rfl, hx⟩ := y
              obtain ⟨d, hd1, hd2⟩ := hza.getV hx
              have ed : ps.getD i .none = d := by simp [hd1]
              rw [ed] at q1
              walk_at "nf"
              walk_at "sx"
              refine ⟨x, d, n, rfl, (hd2.to s1).to e, hn, fun H4 e4 => ?_⟩
              refine ⟨_, rfl, ?_⟩
              cases e5 : isEntryD n d with
              | false =>
                rw [e5, Bool.false_and] at q1
                exact iteF (q1 _ _ rfl e4)
              | true =>
                rw [e5, Bool.true_and] at q1
                obtain ⟨xs, rfl, _, _⟩ := entry_ints e5
                obtain ⟨b2, rfl, hb2⟩ := (((hd2.to s1).to e).to e4).ints_tup
                rw [nz_ints] at q1
                exact iteT ⟨b2, xs, rfl, hb2, q1 _ _ rfl e4⟩
            · have ev := vals_bl (f := fun i => isEntryD n (ps.getD i .none) && nzD (ps.getD i .none)) hn2 hr2
              rw [hzl] at ev
              have e6 : (List.range ps.length).map (fun i => isEntryD n (ps.getD i .none) && nzD (ps.getD i .none)) = ps.map fun p => isEntryD n p && nzD p := by_places ps .none fun p => isEntryD n p && nzD p
              rw [e6] at ev
              subst ev
              have s2 := s1.trans e
              refine ⟨D, _, rfl, .of hy, _, rfl, ?_⟩
              have eall : (ps.map fun p => isEntryD n p && nzD p).all id = ps.all fun p => isEntryD n p && nzD p := by rw [List.all_map]; rfl
              rw [eall]
              cases e7 : (ps.all fun p => isEntryD n p && nzD p) with
              | false =>
                rw [e7, Bool.false_and] at e12
                rw [e12] at k
                exact iteT (k _ s2)
              | true =>
                rw [e7, Bool.true_and] at e12
                rw [e12] at k
                have hz2 := s2.seqT hz
                have each : ∀ i, i < ps.length → ∃ xs : List Int, ps.getD i .none = intsD xs := fun i hi => by
                  have := List.all_eq_true.mp e7 (ps.getD i .none) (by simp [hi])
                  rw [Bool.and_eq_true] at this
                  obtain ⟨xs, h, _⟩ := entry_ints this.1
                  exact ⟨xs, h⟩
                refine iteF ⟨_, rfl, b, rfl, zs, .inr hz2, _, _, rfl, rfl, (zs.length : Int) - 1, rfl, by omega, by omega, fun D2 hD2 => lcS walk_range hD2 (slt (by omega)) (fun i y => y = .bl (ltAt ps i)) (fun _ _ => trivial) (fun i x H3 H4 Q1 hi e8 y q1 => ?_) (fun H3 ys e8 hy3 hn3 hr3 => ?_)⟩
                · obtain ⟨rfl, rfl⟩ := y
                  have ez : (0 + (i : Int)) = ((i : Nat) : Int) := by omega
                  have hi2 : i + 1 < ps.length := by omega
                  obtain ⟨x1, hx1, ha1, hd1⟩ := hza.at_ (show i < ps.length by omega)
                  obtain ⟨x2, hx2, ha2, hd2⟩ := hza.at_ hi2
                  obtain ⟨xs1, ex1⟩ := each i (by omega)
                  obtain ⟨xs2, ex2⟩ := each (i + 1) hi2
                  have hz3 := e8.seqT hz2
                  walk_at "nf"
                  walk_at "sx"
                  rw [ez]
                  refine ⟨_, hz3, x1, ha1, _, hz3, x2, by rw [show ((i : Int) + 1) = ((i + 1 : Nat) : Int) by omega]; exact ha2, _, _, (hd1.to s2).to e8, (hd2.to s2).to e8, ?_, ?_, ?_, q1 _ _ rfl (Same.refl _)⟩
                  · rw [ex1, ex2]
                    exact alike_intsD _ _
                  · rw [ex1]
                    exact fun z => by cases z
                  · rw [ex1, depth_intsD]
                    decide
                · have ev := vals_bl (f := ltAt ps) hn3 hr3
                  have e9 : ((zs.length : Int) - 1).toNat = ps.length - 1 := by omega
                  rw [e9] at ev
                  subst ev
                  refine ⟨D2, _, rfl, .of hy3, ?_⟩
                  have ea : ((List.range (ps.length - 1)).map (ltAt ps)).all id = ascD ps := by unfold ascD; rw [List.all_map]; rfl
                  rw [ea]
                  exact k _ (s2.trans e8)
          · rw [decide_eq_true (by omega)]
            rw [decide_eq_false c12, Bool.false_and, Bool.false_and] at e12
            rw [e12] at k
            exact iteT (k _ s1)
        | _ =>
          rw [e12] at k
          exact iteT (k _ s1)
end
section
variable {P : Program} {w : World} {K : PySem.W.Frag} {mg : Str → Option Value} {base : Heap} {BS TG BW : Addr}
theorem badL_none {m : Int} {ls : List PyData} (h : ∀ i, i < ls.length → badAt m ls i = false) : (List.range ls.length).find? (badAt m ls) = none := by
  rw [List.find?_eq_none]
  intro i hi
  rw [h i (List.mem_range.mp hi)]
  decide
theorem find_first {f : Nat → Bool} {i n : Nat} (hi : i < n) (h : ∀ j, j < i → f j = false) (e : f i = true) : (List.range n).find? f = some i := by
  have em : List.range n = List.range i ++ i :: (List.range (n - (i + 1))).map (fun k => (i + 1) + k) := by
    have h2 : n = (i + 1) + (n - (i + 1)) := by omega
    conv => lhs; rw [h2, List.range_add, List.range_succ]
    simp
  have h0 : (List.range i).find? f = none := List.find?_eq_none.mpr fun j hj => by rw [h j (List.mem_range.mp hj)]; decide
  rw [em, List.find?_append, h0, List.find?_cons, e]
  rfl
theorem alikeAll_ln : ∀ (a b : List PyData), (∀ x ∈ a, ∃ xs : List Int, x = intsD xs) → (∀ x ∈ b, ∃ xs : List Int, x = intsD xs) → PySem.W.alikeAll a b = true
  | [], _, _, _ => by simp [PySem.W.alikeAll]
  | _ :: _, [], _, _ => by simp [PySem.W.alikeAll]
  | x :: a, y :: b, h1, h2 => by
    obtain ⟨xs, rfl⟩ := h1 x (by simp)
    obtain ⟨ys, rfl⟩ := h2 y (by simp)
    simp only [PySem.W.alikeAll, alike_intsD, Bool.true_and]
    exact alikeAll_ln a b (fun z hz => h1 z (List.mem_cons_of_mem _ hz)) fun z hz => h2 z (List.mem_cons_of_mem _ hz)
theorem line_shape {m : Int} {d : PyData} (h : isLineD m d = true) : ∃ (b : List Int) (ps : List PyData), d = .tuple [intsD b, .tuple ps] ∧ ∀ x ∈ ps, ∃ xs : List Int, x = intsD xs := by
  unfold isLineD at h
  split at h
  · rename_i c ps
    simp only [Bool.and_eq_true, List.all_eq_true] at h
    obtain ⟨xs, rfl, _⟩ := entry_ints h.1.1
    refine ⟨xs, ps, rfl, fun x hx => ?_⟩
    obtain ⟨ys, h1, _⟩ := entry_ints (h.1.2.2 x hx).1
    exact ⟨ys, h1⟩
  · cases h
theorem line_alike {m : Int} {d e : PyData} (h1 : isLineD m d = true) (h2 : isLineD m e = true) : PySem.W.alike d e = true := by
  obtain ⟨b, ps, rfl, hp⟩ := line_shape h1
  obtain ⟨c, qs, rfl, hq⟩ := line_shape h2
  simp only [PySem.W.alike, PySem.W.alikeAll, alike_intsD, Bool.true_and, Bool.and_true]
  exact alikeAll_ln ps qs hp hq
theorem depthAll_ints : ∀ (ps : List PyData), (∀ x ∈ ps, ∃ xs : List Int, x = intsD xs) → PyData.depthAll ps ≤ 1
  | [], _ => by simp [PyData.depthAll]
  | x :: ps, h => by
    obtain ⟨xs, rfl⟩ := h x (by simp)
    have := depthAll_ints ps fun z hz => h z (List.mem_cons_of_mem _ hz)
    simp only [PyData.depthAll, depth_intsD]
    omega
theorem line_depth {m : Int} {d : PyData} (h : isLineD m d = true) : d.depth ≤ 3 := by
  obtain ⟨b, ps, rfl, hp⟩ := line_shape h
  have := depthAll_ints ps hp
  simp only [PyData.depth, PyData.depthAll, depth_intsD]
  omega
theorem ok_need_set (B : Bl mg) (C : CsL mg) (T : ErS P w K mg base BS TG BW) (F1 : Df P w K mg base CX0 1 "is_tuple_of" pr_is_tuple_of (spIsTupleOf K)) (F2 : Df P w K mg base CX0 2 "is_between" pr_is_between (spIsBetween K)) (F3 : Df P w K mg base CX0 5 "is_line" pr_is_line (spIsLine K)) (D : Dt K mg "need_set" s_need_set pr_need_set) : Df P w K mg base (L2.CX P w) 6 "need_set" pr_need_set (spNeedSet K BS TG) := by
  refine D.okX sc_need_set (fun vs H Q E h => ?_) (fun f cdv A outer s H vs Q E hr h => ?_)
  · obtain ⟨v, d, rfl, _⟩ := h
    rfl
  · obtain ⟨v, d, rfl, hd, k1, k2, k3⟩ := h
    refine ⟨_, (pss_cons (ps_if (PW.pt (pw_or (pt_not (pt_val (pe_f F1 (hr.mono (by decide)) pass0 (pa_cons (pv 0) (pa_cons pe_int pa_nil))))) (pw_or (pt_not (pt_val (pe_f F2 (hr.mono (by decide)) pass0 (pa_cons (pe_ix ix_tup (pv 0) pe_int (fun _ _ => rfl)) (pa_cons pe_int (pa_cons pe_int pa_nil)))))) (pw_or1 (pt_not (pt_val (pe_callB call_isi (by rfl) B.isinstance boot_isinstance (pa_cons (pe_ix ix_tup (pv 0) pe_int (fun _ _ => rfl)) (pa_cons (pe_bltn (v := .ty "tuple") (by rfl) B.tuple PyProof.Rows.boot_tuple rfl) pa_nil))))))))) (pss_one (ps_rz rfl T.BadSet (hr.mono (by decide)) (takes_of rfl rfl rfl rfl) (by rfl) pe_int)) pss_nil) (pss_cons (ps_asg (pv 0) (pg_tup rfl (pgs_cons (pg_name (i := 1) sc_need_set.nd rfl (Or.inl rfl)) (pgs_cons (pg_name (i := 2) sc_need_set.nd rfl (Or.inl rfl)) pgs_nil)))) (pss_cons (ps_if (pt_cmpR op_gt (pe_callB call_len_seq (by rfl) B.len PySem.boot_len (pa_cons (pv 2) pa_nil)) (pe_glob (v := .int 400) rfl C.MOST_LINES.choose_spec ⟨_, rfl⟩) (nomark _)) (pss_one (ps_rz rfl T.TooGreat (hr.mono (by decide)) (takes_of rfl rfl rfl rfl) (by rfl) (pe_glob (v := .int 400) rfl C.MOST_LINES.choose_spec ⟨_, rfl⟩))) pss_nil) (pss_cons (ps_for (passes_of rfl) rfl (pi_enumT (by rfl) B.enumerate (pa_cons (pv 2) pa_nil)) (pg_tup rfl (pgs_cons (pg_name (i := 3) sc_need_set.nd rfl (Or.inl rfl)) (pgs_cons (pg_name (i := 4) sc_need_set.nd rfl (Or.inl rfl)) pgs_nil))) (pss_one (ps_if (PW.pt (pw_or (pt_not (pt_val (pe_f F3 (hr.mono (by decide)) pass0 (pa_cons (pv 4) (pa_cons (pv 1) pa_nil))))) (pw_or1 (PW.pt (pw_and (pt_cmpR op_gt (pv 3) pe_int (nomark _)) (pw_and1 (pt_cmpR (op_leD (hu65 hr)) (pv 4) (pe_ix ix_tup (pv 2) (pe_op op_sub (pv 3) pe_int) (fun _ _ => rfl)) (nomark _)))))))) (pss_one (ps_rz rfl T.BadSet (hr.mono (by decide)) (takes_of rfl rfl rfl rfl) (by rfl) (pe_op op_add (pv 3) pe_int))) pss_nil))) (pss_one (ps_ret (pv 0))))))), ?_⟩
    walk_at "nf"
    walk_at "sx"
    have bad : ∀ (n : Nat), setF d = .bad n → ∀ {σ : L2.St} {H1 : Hp}, Same H H1 → rzQ BS "place" (fun cls d x H => E cls d H) σ (V.int (n : Nat)) H1 := fun n e _ _ s1 => rz_f (k2 n e) s1 (.int _)
    have great : setF d = .great → ∀ {σ : L2.St} {H1 : Hp}, Same H H1 → rzQ TG "most" (fun cls d x H => E cls d H) σ (V.int 400) H1 := fun e _ _ s1 => rz_f (k3 e) s1 (.int _)
    refine ⟨v, d, 2, rfl, hd, _, rfl, ?_⟩
    cases e0 : isTn d 2 with
    | false =>
      have ef : setF d = .bad 0 := by
        unfold setF
        split
        · simp [isTn] at e0
        · rfl
      exact iteT (bad 0 ef (Same.refl _))
    | true =>
      obtain ⟨ds, rfl, hl⟩ := isTn_tup e0
      match ds, hl with
      | [c, rows], _ =>
      obtain ⟨a, xs, rfl, hs, ha⟩ := hd.tup_inv
      obtain ⟨cv, rv, rfl, hc, hrw⟩ := ha.two
      refine iteF ⟨a, rfl, _, hs, _, rfl, cv, c, 1, 4, rfl, hc, _, rfl, ?_⟩
      cases e1 : isBt c 1 4 with
      | false =>
        have ef : setF (.tuple [c, rows]) = .bad 0 := by cases rows <;> simp [setF, e1]
        exact iteT (bad 0 ef (Same.refl _))
      | true =>
        refine iteF ⟨a, rfl, _, hs, _, rfl, isi_tuple hrw ⟨_, rfl, ?_⟩⟩
        cases rows with
        | tuple ds =>
          obtain ⟨b, zs, rfl, hs2, ha2⟩ := hrw.tup_inv
          have hl2 := ha2.length
          refine iteF ⟨a, rfl, _, hs, rfl, cv, _, rfl, _, _, rfl, rfl, b, rfl, zs, .inr hs2, ?_⟩
          obtain ⟨n, rfl⟩ : ∃ n, c = .int n := by
            cases c with
            | int n => exact ⟨n, rfl⟩
            | _ => cases e1
          have hc2 := hc.int_inv
          subst hc2
          have hn : 1 ≤ n ∧ n ≤ 4 := by simpa [isBt] using e1
          by_cases c12 : 400 < ds.length
          · rw [decide_eq_true (by rw [hl2]; omega)]
            have ef : setF (.tuple [.int n, .tuple ds]) = .great := by simp [setF, e1, c12]
            exact iteT (great ef (Same.refl _))
          · rw [decide_eq_false (by rw [hl2]; omega)]
            have ef : ∀ o, (List.range ds.length).find? (badAt n ds) = o → setF (.tuple [.int n, .tuple ds]) = match o with | some i => .bad (i + 1) | none => .ok := fun o e => by
              show (if isBt (.int n) 1 4 = true then (if 400 < ds.length then SF.great else match (List.range ds.length).find? (badAt n ds) with | some i => SF.bad (i + 1) | none => SF.ok) else SF.bad 0) = _
              rw [if_pos e1, if_neg c12, e]
            refine iteF ⟨_, rfl, b, zs, rfl, hs2, for_it (walk_enumT (xs := zs)) (fun i σ H' => Same H H' ∧ (∃ v4 v5, σ = [some (.ref a), some (.int n), some (.ref b), v4, v5]) ∧ ∀ j, j < i → badAt n ds j = false) ⟨Same.refl _, ⟨_, _, rfl⟩, fun j hj => by omega⟩ (fun i σ H' _ p => p.1.seqT hs2) (fun i x σ H1 H2 hi p y => ?_) (fun σ H1 p => ?_)⟩
            · obtain ⟨s1, ⟨v4, v5, rfl⟩, fb⟩ := p
              obtain ⟨T, x1, x2, rfl, hT, rfl, h1, h2⟩ := y
              obtain rfl : V.int (i : Nat) = x1 := Option.some.inj h1
              obtain ⟨d2, hd1, hd2⟩ := ha2.getV h2
              have s2 : Same H1 (upd H1 T (.tup [V.int (i : Nat), x2])) := Same.new hT
              have hi2 : i < ds.length := by rw [← hl2]; exact hi
              have ed2 : ds.getD i .none = d2 := by simp [hd1]
              walk_at "nf"
              refine ⟨T, _, rfl, .of upd_same, rfl, ?_⟩
              walk_at "sx"
              refine ⟨x2, d2, n, rfl, (hd2.to s1).to s2, by omega, fun H3 s3 => ⟨_, rfl, ?_⟩⟩
              have s4 := (s1.trans s2).trans s3
              have hit : badAt n ds i = true → setF (.tuple [.int n, .tuple ds]) = .bad (i + 1) := fun e => ef _ (find_first hi2 fb e)
              cases e5 : isLineD n d2 with
              | false =>
                refine iteT ?_
                have := bad (i + 1) (hit (by unfold badAt; rw [ed2, e5]; rfl)) (σ := [some (V.ref a), some (V.int n), some (V.ref b), some (V.int (i : Nat)), some x2]) s4
                exact this
              | true =>
                refine iteF ?_
                have next : badAt n ds i = false → ∀ j, j < i + 1 → badAt n ds j = false := fun e j hj => by
                  by_cases z : j = i
                  · rw [z]; exact e
                  · exact fb j (by omega)
                by_cases c0 : 0 < i
                · rw [decide_eq_true (by omega)]
                  obtain ⟨y1, hy1, hy2, hy3⟩ := ha2.at_ (show i - 1 < ds.length by omega)
                  have pl : isLineD n (ds.getD (i - 1) .none) = true := by
                    have := fb (i - 1) (by omega)
                    unfold badAt at this
                    simp only [Bool.or_eq_false_iff, Bool.not_eq_false'] at this
                    exact this.1
                  have eb : badAt n ds i = !PySem.W.dataLt (ds.getD (i - 1) .none) d2 := by
                    unfold badAt
                    rw [ed2, e5, decide_eq_true c0]
                    rfl
                  refine iteT ⟨_, s4.seqT hs2, y1, by rw [show ((i : Int) - 1) = ((i - 1 : Nat) : Int) by omega]; exact hy2, d2, ds.getD (i - 1) .none, ((hd2.to s1).to s2).to s3, hy3.to s4, line_alike e5 pl, (fun z => by subst z; cases e5), by have := line_depth e5; omega, _, rfl, ?_⟩
                  cases e6 : PySem.W.dataLt (ds.getD (i - 1) .none) d2 with
                  | false => exact iteT (bad (i + 1) (hit (by rw [eb, e6]; rfl)) s4)
                  | true => exact iteF ⟨s4, ⟨_, rfl⟩, next (by rw [eb, e6]; rfl)⟩
                · rw [decide_eq_false (by omega)]
                  exact iteF ⟨s4, ⟨_, rfl⟩, next (by unfold badAt; rw [ed2, e5, decide_eq_false c0]; rfl)⟩
            · obtain ⟨s1, ⟨v4, v5, rfl⟩, fb⟩ := p
              walk_at "nf"
              refine ⟨_, rfl, k1 (ef none (badL_none fun i hi => fb i (by rw [hl2]; exact hi))) _ s1⟩
        | _ => exact iteT (bad 0 (by simp [setF, e1]) (Same.refl _))
end
end Ws
/-! ## S25 -/
/-! what a set is made of: rows and lines in order, each once -/
namespace Ws
open PySem PySem.Spec PyProof.Rows L2
theorem lt_one_way {x y : PyData} (h : PySem.W.alike x y = true) (e : PyData.eqv x y = false) (h1 : PySem.W.dataLt y x = false) : PySem.W.dataLt x y = true := by
  cases h2 : PySem.W.dataLt x y with
  | true => rfl
  | false =>
    exfalso
    have ek : PySem.W.keyToks x = PySem.W.keyToks y := lex_total (O := itemOrd) _ _ h2 h1
    have q := (PySem.W.toks_eqv x y h).2 e [] [.inl 0]
    rw [ek, PySem.W.lex_pre] at q
    have i := lex_irrefl (O := itemOrd) (PySem.W.keyToks y)
    rw [i] at q
    cases q
theorem lt_irr (x : PyData) : PySem.W.dataLt x x = false := lex_irrefl (O := itemOrd) _
theorem lt_tr {x y z : PyData} (h : PySem.W.dataLt x y = true) (h2 : PySem.W.dataLt y z = true) : PySem.W.dataLt x z = true := lex_trans (O := itemOrd) _ _ _ h h2
theorem lt_not {x y : PyData} (h : PySem.W.dataLt x y = true) : PySem.W.dataLt y x = false := by
  cases e : PySem.W.dataLt y x with
  | false => rfl
  | true =>
    have := lt_tr h e
    rw [lt_irr] at this
    cases this
theorem eqvAll_rows : ∀ xs ys : List Sq.Row, PyData.eqvAll (xs.map intsD) (ys.map intsD) = decide (xs = ys)
  | [], [] => by simp [PyData.eqvAll]
  | [], y :: ys => by simp [PyData.eqvAll]
  | x :: xs, [] => by simp [PyData.eqvAll]
  | x :: xs, y :: ys => by
    have := eqvAll_rows xs ys
    rw [List.map_cons, List.map_cons]
    simp only [PyData.eqvAll, this, eqv_ints]
    by_cases c : x = y <;> by_cases d : xs = ys <;> simp [c, d]
abbrev Ln := Sq.Row × List Sq.Row
def lineD (l : Ln) : PyData := lnD l.1 l.2
theorem eqv_ln (l r : Ln) : PyData.eqv (lineD l) (lineD r) = decide (l = r) := by
  obtain ⟨a, b⟩ := l
  obtain ⟨c, d⟩ := r
  show PyData.eqv (.tuple [intsD a, .tuple (b.map intsD)]) (.tuple [intsD c, .tuple (d.map intsD)]) = _
  simp only [PyData.eqv, PyData.eqvAll, eqv_ints, eqvAll_rows]
  by_cases e : a = c <;> by_cases f : b = d <;> simp [e, f]
theorem alikeAll_rows : ∀ xs ys : List Sq.Row, PySem.W.alikeAll (xs.map intsD) (ys.map intsD) = true
  | [], ys => by simp [PySem.W.alikeAll]
  | x :: xs, [] => by simp [PySem.W.alikeAll]
  | x :: xs, y :: ys => by
    have := alikeAll_rows xs ys
    rw [List.map_cons, List.map_cons]
    simp only [PySem.W.alikeAll, this, alike_intsD]
    rfl
theorem alike_ln (l r : Ln) : PySem.W.alike (lineD l) (lineD r) = true := by
  obtain ⟨a, b⟩ := l
  obtain ⟨c, d⟩ := r
  show PySem.W.alike (.tuple [intsD a, .tuple (b.map intsD)]) (.tuple [intsD c, .tuple (d.map intsD)]) = true
  simp only [PySem.W.alike, PySem.W.alikeAll, alike_intsD, alikeAll_rows]
  rfl
/-- data of a kind: alike, and unlike things have unlike data -/
structure Knd {α : Type} (f : α → PyData) : Prop where
  al : ∀ x y, PySem.W.alike (f x) (f y) = true
  inj : ∀ x y, PyData.eqv (f x) (f y) = true → x = y
theorem knd_row : Knd intsD := ⟨alike_intsD, fun x y h => by rw [eqv_ints] at h; exact of_decide_eq_true h⟩
theorem knd_ln : Knd lineD := ⟨alike_ln, fun x y h => by rw [eqv_ln] at h; exact of_decide_eq_true h⟩
/-- out: the things of xs, each once, ascending -/
structure Canon {α : Type} (f : α → PyData) (xs out : List α) : Prop where
  nd : out.Nodup
  or : Ord (out.map f)
  mem : ∀ x, x ∈ out ↔ x ∈ xs
def Asc {α : Type} (f : α → PyData) (xs : List α) : Prop := xs.Pairwise fun x y => PySem.W.dataLt (f x) (f y) = true
section
variable {α : Type} {f : α → PyData}
theorem Canon.asc (k : Knd f) {xs out : List α} (c : Canon f xs out) : Asc f out := by
  have o := List.pairwise_map.mp c.or
  refine (List.Pairwise.and o c.nd).imp fun {x y} h => lt_one_way (k.al x y) ?_ h.1
  cases e : PyData.eqv (f x) (f y) with
  | false => rfl
  | true => exact absurd (k.inj x y e) h.2
theorem Asc.uniq {xs ys : List α} (h1 : Asc f xs) (h2 : Asc f ys) (m : ∀ x, x ∈ xs ↔ x ∈ ys) : xs = ys := by
  have nd : ∀ {zs : List α}, Asc f zs → zs.Nodup := fun h => h.imp fun {x y} h e => by rw [e, lt_irr] at h; cases h
  exact List.Perm.eq_of_pairwise (le := fun x y => PySem.W.dataLt (f x) (f y) = true) (fun a b _ _ h h' => by rw [lt_not h] at h'; cases h') h1 h2 ((List.perm_ext_iff_of_nodup (nd h1) (nd h2)).mpr m)
theorem Canon.of_asc {xs out : List α} (h : Asc f out) (m : ∀ x, x ∈ out ↔ x ∈ xs) : Canon f xs out :=
  ⟨List.Pairwise.imp (fun {x y} (h : PySem.W.dataLt (f x) (f y) = true) e => by rw [e, lt_irr] at h; cases h) h, List.pairwise_map.mpr (List.Pairwise.imp (fun h => lt_not h) h), m⟩
theorem Canon.uniq (k : Knd f) {xs a b : List α} (h1 : Canon f xs a) (h2 : Canon f xs b) : a = b := (h1.asc k).uniq (h2.asc k) fun x => (h1.mem x).trans (h2.mem x).symm
theorem Canon.len {xs out : List α} (c : Canon f xs out) (h : xs.Nodup) : out.length = xs.length := ((List.perm_ext_iff_of_nodup c.nd h).mpr c.mem).length_eq
theorem Canon.le [DecidableEq α] {xs out : List α} (c : Canon f xs out) : out.length ≤ xs.length := by
  have : ∀ (a b : List α), a.Nodup → (∀ x ∈ a, x ∈ b) → a.length ≤ b.length := by
    intro a
    induction a with
    | nil => intro b _ _; simp
    | cons x a ih =>
      intro b hn hm
      obtain ⟨n1, n2⟩ := List.nodup_cons.mp hn
      have hx := hm x List.mem_cons_self
      have := ih (b.erase x) n2 fun y hy => (List.mem_erase_of_ne fun e => n1 (by rw [← e]; exact hy)).mpr (hm y (List.mem_cons_of_mem _ hy))
      rw [List.length_erase_of_mem hx] at this
      have := List.length_pos_of_mem hx
      rw [List.length_cons]
      omega
  exact this out xs c.nd fun x hx => (c.mem x).mp hx
end
def nzR (r : Sq.Row) : Bool := r.any fun x => x != 0
/-- the rows ascending, each once, without zeros -/
structure Unl (rows out : List Sq.Row) : Prop where
  asc : Asc intsD out
  mem : ∀ r, r ∈ out ↔ r ∈ rows ∧ nzR r = true
theorem Unl.uniq {rows a b : List Sq.Row} (h1 : Unl rows a) (h2 : Unl rows b) : a = b := h1.asc.uniq h2.asc fun x => (h1.mem x).trans (h2.mem x).symm
/-- line by line -/
inductive Clean : List Ln → List Ln → Prop
  | nil : Clean [] []
  | cons {l : Ln} {out : List Sq.Row} {ls fs : List Ln} : Unl l.2 out → Clean ls fs → Clean (l :: ls) ((l.1, out) :: fs)
theorem Clean.uniq : ∀ {ls a b : List Ln}, Clean ls a → Clean ls b → a = b
  | _, _, _, .nil, .nil => rfl
  | _, _, _, .cons u c, .cons v d => by rw [u.uniq v, c.uniq d]
theorem Clean.len : ∀ {ls fs : List Ln}, Clean ls fs → fs.length = ls.length
  | _, _, .nil => rfl
  | _, _, .cons u c => by rw [List.length_cons, List.length_cons, c.len]
theorem Clean.snoc : ∀ {ls fs : List Ln} {l : Ln} {out : List Sq.Row}, Clean ls fs → Unl l.2 out → Clean (ls ++ [l]) (fs ++ [(l.1, out)])
  | _, _, _, _, .nil, u => .cons u .nil
  | _, _, _, _, .cons v c, u => .cons v (c.snoc u)
/-- the set of lines -/
structure SetFrom (ls out : List Ln) : Prop where
  ex : ∃ fs, Clean ls fs ∧ Canon lineD fs out
theorem SetFrom.uniq {ls a b : List Ln} (h1 : SetFrom ls a) (h2 : SetFrom ls b) : a = b := by
  obtain ⟨f, c1, k1⟩ := h1.ex
  obtain ⟨g, c2, k2⟩ := h2.ex
  rw [c1.uniq c2] at k1
  exact k1.uniq knd_ln k2
def setD (m : Nat) (ls : List Ln) : PyData := .tuple [.int (m : Nat), .tuple (ls.map lineD)]
end Ws
/-! ## F25 -/
/-! unions, sums and stars of sets of lines, as plain functions -/
namespace Ws
open PySem PySem.Spec PyProof.Rows L2
section
variable {α : Type} [DecidableEq α]
def ltB (f : α → PyData) (x y : α) : Bool := !PySem.W.dataLt (f y) (f x)
/-- each once, in order -/
def cnf (f : α → PyData) (xs : List α) : List α := (xs.eraseDups).mergeSort (ltB f)
theorem dedup_nodup : ∀ (n : Nat) (xs : List α), xs.length ≤ n → xs.eraseDups.Nodup := by
  intro n
  induction n with
  | zero =>
    intro xs h
    cases xs with
    | nil => simp
    | cons x xs => simp at h
  | succ n ih =>
    intro xs h
    cases xs with
    | nil => simp
    | cons x xs =>
      rw [List.eraseDups_cons, List.nodup_cons]
      refine ⟨fun hm => ?_, ih _ ?_⟩
      · have := List.mem_eraseDups.mp hm
        have := (List.mem_filter.mp this).2
        simp at this
      · have := List.length_filter_le (fun b => !b == x) xs
        rw [List.length_cons] at h
        omega
theorem cnf_canon {f : α → PyData} (k : Knd f) (xs : List α) : Canon f xs (cnf f xs) := by
  have pm := List.mergeSort_perm xs.eraseDups (ltB f)
  refine ⟨(pm.nodup_iff).mpr (dedup_nodup _ _ (Nat.le_refl _)), ?_, fun x => by
    unfold cnf
    rw [pm.mem_iff]
    exact List.mem_eraseDups⟩
  unfold Ord cnf
  rw [List.pairwise_map]
  refine (List.pairwise_mergeSort (le := ltB f) (fun a b c h1 h2 => ?_) (fun a b => ?_) xs.eraseDups).imp fun {x y} h => ?_
  · unfold ltB at *
    simp only [Bool.not_eq_true'] at *
    cases e : PySem.W.dataLt (f c) (f a) with
    | false => rfl
    | true =>
      exfalso
      by_cases eq : f b = f c
      · rw [eq] at h1
        rw [e] at h1
        cases h1
      · have hb : PySem.W.dataLt (f b) (f c) = true := by
          refine lt_one_way (k.al b c) ?_ h2
          cases z : PyData.eqv (f b) (f c) with
          | false => rfl
          | true => exact absurd (congrArg f (k.inj b c z)) eq
        have := lt_tr hb e
        rw [this] at h1
        cases h1
  · unfold ltB
    rw [Bool.or_eq_true]
    cases e : PySem.W.dataLt (f b) (f a) with
    | false => exact .inl rfl
    | true => exact .inr (by rw [lt_not e]; rfl)
  · unfold ltB at h
    simpa using h
end
def ul (rows : List Sq.Row) : List Sq.Row := (cnf intsD rows).filter nzR
theorem ul_unl (rows : List Sq.Row) : Unl rows (ul rows) :=
  ⟨List.Pairwise.filter _ ((cnf_canon knd_row rows).asc knd_row), fun r => by unfold ul; rw [List.mem_filter, (cnf_canon knd_row rows).mem]⟩
def cl (l : Ln) : Ln := (l.1, ul l.2)
theorem clean_cl : ∀ ls : List Ln, Clean ls (ls.map cl)
  | [] => .nil
  | l :: ls => .cons (ul_unl l.2) (clean_cl ls)
def cnL (ls : List Ln) : List Ln := cnf lineD (ls.map cl)
inductive SW
  | ok (out : List Ln)
  | great (n : Nat)
def setW (ls : List Ln) : SW := if (ls.map cl).any (fun f => decide (12 < f.2.length)) then .great 12 else if 400 < (cnL ls).length then .great 400 else .ok (cnL ls)
theorem setW_use {A : List Ln → Prop} {G : Int → Prop} {ls : List Ln} (h1 : ∀ out, setW ls = .ok out → A out) (h2 : ∀ n : Nat, setW ls = .great n → G (n : Nat)) : ∀ fs, Clean ls fs → ((∃ f ∈ fs, 12 < f.2.length) → G 12) ∧ ((∀ f ∈ fs, f.2.length ≤ 12) → ∀ out, Canon lineD fs out → (400 < out.length → G 400) ∧ (out.length ≤ 400 → A out)) := fun fs c => by
  obtain rfl := c.uniq (clean_cl ls)
  refine ⟨fun ⟨f, hf, h⟩ => h2 12 ?_, fun n out co => ?_⟩
  · unfold setW
    rw [if_pos (List.any_eq_true.mpr ⟨f, hf, decide_eq_true h⟩)]
  · obtain rfl := co.uniq knd_ln (cnf_canon knd_ln (ls.map cl))
    have e : ¬ ((ls.map cl).any (fun f => decide (12 < f.2.length)) = true) := fun h => by
      obtain ⟨f, hf, h⟩ := List.any_eq_true.mp h
      have := of_decide_eq_true h
      have := n f hf
      omega
    refine ⟨fun h => h2 400 ?_, fun h => h1 _ ?_⟩
    · unfold setW
      rw [if_neg e, if_pos (show 400 < (cnL ls).length from h)]
    · unfold setW
      rw [if_neg e, if_neg (by show ¬ 400 < (cnf lineD (ls.map cl)).length; omega)]
      rfl
/-- what a line that is made is refused for -/
def mxR (r : Sq.Row) : Int := r.foldl max 0
def badLn (l : Ln) : Option Nat := if l.1.any (fun x => decide (10 ^ 9 < x)) then some (10 ^ 9) else if 12 < (ul l.2).length then some 12 else none
def unionW (a b : List Ln) : SW := setW (a ++ b)
def prods (a b : List Ln) : List Ln := a.flatMap fun x => b.map fun y => (Sq.addk x.1 y.1 1, x.2 ++ y.2)
def sumW (a b : List Ln) : SW := if 400 < a.length * b.length then .great 400 else match (prods a b).findSome? badLn with
  | some n => .great n
  | none => setW (prods a b)
/-- the choices among n, in order -/
def sub (n : Nat) : List (List Int) := (List.range (2 ^ n - 1)).map fun b => ((List.range n).filter fun at_ => decide ((b + 1) / 2 ^ at_ % 2 = 1)).map fun (k : Nat) => (k : Int)
def chc (n : Nat) : List (List Int) := (sub n).mergeSort (ltB intsD)
def starOf (m : Nat) (ls : List Ln) (c : List Int) : Ln := c.foldl (fun acc k => (Sq.addk acc.1 (ls.getD k.toNat ([], [])).1 1, acc.2 ++ (ls.getD k.toNat ([], [])).2 ++ [(ls.getD k.toNat ([], [])).1])) (List.replicate m 0, [])
def starL (m : Nat) (ls : List Ln) : List Ln := (List.replicate m 0, []) :: (chc ls.length).map (starOf m ls)
def starW (m : Nat) (ls : List Ln) : SW := if 8 < ls.length then .great 400 else match ((chc ls.length).map (starOf m ls)).findSome? badLn with
  | some n => .great n
  | none => setW (starL m ls)
theorem chc_perm (n : Nat) : (chc n).Perm (sub n) := List.mergeSort_perm _ _
theorem ltB_ord {α : Type} {f : α → PyData} (k : Knd f) (xs : List α) : Ord ((xs.mergeSort (ltB f)).map f) := by
  unfold Ord
  rw [List.pairwise_map]
  refine (List.pairwise_mergeSort (le := ltB f) (fun a b c h1 h2 => ?_) (fun a b => ?_) xs).imp fun {x y} h => ?_
  · unfold ltB at *
    simp only [Bool.not_eq_true'] at *
    cases e : PySem.W.dataLt (f c) (f a) with
    | false => rfl
    | true =>
      exfalso
      by_cases eq : f b = f c
      · rw [eq] at h1
        rw [e] at h1
        cases h1
      · have hb : PySem.W.dataLt (f b) (f c) = true := by
          refine lt_one_way (k.al b c) ?_ h2
          cases z : PyData.eqv (f b) (f c) with
          | false => rfl
          | true => exact absurd (congrArg f (k.inj b c z)) eq
        have := lt_tr hb e
        rw [this] at h1
        cases h1
  · unfold ltB
    rw [Bool.or_eq_true]
    cases e : PySem.W.dataLt (f b) (f a) with
    | false => exact .inl rfl
    | true => exact .inr (by rw [lt_not e]; rfl)
  · unfold ltB at h
    simpa using h
theorem ord_uniq {α : Type} {f : α → PyData} (k : Knd f) {xs ys : List α} (p : xs.Perm ys) (h1 : Ord (xs.map f)) (h2 : Ord (ys.map f)) : xs = ys := by
  have q1 := List.pairwise_map.mp h1
  have q2 := List.pairwise_map.mp h2
  exact List.Perm.eq_of_pairwise (le := fun x y => PySem.W.dataLt (f y) (f x) = false) (fun a b _ _ h h' => by
    cases e : PyData.eqv (f a) (f b) with
    | true => exact k.inj a b e
    | false =>
      have := lt_one_way (k.al a b) e h
      rw [this] at h'
      cases h') q1 q2 p
theorem chc_of {n : Nat} {ys : List (List Int)} (p : ys.Perm (sub n)) (h : Ord (ys.map intsD)) : ys = chc n :=
  ord_uniq knd_row (p.trans (chc_perm n).symm) h (ltB_ord knd_row _)
end Ws
/-! ## F27 -/
namespace Sq
def subr (r o : Row) : Row := List.zipWith (fun n m => n - m) r o
def negB (r : Row) : Bool := r.any fun x => decide (x < 0)
def zerB (r : Row) : Bool := r.all fun x => decide (x = 0)
def mx (r : Row) : Nat := (r.foldl max 0).toNat
def less (r p : Row) (k : Nat) : Row := List.zipWith (fun n m => n - k * m) r p
def fills : List Row → Row → Bool
  | [], left => !negB left && zerB left
  | p :: ps, left => !negB left && (zerB left || (List.range (mx left + 1)).any fun k => !negB (less left p k) && fills ps (less left p k))
theorem dotp_less : ∀ (w r p : Row) (k : Nat), r.length = p.length → dotp w (less r p k) = dotp w r - k * dotp w p
  | [], r, p, k, _ => by simp [dotp]
  | a :: w, [], [], k, _ => by simp [dotp, less]
  | a :: w, [], _ :: _, k, h => by simp at h
  | a :: w, _ :: _, [], k, h => by simp at h
  | a :: w, x :: r, y :: p, k, h => by
    have ih := dotp_less w r p k (by simpa using h)
    show a * (x - k * y) + dotp w (less r p k) = (a * x + dotp w r) - k * (a * y + dotp w p)
    rw [ih]
    grind
theorem dotp_zero : ∀ (w r : Row), zerB r = true → dotp w r = 0
  | [], r, _ => by simp [dotp]
  | a :: w, [], _ => by simp [dotp]
  | a :: w, x :: r, h => by
    simp only [zerB, List.all_cons, Bool.and_eq_true, decide_eq_true_eq] at h
    have ih := dotp_zero w r h.2
    show a * x + dotp w r = 0
    rw [ih, h.1]
    simp
theorem dotp_addk : ∀ (w r o : Row) (k : Int), r.length = o.length → dotp w (addk r o k) = dotp w r + k * dotp w o
  | [], r, o, k, _ => by simp [dotp]
  | a :: w, [], [], k, _ => by simp [dotp, addk]
  | a :: w, [], _ :: _, k, h => by simp at h
  | a :: w, _ :: _, [], k, h => by simp at h
  | a :: w, x :: r, y :: o, k, h => by
    have ih := dotp_addk w r o k (by simpa using h)
    show a * (x + k * y) + dotp w (addk r o k) = (a * x + dotp w r) + k * (a * y + dotp w o)
    rw [ih]
    grind
def natI (ts : List Nat) : List Int := ts.map fun (t : Nat) => (t : Int)
theorem fills_sound : ∀ (ps : List Row) (left : Row), (∀ p ∈ ps, p.length = left.length) → fills ps left = true → ∃ ts : List Nat, ts.length = ps.length ∧ ∀ w : Row, dotp w left = dotp (natI ts) (ps.map (dotp w))
  | [], left, _, h => by
    simp only [fills, Bool.and_eq_true] at h
    exact ⟨[], rfl, fun w => by rw [dotp_zero w left h.2]; rfl⟩
  | p :: ps, left, hl, h => by
    simp only [fills, Bool.and_eq_true, Bool.or_eq_true] at h
    rcases h.2 with z | z
    · refine ⟨List.replicate (p :: ps).length 0, by simp, fun w => ?_⟩
      rw [dotp_zero w left z]
      have : ∀ (l : List Int) (n : Nat), dotp (natI (List.replicate n 0)) l = 0 := fun l => by
        induction l with
        | nil => intro n; cases n <;> rfl
        | cons x l ih =>
          intro n
          cases n with
          | zero => rfl
          | succ n =>
            show (0 : Int) * x + dotp (natI (List.replicate n 0)) l = 0
            rw [ih n]
            simp
      rw [this]
    · obtain ⟨k, hk, z⟩ := List.any_eq_true.mp z
      simp only [Bool.and_eq_true] at z
      have lp := hl p (by simp)
      have ll : (less left p k).length = left.length := by simp [less, lp]
      obtain ⟨ts, ht, hw⟩ := fills_sound ps (less left p k) (fun q hq => by rw [ll]; exact hl q (List.mem_cons_of_mem _ hq)) z.2
      refine ⟨k :: ts, by simp [ht], fun w => ?_⟩
      have := hw w
      rw [dotp_less w left p k (by omega)] at this
      show dotp w left = (k : Int) * dotp w p + dotp (natI ts) (ps.map (dotp w))
      omega
inductive Bar
  | apart (w : Row)
  | less (w : Row)
  | rest (m : Int) (w : Row)
def barB (gap : Row) (ps : List Row) : Bar → Bool
  | .apart w => ps.all (fun p => decide (dotp w p = 0)) && decide (dotp w gap ≠ 0)
  | .less w => ps.all (fun p => decide (0 ≤ dotp w p)) && decide (dotp w gap < 0)
  | .rest m w => ps.all (fun p => decide (dotp w p % m = 0)) && decide (dotp w gap % m ≠ 0)
theorem comb0 : ∀ (ts : List Nat) (xs : List Int), (∀ x ∈ xs, x = 0) → dotp (natI ts) xs = 0
  | [], xs, _ => by simp [natI, dotp]
  | t :: ts, [], _ => by simp [natI, dotp]
  | t :: ts, x :: xs, h => by
    show (t : Int) * x + dotp (natI ts) xs = 0
    rw [comb0 ts xs (fun y hy => h y (List.mem_cons_of_mem _ hy)), h x (by simp)]
    simp
theorem combN : ∀ (ts : List Nat) (xs : List Int), (∀ x ∈ xs, 0 ≤ x) → 0 ≤ dotp (natI ts) xs
  | [], xs, _ => by simp [natI, dotp]
  | t :: ts, [], _ => by simp [natI, dotp]
  | t :: ts, x :: xs, h => by
    show 0 ≤ (t : Int) * x + dotp (natI ts) xs
    have := combN ts xs (fun y hy => h y (List.mem_cons_of_mem _ hy))
    have h2 := Int.mul_nonneg (show 0 ≤ (t : Int) by omega) (h x (by simp))
    omega
theorem combM (m : Int) : ∀ (ts : List Nat) (xs : List Int), (∀ x ∈ xs, x % m = 0) → dotp (natI ts) xs % m = 0
  | [], xs, _ => by simp [natI, dotp]
  | t :: ts, [], _ => by simp [natI, dotp]
  | t :: ts, x :: xs, h => by
    show ((t : Int) * x + dotp (natI ts) xs) % m = 0
    have := combM m ts xs (fun y hy => h y (List.mem_cons_of_mem _ hy))
    have h1 := h x (by simp)
    have d1 : m ∣ x := Int.dvd_of_emod_eq_zero h1
    have d2 : m ∣ dotp (natI ts) xs := Int.dvd_of_emod_eq_zero this
    exact Int.emod_eq_zero_of_dvd (Int.dvd_add (Int.dvd_mul_of_dvd_right d1) d2)
theorem no_bar {ps : List Row} {gap : Row} (hl : ∀ p ∈ ps, p.length = gap.length) (hf : fills ps gap = true) (b : Bar) : barB gap ps b = false := by
  obtain ⟨ts, _, hw⟩ := fills_sound ps gap hl hf
  cases hb : barB gap ps b with
  | false => rfl
  | true =>
    exfalso
    cases b with
    | apart w =>
      simp only [barB, Bool.and_eq_true, decide_eq_true_eq, List.all_eq_true] at hb
      exact hb.2 (by rw [hw w]; exact comb0 _ _ (fun x hx => by obtain ⟨p, hp, rfl⟩ := List.mem_map.mp hx; exact hb.1 p hp))
    | less w =>
      simp only [barB, Bool.and_eq_true, decide_eq_true_eq, List.all_eq_true] at hb
      have := combN ts (ps.map (dotp w)) (fun x hx => by obtain ⟨p, hp, rfl⟩ := List.mem_map.mp hx; exact hb.1 p hp)
      have := hw w
      omega
    | rest m w =>
      simp only [barB, Bool.and_eq_true, decide_eq_true_eq, List.all_eq_true] at hb
      exact hb.2 (by rw [hw w]; exact combM m _ _ (fun x hx => by obtain ⟨p, hp, rfl⟩ := List.mem_map.mp hx; exact hb.1 p hp))
end Sq
/-! ## P25a -/
namespace Ws
open PySem PySem.Spec PyProof.Rows L2 RZ SD
local macro_rules | `(tactic| walk_at "nf") => `(tactic| dsimp only [tNext, tSeq, tDrop, tRet, tRetN, tIfS, tAsg, gName, gTup, gCons, gNil, tVar, tC, tOp, tUn, rI, rI0, rU, rEq, rNe, tTest, tChain, tAnd, tOr, tNot, tAndV, tOrV, tNotV, tIf, tCB, tCKw, tCons, tNil, tTup, tLst, tCa, tCallS, tB, rIxT, rIxL, rIxS, cxOf, Cx.nox, Cx.wish, Cx.blk, L2.start, tPar, tPar3, tNever, tYes, tBits, tRz, tBM, rAppend, tyV, tXf, suiteEnds, gSub, rSetL, tBreak, rMax, tDGet, sDPut, tSl, tNoPart, tPart, tDisp, tPairs, tDGet2, tDNewK, tAugS, ipI, rGetL, tDIn, tDNotIn, tBM0, rPop])
local macro_rules | `(tactic| walk_at "sx") => `(tactic| simp only [wipe, List.cons.injEq, and_assoc, exists_and_left, and_true, List.map_cons, List.map_nil, List.length_cons, List.length_nil, List.cons_append, List.nil_append, List.append_nil, Nat.reduceAdd, Nat.reduceSub, List.replicate, List.getElem?_cons_zero, List.getElem?_cons_succ, List.set_cons_zero, List.set_cons_succ, Option.some.injEq, V.int.injEq, V.bl.injEq, V.ref.injEq, V.str.injEq, exists_eq_left', exists_eq_left, true_and, Bool.true_eq_false, Bool.false_eq_true, if_true, if_false])

theorem zip_range (f : Int → Int → Int) : ∀ (xs ys : List Int), ((List.range (min xs.length ys.length)).map fun i => f (xs.getD i 0) (ys.getD i 0)) = List.zipWith f xs ys
  | [], ys => by simp
  | x :: xs, [] => by simp
  | x :: xs, y :: ys => by
    rw [List.length_cons, List.length_cons, Nat.succ_min_succ, List.range_succ_eq_map, List.map_cons, List.map_map, List.zipWith_cons_cons, ← zip_range f xs ys]
    rfl
def B64 (i : Int) : Prop := -(2 ^ 64) < i ∧ i < 2 ^ 64
def spAdded (K : PySem.W.Frag) : Sp := fun vs H Q _ => ∃ (av bv : V) (xs ys : List Int) (k : Int), vs = [av, bv, .int k] ∧ Dp K H av (intsD xs) ∧ Dp K H bv (intsD ys) ∧ B64 k ∧ xs.length < 100000 ∧ ∀ H' u, Same H H' → Dp K H' u (intsD (Sq.addk xs ys k)) → Q u H'
abbrev s_added : Stmt := top 7
abbrev nm_added : List Str := ["row", "other", "factor", "number", "more"]
abbrev pr_added : List Str := ["row", "other", "factor"]
theorem sc_added : FnScope nm_added pr_added (defScope s_added) := ⟨rfl, rfl, rfl, by decide +kernel, rfl, by decide +kernel, by decide +kernel⟩
def rowsD (rows : List Sq.Row) : PyData := .tuple (rows.map intsD)
def spUnlike (K : PySem.W.Frag) : Sp := fun vs H Q _ => ∃ (v : V) (rows : List Sq.Row), vs = [v] ∧ Dp K H v (rowsD rows) ∧ (∀ r ∈ rows, r ≠ []) ∧ rows.length ≤ 1000 ∧ ∀ H' u out, Same H H' → Unl rows out → Dp K H' u (rowsD out) → Q u H'
abbrev s_unlike_periods : Stmt := top 20
abbrev nm_unlike_periods : List Str := ["rows", "row"]
abbrev pr_unlike_periods : List Str := ["rows"]
theorem sc_unlike_periods : FnScope nm_unlike_periods pr_unlike_periods (defScope s_unlike_periods) := ⟨rfl, rfl, rfl, by decide +kernel, rfl, by decide +kernel, by decide +kernel⟩
theorem hk_ints (r : Sq.Row) : hkD (intsD r) = true := by
  show hkDs (r.map PyData.int) = true
  induction r with
  | nil => rfl
  | cons x r ih => exact ih
theorem hk_rows (rows : List Sq.Row) : hkD (rowsD rows) = true := by
  show hkDs (rows.map intsD) = true
  induction rows with
  | nil => rfl
  | cons x r ih => exact Bool.and_eq_true_iff.mpr ⟨hk_ints x, ih⟩
theorem hk_ln (l : Ln) : hkD (lineD l) = true := by
  show (hkD (intsD l.1) && (hkD (rowsD l.2) && true)) = true
  rw [hk_ints, hk_rows]
  rfl
theorem depth_rows (rows : List Sq.Row) : (rowsD rows).depth ≤ 2 := by
  have : ∀ l : List Sq.Row, PyData.depthAll (l.map intsD) ≤ 1 := fun l => by
    induction l with
    | nil => exact Nat.zero_le _
    | cons x l ih =>
      show max (intsD x).depth (PyData.depthAll (l.map intsD)) ≤ 1
      rw [depth_intsD]
      omega
  have := this rows
  show PyData.depthAll (rows.map intsD) + 1 ≤ 2
  omega
theorem depth_ln (l : Ln) : (lineD l).depth ≤ 3 := by
  have := depth_rows l.2
  show max (intsD l.1).depth (max (rowsD l.2).depth 0) + 1 ≤ 3
  rw [depth_intsD]
  omega
theorem set_rows {rows : List Sq.Row} (h : ∀ r ∈ rows, r ≠ []) (few : rows.length ≤ 1000) : SetIn (rows.map intsD) where
  hk := fun d hd => by
    obtain ⟨r, _, rfl⟩ := List.mem_map.mp hd
    exact ⟨hk_ints r, ⟨_, rfl⟩, by rw [depth_intsD]; decide⟩
  few := by rw [List.length_map]; exact few
  al := PySem.W.AllAlike.of alike_intsD
  so := .inl fun d hd => by
    obtain ⟨r, hr, rfl⟩ := List.mem_map.mp hd
    cases r with
    | nil => exact absurd rfl (h _ hr)
    | cons x r => exact ⟨_, _, rfl⟩
theorem set_lns {ls : List Ln} (few : ls.length ≤ 1000) : SetIn (ls.map lineD) where
  hk := fun d hd => by
    obtain ⟨l, _, rfl⟩ := List.mem_map.mp hd
    exact ⟨hk_ln l, ⟨_, rfl⟩, Nat.le_trans (depth_ln l) (by decide)⟩
  few := by rw [List.length_map]; exact few
  al := PySem.W.AllAlike.of alike_ln
  so := .inl fun d hd => by
    obtain ⟨l, _, rfl⟩ := List.mem_map.mp hd
    exact ⟨_, _, rfl⟩
/-- what sorted(set(..)) tells of typed things -/
theorem out_typed {α : Type} {f : α → PyData} (k : Knd f) {xs : List α} {es : List PyData} (h : SetOut (xs.map f) es) : ∃ out, es = out.map f ∧ Canon f xs out := by
  have : ∀ es : List PyData, (∀ d ∈ es, d ∈ xs.map f) → ∃ out : List α, es = out.map f ∧ ∀ x ∈ out, x ∈ xs := fun es => by
    induction es with
    | nil => intro _; exact ⟨[], rfl, fun x hx => by cases hx⟩
    | cons d es ih =>
      intro hd
      obtain ⟨x, hx, rfl⟩ := List.mem_map.mp (hd d List.mem_cons_self)
      obtain ⟨out, rfl, h2⟩ := ih fun e he => hd e (List.mem_cons_of_mem _ he)
      refine ⟨x :: out, rfl, fun y hy => ?_⟩
      rcases List.mem_cons.mp hy with rfl | hy
      · exact hx
      · exact h2 y hy
  obtain ⟨out, rfl, h2⟩ := this es fun d hd => (h.mem d).mp hd
  have inj : ∀ x y : α, f x = f y → x = y := fun x y e => k.inj x y (by
    cases z : PyData.eqv (f x) (f y) with
    | true => rfl
    | false =>
      rw [e] at z
      have q := (PySem.W.toks_eqv (f y) (f y) (k.al y y)).2 z [] [.inl 0]
      rw [PySem.W.lex_pre] at q
      have i := lex_irrefl (O := itemOrd) (PySem.W.keyToks (f y))
      rw [i] at q
      cases q)
  refine ⟨out, rfl, List.Pairwise.of_map f (fun a b hne e => hne (by rw [e])) h.nd, h.or, fun x => ⟨h2 x, fun hx => ?_⟩⟩
  obtain ⟨y, hy, e⟩ := List.mem_map.mp ((h.mem (f x)).mpr (List.mem_map.mpr ⟨x, hx, rfl⟩))
  rw [← inj _ _ e]
  exact hy
theorem unl_of {rows es : List Sq.Row} (c : Canon intsD rows es) : Unl rows (es.filter nzR) :=
  ⟨List.Pairwise.filter _ (c.asc knd_row), fun r => by rw [List.mem_filter, c.mem]⟩
section
variable {P : Program} {w : World} {K : PySem.W.Frag} {mg : Str → Option Value} {base : Heap} {BS TG BW : Addr}
theorem pair_at {xs ys : List Int} {i : Nat} {x1 x2 : V} (hi : i < min ((xs.map V.int)).length ((ys.map V.int)).length) (h1 : (xs.map V.int)[i]? = some x1) (h2 : (ys.map V.int)[i]? = some x2) : x1 = .int (xs.getD i 0) ∧ x2 = .int (ys.getD i 0) ∧ xs.getD i 0 ∈ xs ∧ ys.getD i 0 ∈ ys := by
  simp only [List.length_map] at hi
  have i1 : i < xs.length := by omega
  have i2 : i < ys.length := by omega
  refine ⟨?_, ?_, by simp [i1], by simp [i2]⟩
  · have : (xs.map V.int)[i]? = some (V.int (xs.getD i 0)) := by simp [i1]
    exact Option.some.inj (h1.symm.trans this)
  · have : (ys.map V.int)[i]? = some (V.int (ys.getD i 0)) := by simp [i2]
    exact Option.some.inj (h2.symm.trans this)
theorem ok_added (B : Bl mg) (D : Dt K mg "added" s_added pr_added) : Df P w K mg base CX0 1 "added" pr_added (spAdded K) := by
  refine D.ok sc_added (fun vs H Q E h => ?_) (fun f cdv A outer s H vs Q E hr h => ?_)
  · obtain ⟨av, bv, fs, xs, k, rfl, _⟩ := h
    rfl
  · obtain ⟨av, bv, fs, xs, kk, rfl, ha, hb, hf, hz, k⟩ := h
    obtain ⟨p, rfl, hp⟩ := ha.ints_tup
    obtain ⟨q, rfl, hq⟩ := hb.ints_tup
    refine ⟨_, (pss_one (ps_ret (pe_callTy call_tuple_of (by rfl) B.tuple PyProof.Rows.boot_tuple (pa_cons (pe_lc (own := [("number", 3), ("more", 4)]) (g := gTup K 2 (gCons (gName 3) (gCons (gName 4) gNil))) (tt := tYes) (by rfl) sc_added.nd (pi_zipA (by rfl) B.zip (pa_cons (pv 0) (pa_cons (pv 1) pa_nil))) (blkOk_by (own := [("number", 3), ("more", 4)]) (N := nm_added) (sc := defScope s_added) (by decide +kernel)) (fun _ _ _ _ _ => pg_tup rfl (pgs_cons (pg_name (i := 3) sc_added.nd rfl (Or.inl rfl)) (pgs_cons (pg_name (i := 4) sc_added.nd rfl (Or.inl rfl)) pgs_nil))) (fun _ _ _ _ _ => pts_nil) (fun _ _ _ _ _ => (pe_op op_add (pv 3) (pe_op op_mul (pv 2) (pv 4))))) pa_nil)))), ?_⟩
    walk_at "nf"
    walk_at "sx"
    refine ⟨_, rfl, _, rfl, p, q, _, _, rfl, .inr ⟨hp, hq, fun D hD => lcS walk_zipT hD (by simp only [List.length_map]; exact slt (by omega)) (fun i y => y = .int (fs.getD i 0 + kk * xs.getD i 0)) (fun H1 e => ⟨e.seqT hp, e.seqT hq⟩) (fun i x H1 H2 Q1 hi e y q1 => ?_) (fun H1 ys e hD1 hn hr => ?_)⟩⟩
    · obtain ⟨T, x1, x2, rfl, hT, rfl, h1, h2⟩ := y
      obtain ⟨rfl, rfl, m1, m2⟩ := pair_at hi h1 h2
      obtain ⟨b1, b2⟩ := hf
      walk_at "nf"
      refine ⟨T, _, rfl, .of upd_same, rfl, ?_⟩
      walk_at "sx"
      exact ⟨.inl ⟨b1, b2⟩, q1 _ _ rfl (Same.new hT)⟩
    · have ev := vals_int (f := fun i => fs.getD i 0 + kk * xs.getD i 0) hn hr
      simp only [List.length_map] at ev
      rw [zip_range (fun a b => a + kk * b)] at ev
      exact ⟨D, rfl, _, .inl ⟨.of (by rw [hD1, ev]; rfl), fun l hl => k _ _ (e.then_new hl) (Dp.tup_ints (.of upd_same))⟩⟩
theorem ok_unlike (B : Bl mg) (D : Dt K mg "unlike_periods" s_unlike_periods pr_unlike_periods) : Df P w K mg base CX0 1 "unlike_periods" pr_unlike_periods (spUnlike K) := by
  refine D.ok sc_unlike_periods (fun vs H Q E h => ?_) (fun f cdv A outer s H vs Q E hr h => ?_)
  · obtain ⟨v, rows, rfl, _⟩ := h
    rfl
  · obtain ⟨v, rows, rfl, hd, hne, few, k⟩ := h
    obtain ⟨p, zs, rfl, hz, hzl, hzat, hza⟩ := tup_view hd
    refine ⟨_, (pss_one (ps_ret (pe_callTy call_tuple_of (by rfl) B.tuple PyProof.Rows.boot_tuple (pa_cons (pe_lc (own := [("row", 1)]) (g := gName 1) (tt := (tTest (tCB (rAnyT K) (tCons (tVar 1) tNil)))) (by rfl) sc_unlike_periods.nd (pi_list (SD.pe_sortedSet rfl (hu65 hr) (by rfl) B.sorted (by rfl) B.set (pv 0))) (blkOk_by (own := [("row", 1)]) (N := nm_unlike_periods) (sc := defScope s_unlike_periods) (by decide +kernel)) (fun _ _ _ _ _ => pg_name (i := 1) sc_unlike_periods.nd rfl (Or.inl rfl)) (fun _ _ _ _ _ => (pts_one (pt_val (pe_callB (cr_anyT rfl) (by rfl) B.any boot_any (pa_cons (pv 1) pa_nil))))) (fun _ _ _ _ _ => (pv 1))) pa_nil)))), ?_⟩
    dsimp only [cxOf, Cx.nox, L2.start]
    refine ⟨_, rfl, p, zs, _, rfl, .inr hz, hza, set_rows hne few, fun ys es r hes so hr0 => ?_⟩
    obtain ⟨out, rfl, c⟩ := out_typed knd_row so
    have lo := hes.length
    rw [List.length_map] at lo
    have lr : out.length ≤ 1000 := Nat.le_trans c.le few
    have e1 := Same.new (o := HO.lst ys) hr0
    refine ⟨r, rfl, ⟨ys, .of upd_same⟩, fun D hD => lcF (walk_list (K := K) (a := r) (xs := ys)) hD (by rw [lo]; exact slt (by omega)) (fun i => nzR (out.getD i [])) (fun i y H => Dp K H y (intsD (out.getD i []))) (fun i y H H' e n q => keepN e n n _ _ (noList_ints _) q) (fun H1 e => .of (e _ _ upd_same)) (fun i x H2 H3 Q1 Q0 hi e2 y q1 q0 => ?_) (fun H2 ys2 e2 hy g => ?_)⟩
    · obtain ⟨rfl, hx⟩ := y
      obtain ⟨d, hd1, hd2⟩ := hes.getV hx
      rw [List.getElem?_map] at hd1
      obtain ⟨row, hr1, rfl⟩ := Option.map_eq_some_iff.mp hd1
      have er : out.getD i [] = row := by rw [List.getD_eq_getElem?_getD, hr1]; rfl
      rw [er] at q1 q0
      have hdx := (hd2.to e1).to e2
      obtain ⟨b2, rfl, hb2⟩ := hdx.ints_tup
      refine ⟨rfl, _, rfl, b2, row, rfl, hb2, _, rfl, ?_⟩
      show if nzR row = true then _ else _
      cases z : nzR row with
      | true => exact iteT ⟨_, rfl, q1 z _ _ hdx (Same.refl _)⟩
      | false => exact iteF (q0 z _ (Same.refl _))
    · have ha := g.dp (fun i => intsD (out.getD i [])) fun i y q => q
      have em : ((List.range ys.length).filter fun i => nzR (out.getD i [])).map (fun i => intsD (out.getD i [])) = (out.filter nzR).map intsD := by
        rw [lo, ← filter_get out [] nzR, List.map_map]
        rfl
      rw [em] at ha
      refine ⟨D, ys2, rfl, .inl ⟨.of hy, fun t ht => k _ _ _ ((e1.trans e2).then_new ht) (unl_of c) (.tup (.of upd_same) (ha.to (Same.new ht)))⟩⟩
def rLenS (K : PySem.W.Frag) : List V → Hp → VK → Prop := fun xs H Q => ∃ p ys, xs = [V.ref p] ∧ (SqL K H p ys ∨ SqT K H p ys) ∧ Q (V.int ((ys.length : Nat) : Int)) H
def linesD (ls : List Ln) : PyData := .tuple (ls.map lineD)
def lnsV (K : PySem.W.Frag) (H : Hp) (v : V) (ls : List Ln) : Prop := ∃ p zs, v = .ref p ∧ (SqT K H p zs ∨ SqL K H p zs) ∧ DpAll K H zs (ls.map lineD)
def spSetWith (K : PySem.W.Frag) (TG : Addr) : Sp := fun vs H Q E => ∃ (m : Nat) (v : V) (ls : List Ln), vs = [.int (m : Nat), v] ∧ Dp K H v (linesD ls) ∧ (∀ l ∈ ls, (∀ r ∈ l.2, r ≠ []) ∧ l.2.length ≤ 1000) ∧ ls.length ≤ 1000 ∧
  ∀ fs, Clean ls fs → ((∃ f ∈ fs, 12 < f.2.length) → OutF K TG "most" (.int 12) H E) ∧ ((∀ f ∈ fs, f.2.length ≤ 12) → ∀ out, Canon lineD fs out → (400 < out.length → OutF K TG "most" (.int 400) H E) ∧ (out.length ≤ 400 → ∀ H' u, Same H H' → Dp K H' u (setD m out) → Q u H'))
def spSetWithL (K : PySem.W.Frag) (TG : Addr) : Sp := fun vs H Q E => ∃ (m : Nat) (v : V) (ls : List Ln), vs = [.int (m : Nat), v] ∧ Dp K H v (.list (ls.map lineD)) ∧ (∀ l ∈ ls, (∀ r ∈ l.2, r ≠ []) ∧ l.2.length ≤ 1000) ∧ ls.length ≤ 1000 ∧
  ∀ fs, Clean ls fs → ((∃ f ∈ fs, 12 < f.2.length) → OutF K TG "most" (.int 12) H E) ∧ ((∀ f ∈ fs, f.2.length ≤ 12) → ∀ out, Canon lineD fs out → (400 < out.length → OutF K TG "most" (.int 400) H E) ∧ (out.length ≤ 400 → ∀ H' u, Same H H' → Dp K H' u (setD m out) → Q u H'))
abbrev s_set_with : Stmt := top 21
abbrev nm_set_with : List Str := ["many", "lines", "found", "base", "rows", "_", "periods"]
abbrev pr_set_with : List Str := ["many", "lines"]
theorem sc_set_with : FnScope nm_set_with pr_set_with (defScope s_set_with) := ⟨rfl, rfl, rfl, by decide +kernel, rfl, by decide +kernel, by decide +kernel⟩
theorem clean_ex : ∀ ls : List Ln, (∀ l ∈ ls, ∃ out, Unl l.2 out) → ∃ fs, Clean ls fs
  | [], _ => ⟨[], .nil⟩
  | l :: ls, h => by
    obtain ⟨out, u⟩ := h l List.mem_cons_self
    obtain ⟨fs, c⟩ := clean_ex ls fun x hx => h x (List.mem_cons_of_mem _ hx)
    exact ⟨_, .cons u c⟩
theorem noList_intsL (ps : List Sq.Row) : noListAll (ps.map intsD) = true := noListAll_of fun x hx => by
  obtain ⟨r, _, rfl⟩ := List.mem_map.mp hx
  exact noList_ints r
theorem noList_ln (l : Ln) : noList (lineD l) = true := noListAll_of fun x hx => by
  rcases List.mem_cons.mp hx with rfl | hx
  · exact noList_ints _
  · obtain rfl := List.mem_singleton.mp hx
    exact noList_intsL _
theorem Clean.at_ : ∀ {ls fs : List Ln}, Clean ls fs → ∀ {i : Nat} {l : Ln}, ls[i]? = some l → ∃ out, fs[i]? = some (l.1, out) ∧ Unl l.2 out
  | _, _, .nil, i, l, h => by simp at h
  | _, _, .cons u c, 0, l, h => by
    obtain rfl := Option.some.inj h
    exact ⟨_, rfl, u⟩
  | _, _, .cons u c, i + 1, l, h => c.at_ (i := i) (by simpa using h)
theorem clean_got {K : PySem.W.Frag} {H : Hp} : ∀ {ls : List Ln} {ys : List V}, ys.length = ls.length → (∀ (j : Nat) (y : V) (l : Ln), ys[j]? = some y → ls[j]? = some l → ∃ out, Unl l.2 out ∧ Dp K H y (lineD (l.1, out))) → ∃ fs, Clean ls fs ∧ DpAll K H ys (fs.map lineD)
  | [], [], _, _ => ⟨[], .nil, .nil⟩
  | [], _ :: _, h, _ => by simp at h
  | _ :: _, [], h, _ => by simp at h
  | l :: ls, y :: ys, h, k => by
    obtain ⟨out, u, d⟩ := k 0 y l rfl rfl
    obtain ⟨fs, c, ds⟩ := clean_got (ls := ls) (ys := ys) (by simpa using h) fun j z x h1 h2 => k (j + 1) z x (by simpa using h1) (by simpa using h2)
    exact ⟨_, .cons u c, .cons d ds⟩
theorem ok_set_with (B : Bl mg) (C : CsL mg) (T : ErS P w K mg base BS TG BW) (F1 : Df P w K mg base CX0 1 "unlike_periods" pr_unlike_periods (spUnlike K)) (D : Dt K mg "set_with" s_set_with pr_set_with) : Df P w K mg base (L2.CX P w) 4 "set_with" pr_set_with (spSetWith K TG) := by
  refine D.okX sc_set_with (fun vs H Q E h => ?_) (fun f cdv A outer s H vs Q E hr h => ?_)
  · obtain ⟨m, v, ls, rfl, _⟩ := h
    rfl
  · obtain ⟨m, v, ls, rfl, hd, hl, few, k⟩ := h
    obtain ⟨p, zs, rfl, hz, hzl, hzat, hza⟩ := tup_view hd
    refine ⟨_, (pss_cons (ps_setLc (i := 2) (own := [("base", 3), ("rows", 4)]) (g := gTup K 2 (gCons (gName 3) (gCons (gName 4) gNil))) (tt := tYes) (te := tTup (tCons (tVar 3) (tCons (tCa (spUnlike K) E0 (tCons (tVar 4) tNil)) tNil))) rfl sc_set_with.nd rfl rfl (sw_true rfl rfl rfl (by decide +kernel)) (pi_tup (pv 1)) (blkOk_by (own := [("base", 3), ("rows", 4)]) (N := nm_set_with) (sc := defScope s_set_with) (by decide +kernel)) (fun _ _ _ _ _ => pg_tup rfl (pgs_cons (pg_name (i := 3) sc_set_with.nd rfl (Or.inl rfl)) (pgs_cons (pg_name (i := 4) sc_set_with.nd rfl (Or.inl rfl)) pgs_nil))) (fun _ _ _ _ _ => pts_nil) (fun _ _ _ _ _ => (pe_tup (pa_cons (pv 3) (pa_cons (pe_f F1 (hr.mono (by decide)) pass0 (pa_cons (pv 4) pa_nil)) pa_nil))))) (pss_cons (ps_if (pt_val (pe_callB (cr_any rfl) (by rfl) B.any boot_any (pa_cons (pe_lc (own := [("_", 5), ("periods", 6)]) (g := gTup K 2 (gCons (gName 5) (gCons (gName 6) gNil))) (tt := tYes) (te := tOp (rI0 fun i j => V.bl (decide (j < i))) (tCB (rLenS K) (tCons (tVar 6) tNil)) (tC (V.int 12))) (by rfl) sc_set_with.nd (pi_list (pv 2)) (blkOk_by (own := [("_", 5), ("periods", 6)]) (N := nm_set_with) (sc := defScope s_set_with) (by decide +kernel)) (fun _ _ _ _ _ => pg_tup rfl (pgs_cons (pg_name (i := 5) sc_set_with.nd rfl (Or.inl rfl)) (pgs_cons (pg_name (i := 6) sc_set_with.nd rfl (Or.inl rfl)) pgs_nil))) (fun _ _ _ _ _ => pts_nil) (fun _ _ _ _ _ => (pe_cmpR op_gt (pe_callB call_len_seq (by rfl) B.len PySem.boot_len (pa_cons (pv 6) pa_nil)) (pe_glob (v := .int 12) rfl C.MOST_PERIODS.choose_spec ⟨_, rfl⟩) (nomark _)))) pa_nil))) (pss_one (ps_rz rfl T.TooGreat (hr.mono (by decide)) (takes_of rfl rfl rfl rfl) (by rfl) (pe_glob (v := .int 12) rfl C.MOST_PERIODS.choose_spec ⟨_, rfl⟩))) pss_nil) (pss_cons (ps_set (i := 2) sc_set_with.nd rfl (Or.inl rfl) (SD.pe_sortedSet rfl (hu65 hr) (by rfl) B.sorted (by rfl) B.set (pv 2))) (pss_cons (ps_if (pt_cmpR op_gt (pe_callB call_len_seq (by rfl) B.len PySem.boot_len (pa_cons (pv 2) pa_nil)) (pe_glob (v := .int 400) rfl C.MOST_LINES.choose_spec ⟨_, rfl⟩) (nomark _)) (pss_one (ps_rz rfl T.TooGreat (hr.mono (by decide)) (takes_of rfl rfl rfl rfl) (by rfl) (pe_glob (v := .int 400) rfl C.MOST_LINES.choose_spec ⟨_, rfl⟩))) pss_nil) (pss_one (ps_ret (pe_tup (pa_cons (pv 0) (pa_cons (pe_callTy call_tuple_of (by rfl) B.tuple PyProof.Rows.boot_tuple (pa_cons (pv 2) pa_nil)) pa_nil))))))))), ?_⟩
    dsimp only [cxOf, L2.start]
    refine sq_go ⟨_, rfl, p, rfl, ⟨zs, hz⟩, fun D hD => lcF (walk_tup (K := K) (a := p) (xs := zs)) hD (by rw [hzl]; exact slt (by omega)) (fun _ => true) (fun i y H => ∃ out, Unl (ls.getD i ([], [])).2 out ∧ Dp K H y (lineD ((ls.getD i ([], [])).1, out))) (fun i y H H' e n q => ?_) (fun H1 e => e.seqT hz) (fun i x H2 H3 Q1 Q0 hi e2 y q1 q0 => ?_) (fun H2 ys e2 hy g => ?_)⟩
    · obtain ⟨out, u, q⟩ := q
      exact ⟨out, u, keepN e n n _ _ (noList_ln _) q⟩
    · obtain ⟨rfl, hx⟩ := y
      obtain ⟨l, hl1, hdl⟩ := hzat i x hx
      have el : ls.getD i ([], []) = l := by rw [List.getD_eq_getElem?_getD, hl1]; rfl
      rw [el] at q1
      obtain ⟨b, u, v, rfl, hb, hu, hv⟩ := ln_v (hdl.to e2)
      obtain ⟨l1, l2⟩ := hl l (List.mem_of_getElem? hl1)
      refine ⟨_, _, rfl, hb, rfl, _, _, rfl, _, _, rfl, rfl, rfl, ?_⟩
      refine iteT (B := Q0 H3) ⟨_, rfl, _, rfl, v, l.2, rfl, hv, l1, l2, fun H4 uv out e4 hun hd4 => ⟨Nat.le_of_ble_eq_true rfl, fun t ht => ?_⟩⟩
      exact q1 rfl _ _ ⟨out, hun, .tup (.of upd_same) (.cons ((hu.to e4).to (Same.new ht)) (.cons (hd4.to (Same.new ht)) .nil))⟩ (e4.then_new ht)
    obtain ⟨fs, cl, hfs⟩ := clean_got (ls := ls) (ys := ys) (by rw [g.len, all_kept, List.length_range, hzl]) fun j y l h1 h2 => by
      have hj : j < zs.length := by rw [hzl]; exact (List.getElem?_eq_some_iff.mp h2).1
      have := g.at_ j j y h1 (by rw [all_kept, List.getElem?_range hj])
      rwa [show ls.getD j ([], []) = l by rw [List.getD_eq_getElem?_getD, h2]; rfl] at this
    have lf := cl.len
    have ly := hfs.length
    rw [List.length_map] at ly
    refine sq_if0 ⟨_, rfl, D, rfl, ⟨ys, .of hy⟩, fun D2 hD2 => lcS walk_list hD2 (by rw [ly, lf]; exact slt (by omega)) (fun i y => y = .bl (decide (12 < (fs.getD i ([], [])).2.length))) (fun H e => .of (e _ _ hy)) (fun i x H3 H4 Q1 hi e3 y q1 => ?_) (fun H3 ys3 e3 hy3 hn3 hr3 => ?_)⟩
    · obtain ⟨rfl, hx⟩ := y
      obtain ⟨d, hd1, hd2⟩ := hfs.getV hx
      rw [List.getElem?_map] at hd1
      obtain ⟨l, hl1, rfl⟩ := Option.map_eq_some_iff.mp hd1
      have el : fs.getD i ([], []) = l := by rw [List.getD_eq_getElem?_getD, hl1]; rfl
      rw [el] at q1
      obtain ⟨b, u, v, rfl, hb, hu, hv⟩ := ln_v (hd2.to e3)
      obtain ⟨pv, zv, rfl, hzv, hzvl, _, _⟩ := tup_view hv
      refine ⟨_, _, rfl, hb, rfl, _, _, rfl, _, _, rfl, rfl, rfl, _, rfl, pv, zv, rfl, .inr hzv, _, _, rfl, rfl, ?_⟩
      rw [hzvl]
      exact q1 _ _ (congrArg V.bl (decide_eq_decide.mpr (by omega))) (Same.refl _)
    have ev := vals_bl (f := fun i => decide (12 < (fs.getD i ([], [])).2.length)) hn3 hr3
    rw [ly, by_places fs ([], []) fun l => decide (12 < l.2.length)] at ev
    subst ev
    have e23 := e2.trans e3
    refine ⟨D2, _, rfl, .of hy3, ?_⟩
    rw [List.any_map]
    by_cases c12 : ∃ f ∈ fs, 12 < f.2.length
    · have : fs.any (id ∘ fun l : Ln => decide (12 < l.2.length)) = true := by
        obtain ⟨f, h1, h2⟩ := c12
        exact List.any_eq_true.mpr ⟨f, h1, decide_eq_true h2⟩
      rw [this]
      exact ⟨_, rfl, iteT (rz_f (σ := []) ((k fs cl).1 c12) e23 (.int _))⟩
    · have : fs.any (id ∘ fun l : Ln => decide (12 < l.2.length)) = false := by
        refine List.any_eq_false.mpr fun f h1 h2 => c12 ⟨f, h1, of_decide_eq_true h2⟩
      rw [this]
      have k2 := (k fs cl).2 fun f hf => Nat.le_of_not_lt fun z => c12 ⟨f, hf, z⟩
      have hfs3 := hfs.to e3
      refine ⟨_, rfl, iteF (sq_go ⟨_, rfl, D, ys, _, rfl, .inl (.of (e3 _ _ hy)), hfs3, set_lns (by omega), fun zs2 es r hes so hr0 => ?_⟩)⟩
      obtain ⟨out, rfl, c⟩ := out_typed knd_ln so
      obtain ⟨k3, k4⟩ := k2 out c
      have lo := hes.length
      rw [List.length_map] at lo
      have e4 := e23.then_new (o := HO.lst zs2) hr0
      refine sq_if0 ⟨_, rfl, r, zs2, rfl, .inl (.of upd_same), _, _, rfl, rfl, _, rfl, ?_⟩
      rw [lo]
      by_cases c4 : 400 < out.length
      · rw [decide_eq_true (by omega)]
        exact iteT (rz_f (σ := []) (k3 c4) e4 (.int _))
      · rw [decide_eq_false (by omega)]
        refine iteF ⟨_, rfl, _, rfl, r, zs2, rfl, .inl ⟨.of upd_same, fun t ht => ⟨Nat.le_of_ble_eq_true rfl, fun q hq => k4 (by omega) _ _ ((e4.then_new ht).then_new hq) ?_⟩⟩⟩
        have n1 := Same.new (o := HO.lst zs2) hr0
        have n2 := Same.new (o := HO.tup zs2) ht
        exact .tup (.of upd_same) (.cons (.int _) (.cons ((Dp.tup (.of upd_same) ((hes.to n1).to n2)).to (Same.new hq)) .nil))
theorem ok_set_withL (B : Bl mg) (C : CsL mg) (T : ErS P w K mg base BS TG BW) (F1 : Df P w K mg base CX0 1 "unlike_periods" pr_unlike_periods (spUnlike K)) (D : Dt K mg "set_with" s_set_with pr_set_with) : Df P w K mg base (L2.CX P w) 4 "set_with" pr_set_with (spSetWithL K TG) := by
  refine D.okX sc_set_with (fun vs H Q E h => ?_) (fun f cdv A outer s H vs Q E hr h => ?_)
  · obtain ⟨m, v, ls, rfl, _⟩ := h
    rfl
  · obtain ⟨m, v, ls, rfl, hd, hl, few, k⟩ := h
    obtain ⟨p, zs, rfl, hz, hzl, hzat, hza⟩ := lst_view hd
    refine ⟨_, (pss_cons (ps_setLc (i := 2) (own := [("base", 3), ("rows", 4)]) (g := gTup K 2 (gCons (gName 3) (gCons (gName 4) gNil))) (tt := tYes) (te := tTup (tCons (tVar 3) (tCons (tCa (spUnlike K) E0 (tCons (tVar 4) tNil)) tNil))) rfl sc_set_with.nd rfl rfl (sw_true rfl rfl rfl (by decide +kernel)) (pi_list (pv 1)) (blkOk_by (own := [("base", 3), ("rows", 4)]) (N := nm_set_with) (sc := defScope s_set_with) (by decide +kernel)) (fun _ _ _ _ _ => pg_tup rfl (pgs_cons (pg_name (i := 3) sc_set_with.nd rfl (Or.inl rfl)) (pgs_cons (pg_name (i := 4) sc_set_with.nd rfl (Or.inl rfl)) pgs_nil))) (fun _ _ _ _ _ => pts_nil) (fun _ _ _ _ _ => (pe_tup (pa_cons (pv 3) (pa_cons (pe_f F1 (hr.mono (by decide)) pass0 (pa_cons (pv 4) pa_nil)) pa_nil))))) (pss_cons (ps_if (pt_val (pe_callB (cr_any rfl) (by rfl) B.any boot_any (pa_cons (pe_lc (own := [("_", 5), ("periods", 6)]) (g := gTup K 2 (gCons (gName 5) (gCons (gName 6) gNil))) (tt := tYes) (te := tOp (rI0 fun i j => V.bl (decide (j < i))) (tCB (rLenS K) (tCons (tVar 6) tNil)) (tC (V.int 12))) (by rfl) sc_set_with.nd (pi_list (pv 2)) (blkOk_by (own := [("_", 5), ("periods", 6)]) (N := nm_set_with) (sc := defScope s_set_with) (by decide +kernel)) (fun _ _ _ _ _ => pg_tup rfl (pgs_cons (pg_name (i := 5) sc_set_with.nd rfl (Or.inl rfl)) (pgs_cons (pg_name (i := 6) sc_set_with.nd rfl (Or.inl rfl)) pgs_nil))) (fun _ _ _ _ _ => pts_nil) (fun _ _ _ _ _ => (pe_cmpR op_gt (pe_callB call_len_seq (by rfl) B.len PySem.boot_len (pa_cons (pv 6) pa_nil)) (pe_glob (v := .int 12) rfl C.MOST_PERIODS.choose_spec ⟨_, rfl⟩) (nomark _)))) pa_nil))) (pss_one (ps_rz rfl T.TooGreat (hr.mono (by decide)) (takes_of rfl rfl rfl rfl) (by rfl) (pe_glob (v := .int 12) rfl C.MOST_PERIODS.choose_spec ⟨_, rfl⟩))) pss_nil) (pss_cons (ps_set (i := 2) sc_set_with.nd rfl (Or.inl rfl) (SD.pe_sortedSet rfl (hu65 hr) (by rfl) B.sorted (by rfl) B.set (pv 2))) (pss_cons (ps_if (pt_cmpR op_gt (pe_callB call_len_seq (by rfl) B.len PySem.boot_len (pa_cons (pv 2) pa_nil)) (pe_glob (v := .int 400) rfl C.MOST_LINES.choose_spec ⟨_, rfl⟩) (nomark _)) (pss_one (ps_rz rfl T.TooGreat (hr.mono (by decide)) (takes_of rfl rfl rfl rfl) (by rfl) (pe_glob (v := .int 400) rfl C.MOST_LINES.choose_spec ⟨_, rfl⟩))) pss_nil) (pss_one (ps_ret (pe_tup (pa_cons (pv 0) (pa_cons (pe_callTy call_tuple_of (by rfl) B.tuple PyProof.Rows.boot_tuple (pa_cons (pv 2) pa_nil)) pa_nil))))))))), ?_⟩
    dsimp only [cxOf, L2.start]
    refine sq_go ⟨_, rfl, p, rfl, ⟨zs, hz⟩, fun D hD => lcF (walk_list (K := K) (a := p) (xs := zs)) hD (by rw [hzl]; exact slt (by omega)) (fun _ => true) (fun i y H => ∃ out, Unl (ls.getD i ([], [])).2 out ∧ Dp K H y (lineD ((ls.getD i ([], [])).1, out))) (fun i y H H' e n q => ?_) (fun H1 e => e.seq hz) (fun i x H2 H3 Q1 Q0 hi e2 y q1 q0 => ?_) (fun H2 ys e2 hy g => ?_)⟩
    · obtain ⟨out, u, q⟩ := q
      exact ⟨out, u, keepN e n n _ _ (noList_ln _) q⟩
    · obtain ⟨rfl, hx⟩ := y
      obtain ⟨l, hl1, hdl⟩ := hzat i x hx
      have el : ls.getD i ([], []) = l := by rw [List.getD_eq_getElem?_getD, hl1]; rfl
      rw [el] at q1
      obtain ⟨b, u, v, rfl, hb, hu, hv⟩ := ln_v (hdl.to e2)
      obtain ⟨l1, l2⟩ := hl l (List.mem_of_getElem? hl1)
      refine ⟨_, _, rfl, hb, rfl, _, _, rfl, _, _, rfl, rfl, rfl, ?_⟩
      refine iteT (B := Q0 H3) ⟨_, rfl, _, rfl, v, l.2, rfl, hv, l1, l2, fun H4 uv out e4 hun hd4 => ⟨Nat.le_of_ble_eq_true rfl, fun t ht => ?_⟩⟩
      exact q1 rfl _ _ ⟨out, hun, .tup (.of upd_same) (.cons ((hu.to e4).to (Same.new ht)) (.cons (hd4.to (Same.new ht)) .nil))⟩ (e4.then_new ht)
    obtain ⟨fs, cl, hfs⟩ := clean_got (ls := ls) (ys := ys) (by rw [g.len, all_kept, List.length_range, hzl]) fun j y l h1 h2 => by
      have hj : j < zs.length := by rw [hzl]; exact (List.getElem?_eq_some_iff.mp h2).1
      have := g.at_ j j y h1 (by rw [all_kept, List.getElem?_range hj])
      rwa [show ls.getD j ([], []) = l by rw [List.getD_eq_getElem?_getD, h2]; rfl] at this
    have lf := cl.len
    have ly := hfs.length
    rw [List.length_map] at ly
    refine sq_if0 ⟨_, rfl, D, rfl, ⟨ys, .of hy⟩, fun D2 hD2 => lcS walk_list hD2 (by rw [ly, lf]; exact slt (by omega)) (fun i y => y = .bl (decide (12 < (fs.getD i ([], [])).2.length))) (fun H e => .of (e _ _ hy)) (fun i x H3 H4 Q1 hi e3 y q1 => ?_) (fun H3 ys3 e3 hy3 hn3 hr3 => ?_)⟩
    · obtain ⟨rfl, hx⟩ := y
      obtain ⟨d, hd1, hd2⟩ := hfs.getV hx
      rw [List.getElem?_map] at hd1
      obtain ⟨l, hl1, rfl⟩ := Option.map_eq_some_iff.mp hd1
      have el : fs.getD i ([], []) = l := by rw [List.getD_eq_getElem?_getD, hl1]; rfl
      rw [el] at q1
      obtain ⟨b, u, v, rfl, hb, hu, hv⟩ := ln_v (hd2.to e3)
      obtain ⟨pv, zv, rfl, hzv, hzvl, _, _⟩ := tup_view hv
      refine ⟨_, _, rfl, hb, rfl, _, _, rfl, _, _, rfl, rfl, rfl, _, rfl, pv, zv, rfl, .inr hzv, _, _, rfl, rfl, ?_⟩
      rw [hzvl]
      exact q1 _ _ (congrArg V.bl (decide_eq_decide.mpr (by omega))) (Same.refl _)
    have ev := vals_bl (f := fun i => decide (12 < (fs.getD i ([], [])).2.length)) hn3 hr3
    rw [ly, by_places fs ([], []) fun l => decide (12 < l.2.length)] at ev
    subst ev
    have e23 := e2.trans e3
    refine ⟨D2, _, rfl, .of hy3, ?_⟩
    rw [List.any_map]
    by_cases c12 : ∃ f ∈ fs, 12 < f.2.length
    · have : fs.any (id ∘ fun l : Ln => decide (12 < l.2.length)) = true := by
        obtain ⟨f, h1, h2⟩ := c12
        exact List.any_eq_true.mpr ⟨f, h1, decide_eq_true h2⟩
      rw [this]
      exact ⟨_, rfl, iteT (rz_f (σ := []) ((k fs cl).1 c12) e23 (.int _))⟩
    · have : fs.any (id ∘ fun l : Ln => decide (12 < l.2.length)) = false := by
        refine List.any_eq_false.mpr fun f h1 h2 => c12 ⟨f, h1, of_decide_eq_true h2⟩
      rw [this]
      have k2 := (k fs cl).2 fun f hf => Nat.le_of_not_lt fun z => c12 ⟨f, hf, z⟩
      have hfs3 := hfs.to e3
      refine ⟨_, rfl, iteF (sq_go ⟨_, rfl, D, ys, _, rfl, .inl (.of (e3 _ _ hy)), hfs3, set_lns (by omega), fun zs2 es r hes so hr0 => ?_⟩)⟩
      obtain ⟨out, rfl, c⟩ := out_typed knd_ln so
      obtain ⟨k3, k4⟩ := k2 out c
      have lo := hes.length
      rw [List.length_map] at lo
      have e4 := e23.then_new (o := HO.lst zs2) hr0
      refine sq_if0 ⟨_, rfl, r, zs2, rfl, .inl (.of upd_same), _, _, rfl, rfl, _, rfl, ?_⟩
      rw [lo]
      by_cases c4 : 400 < out.length
      · rw [decide_eq_true (by omega)]
        exact iteT (rz_f (σ := []) (k3 c4) e4 (.int _))
      · rw [decide_eq_false (by omega)]
        refine iteF ⟨_, rfl, _, rfl, r, zs2, rfl, .inl ⟨.of upd_same, fun t ht => ⟨Nat.le_of_ble_eq_true rfl, fun q hq => k4 (by omega) _ _ ((e4.then_new ht).then_new hq) ?_⟩⟩⟩
        have n1 := Same.new (o := HO.lst zs2) hr0
        have n2 := Same.new (o := HO.tup zs2) ht
        exact .tup (.of upd_same) (.cons (.int _) (.cons ((Dp.tup (.of upd_same) ((hes.to n1).to n2)).to (Same.new hq)) .nil))
end
end Ws
/-! ## U22 -/
/-! tuples cut, joined and repeated: which object comes back is left open -/
namespace Ws
open PySem PySem.Spec PyProof.Rows L2 PySem.P
theorem tuple_mul_none (l : Addr) (items : Array Value) (n : Nat) (dd : Option Addr) (sl : Array (Option Value)) (u : Tok) (hne : items.isEmpty = false) :
    Meets (Builtin.«tuple.__mul__» ⟨[.ref l, .int 0 u], []⟩) (fun _ R s => s.heap.get? l = some { cls := .type "tuple", dict := dd, data := .seq items n, slots := sl } ∧
      R (.ok (.ret (Value.ref s.heap.objs.size))) { s with heap := s.heap.push { cls := Value.type "tuple", data := Data.seq #[] }, toks := s.toks }) :=
  .of_wp fun prog w A R s h => by
    obtain ⟨hp, g, d, tk, os⟩ := s
    obtain ⟨hl, h⟩ := h
    have f1 := AutoSeq1.idx_int
    have c1 : (items.isEmpty || (0 : Int) == 1) = false := by rw [hne]; rfl
    wp_walk using wpAny_loadPart' hl
    repeat (first
      | (refine wpAny_ite_false (decide_eq_false (by rw [c1]; exact Bool.false_ne_true)) ?_; wp_walk using wpAny_loadPart' hl)
      | (refine wpAny_ite_true (decide_eq_true (by rfl)) ?_; wp_walk using wpAny_loadPart' hl))
    exact ⟨_, rfl, h⟩
def rRepN (K : PySem.W.Frag) : R2 := fun x y H Q => ∃ l xs, x = .ref l ∧ y = .int 0 ∧ SqT K H l xs ∧ xs ≠ [] ∧ ∀ p, H p = none → Q (.ref p) (upd H p (.tup []))
theorem op_repN {X : Cx} : OpR X (binaryOp .Mult) (rRepN X.K) := by
  intro pins s σ H x y v u Q I rx ry h
  obtain ⟨l, xs, rfl, rfl, hT, hne, q⟩ := h
  cases rx
  obtain ⟨t, rfl⟩ := ry
  obtain ⟨its, r, ⟨⟨cls, dd, data, sl⟩, ho, hc, n, hd⟩, hs⟩ := I.tuple hT
  simp only at hc hd
  subst hc hd
  have hn : its ≠ [] := fun e => hne (by
    have := r.length
    rw [e] at this
    exact List.eq_nil_of_length_eq_zero this)
  have hi : its.toArray.isEmpty = false := by
    cases its with
    | nil => exact absurd rfl hn
    | cons a b => rfl
  refine wpAny_binaryOp_repeat_ref (T := "tuple") (U := "int") (by decide) ⟨_, ho, rfl⟩ (fun s' => typeIs_int s' 0 t) noFill_tuple_mul F.fills_int_mul F.slot_int_rmul repeat_tuple F.slot_int_index.lookup
    (call_meets F.slot_int_rmul (typeIs_int s 0 t) F.entry_int_rmul (F.args_int_rmul_2 _ _) (int_rmul_tuple 0 t l its.toArray n dd sl)
      ⟨ho, rfl, ⟨_, ho, rfl⟩, call_meets F.slot_tuple_mul ⟨_, ho, rfl⟩ F.entry_tuple_mul (F.args_tuple_mul_2 _ _) (tuple_mul_none l its.toArray n dd sl t hi) ⟨ho, ?_⟩⟩)
  refine ⟨.ref s.heap.objs.size, _, I.laid (t' := s.toks) (o := .tup []) (fun b ob q => Heap.get?_push_of_some _ q) (Nat.le_refl _) ?_, rfl, q _ (I.hok.fresh (Nat.le_refl _))⟩
  exact ⟨Nat.zero_le _, [], .nil, IsTup.new _ _⟩
/-- t * k, k from 0 on -/
def rRepZ (K : PySem.W.Frag) : R2 := fun x y H Q => ∃ l k xs, x = .ref l ∧ y = .int (k : Nat) ∧ SqT K H l xs ∧ k ≤ 1000 ∧ xs.length ≤ 1000 ∧ ∀ H' p, Same H H' → SqT K H' p (List.replicate k xs).flatten → Q (.ref p) H'
theorem op_repZ {X : Cx} : OpR X (binaryOp .Mult) (rRepZ X.K) := by
  intro pins s σ H x y v u Q I rx ry h
  obtain ⟨l, k, xs, rfl, rfl, hT, h2, hz, q⟩ := h
  have fe : ∀ k : Nat, (List.replicate k ([] : List V)).flatten = [] := fun k => by
    induction k with
    | zero => rfl
    | succ k ih => rw [List.replicate_succ, List.flatten_cons, ih]; rfl
  by_cases hx : xs = []
  · subst hx
    rw [fe] at q
    by_cases h1 : 1 ≤ k
    · exact op_repB pins s σ H _ _ v u Q I rx ry ⟨l, k, [], rfl, rfl, hT, by omega, by omega, hz, fun _ => q _ _ (Same.refl _) hT, fun h => absurd rfl h⟩
    · obtain rfl : k = 0 := by omega
      have rx2 := rx
      cases rx
      obtain ⟨t, rfl⟩ := ry
      obtain ⟨its, r, ⟨⟨cls, dd, data, sl⟩, ho, hc, n, hd⟩, hs⟩ := I.tuple hT
      simp only at hc hd
      subst hc hd
      cases r
      refine wpAny_binaryOp_repeat_ref (T := "tuple") (U := "int") (by decide) ⟨_, ho, rfl⟩ (fun s' => typeIs_int s' 0 t) noFill_tuple_mul F.fills_int_mul F.slot_int_rmul repeat_tuple F.slot_int_index.lookup
        (call_meets F.slot_int_rmul (typeIs_int s 0 t) F.entry_int_rmul (F.args_int_rmul_2 _ _) (int_rmul_tuple 0 t l (#[] : Array Value) n dd sl)
          ⟨ho, rfl, ⟨_, ho, rfl⟩, call_meets F.slot_tuple_mul ⟨_, ho, rfl⟩ F.entry_tuple_mul (F.args_tuple_mul_2 _ _) (tuple_mul0 l n dd sl 0 t (by decide) rfl) ⟨ho, ?_⟩⟩)
      exact ⟨.ref l, H, I, rx2, q _ _ (Same.refl _) hT⟩
  · by_cases h1 : 1 ≤ k
    · refine op_repB pins s σ H _ _ v u Q I rx ry ⟨l, k, xs, rfl, rfl, hT, by omega, by omega, hz, fun h => ?_, fun _ _ p hp => ?_⟩
      · rcases h with h | h
        · exact absurd h hx
        · obtain rfl : k = 1 := by omega
          refine q _ _ (Same.refl _) ?_
          rw [List.replicate_succ, List.flatten_cons]
          show SqT _ _ _ (xs ++ [])
          rw [List.append_nil]
          exact hT
      · refine q _ _ (Same.new hp) (.of ?_)
        rw [upd_same, Int.toNat_natCast]
    · obtain rfl : k = 0 := by omega
      exact op_repN pins s σ H _ _ v u Q I rx ry ⟨l, xs, rfl, rfl, hT, hx, fun p hp => q _ _ (Same.new hp) (.of upd_same)⟩
/-- t + u -/
def rCatZ (K : PySem.W.Frag) : R2 := fun x y H Q => ∃ a b xs ys, x = .ref a ∧ y = .ref b ∧ SqT K H a xs ∧ SqT K H b ys ∧ xs.length + ys.length ≤ 100000 ∧ ∀ H' p, Same H H' → SqT K H' p (xs ++ ys) → Q (.ref p) H'
theorem op_catZ {X : Cx} : OpR X (binaryOp .Add) (rCatZ X.K) := by
  intro pins s σ H x y v u Q I rx ry h
  obtain ⟨a, b, xs, ys, rfl, rfl, hT, hU, hz, q⟩ := h
  refine op_catA pins s σ H _ _ v u Q I rx ry ⟨a, b, xs, ys, rfl, rfl, hT, hU, (by rw [sizeLine_eq]; omega), fun h => q _ _ (Same.refl _) ?_, fun _ h => q _ _ (Same.refl _) ?_, fun _ _ p hp => q _ _ (Same.new hp) (.of upd_same)⟩
  · rw [h]; exact hU
  · rw [h, List.append_nil]; exact hT
/-- t[lo:hi] -/
def rSlZ (K : PySem.W.Frag) : V → Option Int → Option Int → Hp → VK → Prop := fun x lo hi H Q => ∃ a xs, x = .ref a ∧ SqT K H a xs ∧ ∀ H' p, Same H H' → SqT K H' p (cutV xs lo hi) → Q (.ref p) H'
theorem sl_tupZ {X : Cx} : SlR X (rSlZ X.K) := by
  intro pins s σ H x v vl vu lo hi sl Q I rx hs pl pu h
  obtain ⟨a, xs, rfl, hT, q⟩ := h
  refine sl_tupA pins s σ H _ v vl vu lo hi sl Q I rx hs pl pu ⟨a, xs, rfl, hT, fun h => q _ _ (Same.refl _) ?_, fun _ p hp => q _ _ (Same.new hp) (.of upd_same)⟩
  have : cutV xs lo hi = xs := by
    unfold cutV
    rw [h.1, h.2, List.drop_zero, Nat.sub_zero, List.take_length]
  rw [this]
  exact hT
theorem cut_to (xs : List V) (k : Nat) : cutV xs none (some (k : Int)) = xs.take k := by
  unfold cutV
  rw [HT.sIx_none, HT.sIx_nat, List.drop_zero, Nat.sub_zero]
  by_cases h : k ≤ xs.length
  · rw [Nat.min_eq_left h]
  · rw [Nat.min_eq_right (by omega), List.take_length, List.take_of_length_le (by omega)]
theorem cut_from (xs : List V) (k : Nat) : cutV xs (some (k : Int)) none = xs.drop k := by
  unfold cutV
  rw [HT.sIx_none, HT.sIx_nat]
  by_cases h : k ≤ xs.length
  · rw [Nat.min_eq_left h, List.take_of_length_le (by rw [List.length_drop]; omega)]
  · rw [Nat.min_eq_right (by omega), List.drop_length, List.drop_eq_nil_of_le (by omega)]
    exact List.take_nil
section
variable {X : Cx} {CX : CXT} {k : Nat} {ps : List Str} {sp : Sp} {E : XK} {x : Str} {p pos : Pos}
theorem pe_fG0 (D : DfG X.prog X.w X.K X.mg X.base CX k x ps sp) (hG : X.A.guards = some []) (hr : Room k X.A) (hx : Passes CX X E) (_ha : PA X [] tNil) (hg : Gl X x := by rfl) (hdb : (x == ("__debug__" : Str)) = false := by decide) :
    PE X (.Call (.Name x p) [] [] pos) (tCa sp E tNil) := by
  obtain ⟨f, fd, F, hm, hk, hb⟩ := D.ex
  refine ⟨fun pins s σ H Q I h => ?_⟩
  refine wpAny_Call_Name_kw (ld_glob I hg hm ?_ hdb)
  exact PySem.W.callWith_K0 I.kIn hk (run_fnG (us := []) F hG hr hb hx I .nil h)
end
end Ws
/-! ## X25 -/
namespace Ws
open PySem PySem.Spec PyProof.Rows L2 RZ SD
local macro_rules | `(tactic| walk_at "nf") => `(tactic| dsimp only [tNext, tSeq, tDrop, tRet, tRetN, tIfS, tAsg, gName, gTup, gCons, gNil, tVar, tC, tOp, tUn, rI, rI0, rU, rEq, rNe, tTest, tChain, tAnd, tOr, tNot, tAndV, tOrV, tNotV, tIf, tCB, tCKw, tCons, tNil, tTup, tLst, tCa, tCallS, tB, rIxT, rIxL, rIxS, cxOf, Cx.nox, Cx.wish, Cx.blk, L2.start, tPar, tPar3, tNever, tYes, tBits, tRz, tBM, rAppend, tyV, tXf, suiteEnds, gSub, rSetL, tBreak, rMax, tDGet, sDPut, tSl, tNoPart, tPart, tDisp, tPairs, tDGet2, tDNewK, tAugS, ipI, rGetL, tDIn, tDNotIn, tBM0, rPop])
local macro_rules | `(tactic| walk_at "sx") => `(tactic| simp only [wipe, List.cons.injEq, and_assoc, exists_and_left, and_true, List.map_cons, List.map_nil, List.length_cons, List.length_nil, List.cons_append, List.nil_append, List.append_nil, Nat.reduceAdd, Nat.reduceSub, List.replicate, List.getElem?_cons_zero, List.getElem?_cons_succ, List.set_cons_zero, List.set_cons_succ, Option.some.injEq, V.int.injEq, V.bl.injEq, V.ref.injEq, V.str.injEq, exists_eq_left', exists_eq_left, true_and, Bool.true_eq_false, Bool.false_eq_true, if_true, if_false])

theorem sq_rest {s u : TS} {D : Ends} {σ : L2.St} {H : Hp} (J : L2.St → Hp → Prop) (h1 : ∀ σ' H', J σ' H' → u D σ' H') (h2 : (∀ σ' H', J σ' H' → u D σ' H') → tSeq s u D σ H) : tSeq s u D σ H := h2 h1
structure SN (n : Nat) (d : PyData) : Prop where
  lay : d.canLay0 = true
  dep : d.depth ≤ n
theorem SN.all {n : Nat} : ∀ {ds : List PyData}, (∀ d ∈ ds, SN n d) → PyData.canLayAll0 ds = true ∧ PyData.depthAll ds ≤ n
  | [], _ => ⟨by simp [PyData.canLayAll0], by simp [PyData.depthAll]⟩
  | d :: ds, h => by
    obtain ⟨i1, i2⟩ := SN.all (ds := ds) fun x hx => h x (List.mem_cons_of_mem _ hx)
    have h1 := h d (List.mem_cons_self ..)
    refine ⟨by simp [PyData.canLayAll0, i1, h1.lay], ?_⟩
    have := h1.dep
    simp only [PyData.depthAll]
    omega
theorem SN.list {n : Nat} {ds : List PyData} (h : ∀ d ∈ ds, SN n d) : SN (n + 1) (.list ds) := by
  obtain ⟨h1, h2⟩ := SN.all h
  exact ⟨by simp [PyData.canLay0, h1], by simp only [PyData.depth]; omega⟩
theorem SN.tuple {n : Nat} {ds : List PyData} (h : ∀ d ∈ ds, SN n d) : SN (n + 1) (.tuple ds) := by
  obtain ⟨h1, h2⟩ := SN.all h
  exact ⟨by simp [PyData.canLay0, h1], by simp only [PyData.depth]; omega⟩
theorem SN.shaped {n : Nat} {d : PyData} (h : SN n d) (hn : n ≤ 64) : SeqAt.shaped d = true := by
  have := h.dep
  unfold SeqAt.shaped
  rw [h.lay, decide_eq_true (by omega)]
  rfl
theorem SN.int (z : Int) : SN 0 (.int z) := ⟨by simp [PyData.canLay0], by simp [PyData.depth]⟩
theorem SN.ints (ns : List Int) : SN 1 (intsD ns) := SN.tuple fun d hd => by
  obtain ⟨i, _, rfl⟩ := List.mem_map.mp hd
  exact .int i
theorem SN.rowsT (ps : List Sq.Row) : SN 2 (.tuple (ps.map intsD)) := SN.tuple fun d hd => by
  obtain ⟨r, _, rfl⟩ := List.mem_map.mp hd
  exact .ints r
theorem SN.rowsLi (ps : List Sq.Row) : SN 2 (.list (ps.map intsD)) := SN.list fun d hd => by
  obtain ⟨r, _, rfl⟩ := List.mem_map.mp hd
  exact .ints r
theorem SN.ln (l : Ln) : SN 3 (lineD l) := SN.tuple fun d hd => by
  rcases List.mem_cons.mp hd with rfl | hd
  · exact ⟨(SN.ints _).lay, Nat.le_trans (SN.ints _).dep (by decide)⟩
  · obtain rfl := List.mem_singleton.mp hd
    exact .rowsT _
theorem eqv_nil_t (ds : List PyData) : PyData.eqv (.tuple ds) (.tuple []) = ds.isEmpty := by
  cases ds <;> rfl
theorem eqv_nil_l (ds : List PyData) : PyData.eqv (.list ds) (.list []) = ds.isEmpty := by
  cases ds <;> rfl
theorem vals_of {ys : List V} {P : Int → Prop} (h : ∀ (i : Nat) (y : V), ys[i]? = some y → ∃ r : Int, y = V.int r ∧ P r) : ∃ cs : List Int, ys = cs.map V.int ∧ cs.length = ys.length ∧ ∀ c ∈ cs, P c := by
  induction ys with
  | nil => exact ⟨[], rfl, rfl, fun c hc => absurd hc (by simp)⟩
  | cons y ys ih =>
    obtain ⟨cs, h1, h2, h3⟩ := ih fun i z hz => h (i + 1) z (by simpa using hz)
    obtain ⟨r, h4, h5⟩ := h 0 y rfl
    refine ⟨r :: cs, by rw [h4, h1]; rfl, by simp [h2], fun c hc => ?_⟩
    rcases List.mem_cons.mp hc with e | e
    · rw [e]; exact h5
    · exact h3 c e
/-- a list of data that the def made and adds to -/
structure Grw (K : PySem.W.Frag) (H0 H : Hp) (a l c F : Addr) (ys : List V) (ds : List PyData) : Prop where
  h : H F = some (.lst ys)
  dp : DpAll K H ys ds
  a : F ≠ a
  l : F ≠ l
  c : F ≠ c
  z : H0 F = none
  nl : noListAll ds = true
theorem Grw.sbt {K : PySem.W.Frag} {H0 H H' : Hp} {a l c F : Addr} {n : Nat} {ys : List V} {ds : List PyData} (g : Grw K H0 H a l c F ys ds) (e : Sbt a l H H') (s : LSt H a l c n) : Grw K H0 H' a l c F ys ds := ⟨e _ _ g.h g.a g.l, keepTs e s _ _ g.nl g.dp, g.a, g.l, g.c, g.z, g.nl⟩
theorem Grw.same {K : PySem.W.Frag} {H0 H H' : Hp} {a l c F : Addr} {ys : List V} {ds : List PyData} (g : Grw K H0 H a l c F ys ds) (e : Same H H') : Grw K H0 H' a l c F ys ds := ⟨e _ _ g.h, g.dp.to e, g.a, g.l, g.c, g.z, g.nl⟩
theorem Grw.off {K : PySem.W.Frag} {H0 H : Hp} {a l c F p : Addr} {ys xs : List V} {ds : List PyData} {o : HO} (g : Grw K H0 H a l c F ys ds) (n : F ≠ p) (hp : H p = some (.lst xs)) : Grw K H0 (upd H p o) a l c F ys ds := ⟨by rw [upd_ne n]; exact g.h, keepLs hp g.nl g.dp, g.a, g.l, g.c, g.z, g.nl⟩
theorem DpAll_snoc {K : PySem.W.Frag} {H : Hp} : ∀ {ys : List V} {ds : List PyData} {y : V} {d : PyData} (h : DpAll K H ys ds) (hd : Dp K H y d), DpAll K H (ys ++ [y]) (ds ++ [d])
  | _, _, _, _, .nil, hd => .cons hd .nil
  | _, _, _, _, .cons h1 h2, hd => .cons h1 (DpAll_snoc h2 hd)
theorem noListAll_snoc {ds : List PyData} {d : PyData} (h : noListAll ds = true) (hd : noList d = true) : noListAll (ds ++ [d]) = true := by
  induction ds with
  | nil => simp [noListAll, hd]
  | cons x xs ih =>
    simp only [noListAll, Bool.and_eq_true, List.cons_append] at h ⊢
    exact ⟨h.1, ih h.2⟩
theorem Grw.app {K : PySem.W.Frag} {H0 H : Hp} {a l c F : Addr} {ys : List V} {ds : List PyData} {y : V} {d : PyData} (g : Grw K H0 H a l c F ys ds) (hy : Dp K H y d) (hd : noList d = true) : Grw K H0 (upd H F (.lst (ys ++ [y]))) a l c F (ys ++ [y]) (ds ++ [d]) :=
  ⟨upd_same, DpAll_snoc (keepLs g.h g.nl g.dp) (keepL g.h hd hy), g.a, g.l, g.c, g.z, noListAll_snoc g.nl hd⟩
theorem any_eqv_rows {rows : List Sq.Row} {r : Sq.Row} (h : ((rows.map intsD).any fun z => PyData.eqv z (intsD r)) = false) : r ∉ rows := fun hm => by
  have := List.any_eq_false.mp h (intsD r) (List.mem_map.mpr ⟨r, hm, rfl⟩)
  rw [eqv_ints] at this
  simp at this
theorem any_eqv_lns {ls : List Ln} {r : Ln} (h : ((ls.map lineD).any fun z => PyData.eqv z (lineD r)) = false) : r ∉ ls := fun hm => by
  have := List.any_eq_false.mp h (lineD r) (List.mem_map.mpr ⟨r, hm, rfl⟩)
  rw [eqv_ln] at this
  simp at this
theorem nodup_snoc {α : Type} {xs : List α} {x : α} (h : xs.Nodup) (hx : x ∉ xs) : (xs ++ [x]).Nodup := by
  rw [List.nodup_append]
  refine ⟨h, by simp, fun a ha b hb e => ?_⟩
  rw [List.mem_singleton.mp hb] at e
  exact hx (e ▸ ha)
theorem sort_rows (rows : List Sq.Row) (m : Nat) (m1 : 1 ≤ m) (h : ∀ r ∈ rows, r.length = m) : PySem.W.AllAlike (rows.map intsD) ∧ PySem.W.Sortable (rows.map intsD) ∧ ∀ d ∈ rows.map intsD, d.depth ≤ 30 := by
  refine ⟨fun d hd d' hd' => ?_, .inl fun d hd => ?_, fun d hd => ?_⟩
  · obtain ⟨r, _, rfl⟩ := List.mem_map.mp hd
    obtain ⟨r', _, rfl⟩ := List.mem_map.mp hd'
    exact alike_intsD _ _
  · obtain ⟨r, hr, rfl⟩ := List.mem_map.mp hd
    have := h r hr
    cases r with
    | nil => simp at this; omega
    | cons x r => exact ⟨_, _, rfl⟩
  · obtain ⟨r, _, rfl⟩ := List.mem_map.mp hd
    exact Nat.le_trans (SN.ints r).dep (by decide)
theorem sort_lns (ls : List Ln) : PySem.W.AllAlike (ls.map lineD) ∧ PySem.W.Sortable (ls.map lineD) ∧ ∀ d ∈ ls.map lineD, d.depth ≤ 30 := by
  refine ⟨fun d hd d' hd' => ?_, .inl fun d hd => ?_, fun d hd => ?_⟩
  · obtain ⟨r, _, rfl⟩ := List.mem_map.mp hd
    obtain ⟨r', _, rfl⟩ := List.mem_map.mp hd'
    exact alike_ln _ _
  · obtain ⟨r, hr, rfl⟩ := List.mem_map.mp hd
    exact ⟨_, _, rfl⟩
  · obtain ⟨r, _, rfl⟩ := List.mem_map.mp hd
    exact Nat.le_trans (SN.ln r).dep (by decide)
/-- a list that the def made and adds to, nothing drawn -/
structure Gro (K : PySem.W.Frag) (H0 H : Hp) (F : Addr) (ys : List V) (ds : List PyData) : Prop where
  h : H F = some (.lst ys)
  dp : DpAll K H ys ds
  z : H0 F = none
  nl : noListAll ds = true
theorem Gro.same {K : PySem.W.Frag} {H0 H H' : Hp} {F : Addr} {ys : List V} {ds : List PyData} (g : Gro K H0 H F ys ds) (e : Same H H') : Gro K H0 H' F ys ds := ⟨e _ _ g.h, g.dp.to e, g.z, g.nl⟩
theorem Gro.off {K : PySem.W.Frag} {H0 H : Hp} {F p : Addr} {ys xs : List V} {ds : List PyData} {o : HO} (g : Gro K H0 H F ys ds) (n : F ≠ p) (hp : H p = some (.lst xs)) : Gro K H0 (upd H p o) F ys ds := ⟨by rw [upd_ne n]; exact g.h, keepLs hp g.nl g.dp, g.z, g.nl⟩
theorem Gro.app {K : PySem.W.Frag} {H0 H : Hp} {F : Addr} {ys : List V} {ds : List PyData} {y : V} {d : PyData} (g : Gro K H0 H F ys ds) (hy : Dp K H y d) (hd : noList d = true) : Gro K H0 (upd H F (.lst (ys ++ [y]))) F (ys ++ [y]) (ds ++ [d]) :=
  ⟨upd_same, DpAll_snoc (keepLs g.h g.nl g.dp) (keepL g.h hd hy), g.z, noListAll_snoc g.nl hd⟩
def rowOf (d : PyData) : Sq.Row := (itm d).map iOf
theorem rowOf_ints (r : Sq.Row) : rowOf (intsD r) = r := by
  show ((r.map PyData.int).map iOf) = r
  rw [List.map_map]
  conv => rhs; rw [← List.map_id r]
  exact List.map_congr_left fun x _ => rfl
def lnOf (d : PyData) : Ln := (rowOf ((itm d).getD 0 .none), (itm ((itm d).getD 1 .none)).map rowOf)
theorem lnOf_ln (l : Ln) : lnOf (lineD l) = l := by
  obtain ⟨a, b⟩ := l
  show (rowOf (intsD a), (b.map intsD).map rowOf) = (a, b)
  rw [rowOf_ints, List.map_map]
  congr 1
  conv => rhs; rw [← List.map_id b]
  exact List.map_congr_left fun x _ => rowOf_ints x
theorem perm_map {α : Type} {f : α → PyData} {g : PyData → α} (hg : ∀ x, g (f x) = x) {xs : List α} {es : List PyData} (h : es.Perm (xs.map f)) : ∃ ys : List α, es = ys.map f ∧ ys.Perm xs := by
  refine ⟨es.map g, ?_, ?_⟩
  · rw [List.map_map]
    conv => lhs; rw [← List.map_id es]
    refine List.map_congr_left fun e he => ?_
    obtain ⟨x, _, rfl⟩ := List.mem_map.mp (h.mem_iff.mp he)
    show f x = f (g (f x))
    rw [hg]
  · have := h.map g
    rw [List.map_map] at this
    have e : xs.map (g ∘ f) = xs := by
      conv => rhs; rw [← List.map_id xs]
      exact List.map_congr_left fun x _ => hg x
    rw [e] at this
    exact this
theorem nz_max {r : Sq.Row} {mx : Int} (hb : ∀ x ∈ r, 0 ≤ x) (h1 : mx ∈ r) (h2 : ∀ y ∈ r, y ≤ mx) : decide (0 < mx) = nzR r := by
  rw [Bool.eq_iff_iff, decide_eq_true_eq]
  unfold nzR
  rw [List.any_eq_true]
  constructor
  · intro h
    exact ⟨mx, h1, by simpa using (show mx ≠ 0 by omega)⟩
  · rintro ⟨x, hx, h⟩
    have h0 : x ≠ 0 := by simpa using h
    have := hb x hx
    have := h2 x hx
    omega
theorem take_succ_of {α : Type} {l : List α} {i : Nat} {x : α} (h : l[i]? = some x) : l.take (i + 1) = l.take i ++ [x] := by
  obtain ⟨h1, h2⟩ := List.getElem?_eq_some_iff.mp h
  rw [List.take_succ_eq_append_getElem h1, h2]
theorem rep_one (v : V) (k : Nat) : (List.replicate k [v]).flatten = List.replicate k v := by
  induction k with
  | zero => rfl
  | succ k ih => rw [List.replicate_succ, List.replicate_succ, List.flatten_cons, ih]; rfl
theorem dps_rep {K : PySem.W.Frag} {H : Hp} {v : V} {d : PyData} (h : Dp K H v d) : ∀ k : Nat, DpAll K H (List.replicate k v) (List.replicate k d)
  | 0 => .nil
  | k + 1 => .cons h (dps_rep h k)
theorem sq_if {t : TT} {r q u : TS} {D : Ends} {σ : L2.St} {H : Hp} (h : t σ H fun b H1 => if b = true then r { D with nx := u D } σ H1 else q { D with nx := u D } σ H1) : tSeq (tIfS t r q) u D σ H := h
theorem if_if {t : TT} {r q : TS} {D : Ends} {σ : L2.St} {H : Hp} (h : t σ H fun b H1 => if b = true then r D σ H1 else q D σ H1) : tIfS t r q D σ H := h
theorem sq_restU {s u : TS} {D : Ends} {σ : L2.St} {H : Hp} (J : L2.St → Hp → Prop) (h1 : ∀ σ' H', J σ' H' → u D σ' H') (h2 : ∀ u' : TS, (∀ σ' H', J σ' H' → u' D σ' H') → tSeq s u' D σ H) : tSeq s u D σ H := h2 u h1
def Lit (K : PySem.W.Frag) (H0 : Hp) (te : TE) (σ : L2.St) (d : PyData) : Prop := ∀ (H : Hp) (Q : VK), Same H0 H → (∀ H' v, Same H H' → Dp K H' v d → Q v H') → te σ H Q
def Lits (K : PySem.W.Frag) (H0 : Hp) (ta : TA) (σ : L2.St) (ds : List PyData) : Prop := ∀ (H : Hp) (Q : List V → Hp → Prop), Same H0 H → (∀ H' vs, Same H H' → DpAll K H' vs ds → Q vs H') → ta σ H Q
section
variable {K : PySem.W.Frag} {H0 : Hp} {σ : L2.St}
theorem Lit.int {i : Int} : Lit K H0 (tC (.int i)) σ (.int i) := fun H Q _ q => q H _ (Same.refl _) (.int _)
theorem Lit.str {s : Str} : Lit K H0 (tC (.str s)) σ (.str s) := fun H Q _ q => q H _ (Same.refl _) (.str _)
theorem Lit.non : Lit K H0 (tC .non) σ .none := fun H Q _ q => q H _ (Same.refl _) .non
theorem Lit.bl {b : Bool} : Lit K H0 (tC (.bl b)) σ (.bool b) := fun H Q _ q => q H _ (Same.refl _) (.bl _)
theorem Lits.nil : Lits K H0 tNil σ [] := fun H Q _ q => q H _ (Same.refl _) .nil
theorem Lits.cons {te : TE} {ta : TA} {d : PyData} {ds : List PyData} (h : Lit K H0 te σ d) (r : Lits K H0 ta σ ds) : Lits K H0 (tCons te ta) σ (d :: ds) := fun H Q e q =>
  h H _ e fun H1 v e1 hv => r H1 _ (e.trans e1) fun H2 vs e2 hvs => q H2 _ (e1.trans e2) (.cons (hv.to e2) hvs)
theorem Lit.tup {ta : TA} {ds : List PyData} (r : Lits K H0 ta σ ds) (hl : ds.length ≤ 1000 := by decide) : Lit K H0 (tTup ta) σ (.tuple ds) := fun H Q e q =>
  r H _ e fun H1 vs e1 hvs => ⟨by rw [hvs.length, sizeLine_eq]; omega, fun p hp => q _ _ (e1.then_new hp) (.tup (.of upd_same) (hvs.to (Same.new hp)))⟩
theorem Lit.lst {ta : TA} {ds : List PyData} (r : Lits K H0 ta σ ds) (hl : ds.length ≤ 1000 := by decide) : Lit K H0 (tLst ta) σ (.list ds) := fun H Q e q =>
  r H _ e fun H1 vs e1 hvs => ⟨by rw [hvs.length, sizeLine_eq]; omega, fun p hp => q _ _ (e1.then_new hp) (.lst (.of upd_same) (hvs.to (Same.new hp)))⟩
theorem Lit.var {i : Nat} {v : V} {d : PyData} (h : σ[i]? = some (some v)) (hd : Dp K H0 v d) : Lit K H0 (tVar i) σ d := fun H Q e q => ⟨v, h, q _ _ (Same.refl _) (hd.to e)⟩
theorem Lit.add {t u : TE} {i j : Int} (h1 : Lit K H0 t σ (.int i)) (h2 : Lit K H0 u σ (.int j)) : Lit K H0 (tOp (rI0 fun i j => V.int (i + j)) t u) σ (.int (i + j)) := fun H Q e q =>
  h1 H _ e fun H1 v e1 hv => h2 H1 _ (e.trans e1) fun H2 x e2 hx => by
    cases hv
    cases hx
    exact ⟨_, _, rfl, rfl, q _ _ (e1.trans e2) (.int _)⟩
theorem Lit.pow {t u : TE} {i j : Int} (h1 : Lit K H0 t σ (.int i)) (h2 : Lit K H0 u σ (.int j)) (c : CPow i j) : Lit K H0 (tOp (rI CPow fun i j => V.int (i ^ j.toNat)) t u) σ (.int (i ^ j.toNat)) := fun H Q e q =>
  h1 H _ e fun H1 v e1 hv => h2 H1 _ (e.trans e1) fun H2 x e2 hx => by
    cases hv
    cases hx
    exact ⟨_, _, rfl, rfl, c, q _ _ (e1.trans e2) (.int _)⟩
theorem Lit.cat {t u : TE} {xs ys : List PyData} (h1 : Lit K H0 t σ (.tuple xs)) (h2 : Lit K H0 u σ (.tuple ys)) (hl : xs.length + ys.length ≤ 100000) : Lit K H0 (tOp (rCatZ K) t u) σ (.tuple (xs ++ ys)) := fun H Q e q =>
  h1 H _ e fun H1 v e1 hv => h2 H1 _ (e.trans e1) fun H2 x e2 hx => by
    obtain ⟨a, as, rfl, ha, has⟩ := (hv.to e2).tup_inv
    obtain ⟨b, bs, rfl, hb, hbs⟩ := hx.tup_inv
    exact ⟨_, _, as, bs, rfl, rfl, ha, hb, by rw [has.length, hbs.length]; exact hl, fun H3 p e3 h3 => q _ _ ((e1.trans e2).trans e3) (.tup h3 ((has.append hbs).to e3))⟩
theorem Lits.mk {ta : TA} {ds : List PyData} {H : Hp} {Q : VK} (r : Lits K H0 ta σ ds) (e : Same H0 H) (q : ∀ H' p ys, Same H H' → H p = none → H' p = some (.lst ys) → DpAll K H' ys ds → Q (.ref p) H') (hl : ds.length ≤ 1000 := by decide) : tLst ta σ H Q :=
  r H _ e fun H1 vs e1 hvs => ⟨by rw [hvs.length, sizeLine_eq]; omega, fun p hp => q _ _ _ (e1.then_new hp) (by
    cases z : H p with
    | none => rfl
    | some o => rw [e1 _ _ z] at hp; cases hp) upd_same (hvs.to (Same.new hp))⟩
theorem Lit.toList {te : TE} {ds : List PyData} (h : Lit K H0 te σ (.tuple ds)) : Lit K H0 (tCB (fun xs H Q => ∃ p ys, xs = [V.ref p] ∧ (SqL K H p ys ∨ SqT K H p ys) ∧ ∀ (l : Addr), H l = none → Q (V.ref l) (upd H l (HO.lst ys))) (tCons te tNil)) σ (.list ds) := fun H Q e q =>
  h H _ e fun H1 v e1 hv => by
    obtain ⟨p, ys, rfl, hp, hys⟩ := hv.tup_inv
    exact ⟨p, ys, rfl, .inr hp, fun l hl => q _ _ (e1.then_new hl) (.lst (.of upd_same) (hys.to (Same.new hl)))⟩
theorem for_lst {ta : TA} {ds : List PyData} {g : TG} {b : TS} {D : Ends} {H : Hp} (r : Lits K H ta σ ds) (q : ∀ H' p ys, Same H H' → H p = none → H' p = some (.lst ys) → DpAll K H' ys ds → tFor (fun _ H1 R => R (Itl K p) H1) g b D σ H') (hl : ds.length ≤ 1000) : tFor (iList K (tLst ta)) g b D σ H := by
  unfold tFor iList
  exact Lits.mk r (Same.refl _) (fun H' p ys e n h a => ⟨p, rfl, ⟨_, .of h⟩, q H' p ys e n h a⟩) hl
/-- asked, and told as due -/
def Yes (te : TE) (σ : L2.St) (H : Hp) : Prop := ∀ Q : VK, (∀ H', Same H H' → Q (.bl true) H') → te σ H Q
theorem sq_yes {te : TE} {r u : TS} {D : Ends} {H : Hp} (h : Yes te σ H) (k : ∀ H', Same H H' → u D σ H') : tSeq (tIfS (tNot (tB te)) r tNext) u D σ H :=
  h _ fun H' e => ⟨true, rfl, k H' e⟩
theorem if_yes {te : TE} {r : TS} {D : Ends} {H : Hp} (h : Yes te σ H) (k : ∀ H', Same H H' → D.nx σ H') : tIfS (tNot (tB te)) r tNext D σ H :=
  h _ fun H' e => ⟨true, rfl, k H' e⟩
theorem ret_yes {te : TE} {D : Ends} {H : Hp} (h : Yes te σ H) (k : ∀ H', Same H H' → D.rt (.bl true) H') : tRet te D σ H := h _ k
end
section
variable {K : PySem.W.Frag}
theorem comp_made {lo : Int} {n j : Nat} {te : TE} {σ : L2.St} {vs : List Nat} {H : Hp} {Q : VK} {wi : L2.TI} (f : Nat → PyData) (hn : n ≤ 1000) (nl : ∀ k, noList (f k) = true)
    (hi : ∀ R : It → Hp → Prop, R (Itr lo n) H → wi σ H R) (hw : ∀ x : V, wipe ((wipe σ vs).set j (some x)) vs = wipe σ vs)
    (h : ∀ k H1, k < n → Same H H1 → Lit K H1 te ((wipe σ vs).set j (some (.int (lo + (k : Nat))))) (f k))
    (q : ∀ H' v, Same H H' → Dp K H' v (.tuple ((List.range n).map f)) → Q v H') :
    tCB (fun xs H Q => ∃ p ys, xs = [V.ref p] ∧ ((SqL K H p ys ∧ ∀ (l : Addr), H l = none → Q (V.ref l) (upd H l (HO.tup ys))) ∨ SqT K H p ys ∧ Q (V.ref p) H)) (tCons (tLc wi (gName j) tYes te vs) tNil) σ H Q := by
  refine hi _ fun D hD => lcF (walk_range (lo := lo) (n := n)) hD (by rw [sizeLine_eq]; omega) (fun _ => true) (fun i y H => Dp K H y (f i)) (fun i y H H' e n q => keepN e n n _ _ (nl i) q) (fun _ _ => trivial) (fun i x H2 H3 Q1 Q0 hi e2 y q1 q0 => ?_) (fun H2 ys e2 hy g => ?_)
  · obtain ⟨rfl, rfl⟩ := y
    exact ⟨hw _, iteT (B := Q0 H3) (h i _ hi e2 _ _ (Same.refl _) fun H4 v e4 hv => q1 rfl _ _ hv e4)⟩
  · have hd := g.dp (fun i => f i) fun i y q => q
    rw [all_kept] at hd
    exact ⟨D, ys, rfl, .inl ⟨.of hy, fun l hl => q _ _ (e2.then_new hl) (.tup (.of upd_same) (hd.to (Same.new hl)))⟩⟩
variable {H0 : Hp} {σ : L2.St}
theorem Lit.take {te : TE} {xs : List PyData} (k : Nat) (h : Lit K H0 te σ (.tuple xs)) : Lit K H0 (tSl (rSlZ K) te tNoPart (tPart (tC (V.int (k : Nat))))) σ (.tuple (xs.take k)) := fun H Q e q =>
  h H _ e fun H1 v e1 hv => by
    obtain ⟨p, ys, rfl, hp, hys⟩ := hv.tup_inv
    refine ⟨_, rfl, p, ys, rfl, hp, fun H2 r e2 hr => ?_⟩
    rw [cut_to] at hr
    exact q _ _ (e1.trans e2) (.tup hr ((hys.to e2).take k))
theorem Lit.takeI {te ti : TE} {xs : List PyData} {k : Nat} (h : Lit K H0 te σ (.tuple xs)) (hi : Lit K H0 ti σ (.int (k : Nat))) : Lit K H0 (tSl (rSlZ K) te tNoPart (tPart ti)) σ (.tuple (xs.take k)) := fun H Q e q =>
  h H _ e fun H1 v e1 hv => hi H1 _ (e.trans e1) fun H2 x e2 hx => by
    obtain ⟨p, ys, rfl, hp, hys⟩ := (hv.to e2).tup_inv
    cases hx
    refine ⟨_, rfl, p, ys, rfl, hp, fun H3 r e3 hr => ?_⟩
    rw [cut_to] at hr
    exact q _ _ ((e1.trans e2).trans e3) (.tup hr ((hys.to e3).take k))
theorem Lit.dropI {te ti : TE} {xs : List PyData} {k : Nat} (h : Lit K H0 te σ (.tuple xs)) (hi : Lit K H0 ti σ (.int (k : Nat))) : Lit K H0 (tSl (rSlZ K) te (tPart ti) tNoPart) σ (.tuple (xs.drop k)) := fun H Q e q =>
  h H _ e fun H1 v e1 hv => hi H1 _ (e.trans e1) fun H2 x e2 hx => by
    obtain ⟨p, ys, rfl, hp, hys⟩ := (hv.to e2).tup_inv
    cases hx
    refine ⟨_, rfl, p, ys, rfl, hp, fun H3 r e3 hr => ?_⟩
    rw [cut_from] at hr
    exact q _ _ ((e1.trans e2).trans e3) (.tup hr ((hys.to e3).drop k))
theorem yes_like {te lt : TE} {R : PyData} {N : Nat} {H : Hp} (h1 : Lit K H te σ R) (h2 : Lit K H lt σ R) (sm : Sm N 6 R) (hN : N ≤ 200000) : Yes (tCa (spLike K) E0 (tCons te (tCons lt tNil))) σ H := fun Q q =>
  h1 H _ (Same.refl _) fun H1 v e1 hv => h2 H1 _ e1 fun H2 x e2 hx => ⟨v, x, R, N, 6, rfl, hv.to e2, hx, sm, hN, by decide, q _ (e1.trans e2)⟩
theorem dps_back {H : Hp} : ∀ {ys : List V} {ds : List PyData}, DpAll K H ys ds → DpAll K H ys.reverse ds.reverse
  | _, _, .nil => .nil
  | _, _, .cons h1 h2 => by
    rw [List.reverse_cons, List.reverse_cons]
    exact (dps_back h2).append (.cons h1 .nil)
theorem Lit.rev {te : TE} {xs : List PyData} (h : Lit K H0 te σ (.tuple xs)) : Lit K H0 (tRevT K te) σ (.tuple xs.reverse) := fun H Q e q =>
  h H _ e fun H1 v e1 hv => by
    obtain ⟨p, ys, rfl, hp, hys⟩ := hv.tup_inv
    exact ⟨p, ys, rfl, hp, fun r hr => q _ _ (e1.then_new hr) (.tup (.of upd_same) (dps_back (hys.to (Same.new hr))))⟩
theorem sq_par {i j : Nat} {ta : TA} {u : TS} {D : Ends} {H : Hp} {d1 d2 : PyData} (r : Lits K H ta σ [d1, d2]) (k : ∀ H' v w, Same H H' → Dp K H' v d1 → Dp K H' w d2 → u D ((σ.set i (some v)).set j (some w)) H') : tSeq (tPar i j ta) u D σ H :=
  r H _ (Same.refl _) fun H' vs e hvs => by
    obtain ⟨x, y, rfl, h1, h2⟩ := hvs.two
    exact ⟨x, y, rfl, k _ _ _ e h1 h2⟩
theorem sq_lit {i : Nat} {te : TE} {u : TS} {D : Ends} {H : Hp} {d : PyData} (r : Lit K H te σ d) (k : ∀ H' v, Same H H' → Dp K H' v d → u D (σ.set i (some v)) H') : tSeq (tAsg te (gName i)) u D σ H :=
  r H _ (Same.refl _) fun H' v e hv => k _ _ e hv
end
end Ws
/-! ## Y25 -/
namespace Ws
open PySem PySem.Spec PyProof.Rows L2
theorem entry_of {m : Nat} {r : Sq.Row} (h : r.length = m) (b : ∀ x ∈ r, 0 ≤ x ∧ x ≤ 10 ^ 9) : isEntryD m (intsD r) = true := by
  unfold isEntryD
  rw [Bool.and_eq_true]
  refine ⟨?_, ?_⟩
  · show decide _ = true
    rw [decide_eq_true_eq, List.length_map, h]
  · show List.all _ _ = true
    rw [List.all_map, List.all_eq_true]
    intro x hx
    have := b x hx
    show (decide _ && decide _) = true
    rw [Bool.and_eq_true, decide_eq_true_eq, decide_eq_true_eq]
    omega
theorem SmA.lst {N D : Nat} {xs : List PyData} (h : SmA N D xs) : Sm N (D + 1) (.list xs) :=
  ⟨by simpa only [PyData.showable] using h.sh, by simpa only [PyData.leavesShort] using h.lv, by simpa only [PyData.hasDict] using h.nd, by simpa only [PyData.bulk] using h.bk, by simp only [PyData.depth]; have := h.dp; omega⟩
theorem Sm.word {N D : Nat} {x : Str} (h1 : (x.cps.toList.all fun c => decide (c < 16 ^ 8)) = true) (h2 : x.cps.size ≤ N) : Sm N D (.str x) := ⟨rfl, h1, rfl, h2, Nat.zero_le _⟩
structure SmL (l : Ln) : Prop where
  b : l.1.length ≤ 16 ∧ ∀ x ∈ l.1, x.natAbs < 10 ^ 60
  r : ∀ x ∈ l.2, x.length ≤ 16 ∧ ∀ y ∈ x, y.natAbs < 10 ^ 60
  n : l.2.length ≤ 16
theorem sm_ints {ns : List Int} (h : ns.length ≤ 16 ∧ ∀ x ∈ ns, x.natAbs < 10 ^ 60) : Sm 16 1 (intsD ns) :=
  SmA.tup (SmA.mono (SmA.of_all (n := 0) fun x hx => by
    obtain ⟨i, hi, rfl⟩ := List.mem_map.mp hx
    exact Sm.int' (h.2 i hi)) (by rw [List.length_map]; have := h.1; omega))
theorem sm_ln {l : Ln} (h : SmL l) : Sm 300 3 (lineD l) := by
  have h2 : Sm 272 2 (rowsD l.2) := SmA.tup (SmA.mono (SmA.of_all (n := 16) fun x hx => by
    obtain ⟨i, hi, rfl⟩ := List.mem_map.mp hx
    exact sm_ints (h.r i hi)) (by rw [List.length_map]; have := h.n; omega))
  exact SmA.tup (SmA.cons' ((sm_ints h.b).mono (Nat.le_refl _) (by decide)) (SmA.cons' (m := 0) (n := 272) h2 SmA.nil' (Nat.le_refl _)) (by decide))
theorem sm_set {m : Nat} {ls : List Ln} (hm : m ≤ 10) (h : ∀ l ∈ ls, SmL l) (few : ls.length ≤ 400) : Sm 130000 5 (setD m ls) := by
  have h2 : Sm 120400 4 (linesD ls) := SmA.tup (SmA.mono (SmA.of_all (n := 300) fun x hx => by
    obtain ⟨i, hi, rfl⟩ := List.mem_map.mp hx
    exact sm_ln (h i hi)) (by rw [List.length_map]; omega))
  exact SmA.tup (SmA.cons' (n := 0) (Sm.int' (by show (m : Int).natAbs < _; rw [Int.natAbs_natCast]; omega)) (SmA.cons' (m := 0) h2 SmA.nil' (Nat.le_refl _)) (by decide))
theorem small_nat {n : Nat} (h : n ≤ 1000) : ((n : Nat) : Int).natAbs < 10 ^ 60 := by
  rw [Int.natAbs_natCast]
  exact Nat.lt_of_le_of_lt h (by decide)
theorem Clean.has : ∀ {ls fs : List Ln}, Clean ls fs → ∀ f ∈ fs, ∃ l ∈ ls, f.1 = l.1 ∧ Unl l.2 f.2
  | _, _, .nil, f, h => by cases h
  | _, _, .cons u c, f, h => by
    rcases List.mem_cons.mp h with rfl | h
    · exact ⟨_, List.mem_cons_self, rfl, u⟩
    · obtain ⟨l, h1, h2⟩ := c.has f h
      exact ⟨l, List.mem_cons_of_mem _ h1, h2⟩
theorem Unl.le {rows out : List Sq.Row} (u : Unl rows out) : out.length ≤ rows.length :=
  Nat.le_trans (Canon.le (Canon.of_asc (xs := rows.filter nzR) u.asc fun r => by rw [u.mem, List.mem_filter])) (List.length_filter_le _ _)
theorem getD_lm {α : Type} {f : α → PyData} {xs : List α} {i : Nat} (h : i < xs.length) : (xs.map f).getD i .none = f xs[i] := by
  rw [List.getD_eq_getElem?_getD, List.getElem?_map, List.getElem?_eq_getElem h]
  rfl
theorem asc_ok {ps : List Sq.Row} (a : Asc intsD ps) : ascD (ps.map intsD) = true := by
  unfold ascD
  rw [List.all_eq_true]
  intro i hi
  have hi := List.mem_range.mp hi
  rw [List.length_map] at hi
  unfold ltAt
  rw [getD_lm (by omega), getD_lm (by omega)]
  exact List.pairwise_iff_getElem.mp a i (i + 1) (by omega) (by omega) (by omega)
theorem setF_bad {m : Nat} {ls : List PyData} {i : Nat} (m1 : 1 ≤ m) (m4 : m ≤ 4) (few : ls.length ≤ 400) (hi : i < ls.length) (h : ∀ j, j < i → badAt m ls j = false) (hb : badAt m ls i = true) : setF (.tuple [.int (m : Nat), .tuple ls]) = .bad (i + 1) := by
  show (if isBt (.int (m : Nat)) 1 4 then _ else _) = _
  have : isBt (.int (m : Nat)) 1 4 = true := by
    show (decide _ && decide _) = true
    rw [decide_eq_true (by omega), decide_eq_true (by omega)]
    rfl
  rw [if_pos this, if_neg (by omega)]
  show (match (List.range ls.length).find? (badAt m ls) with
    | some i => SF.bad (i + 1)
    | none => .ok) = _
  rw [find_first hi h hb]
theorem setF_ok {m : Nat} {ls : List PyData} (m1 : 1 ≤ m) (m4 : m ≤ 4) (few : ls.length ≤ 400) (h : ∀ j, j < ls.length → badAt m ls j = false) : setF (.tuple [.int (m : Nat), .tuple ls]) = .ok := by
  show (if isBt (.int (m : Nat)) 1 4 then _ else _) = _
  have : isBt (.int (m : Nat)) 1 4 = true := by
    show (decide _ && decide _) = true
    rw [decide_eq_true (by omega), decide_eq_true (by omega)]
    rfl
  rw [if_pos this, if_neg (by omega)]
  show (match (List.range ls.length).find? (badAt m ls) with
    | some i => SF.bad (i + 1)
    | none => .ok) = _
  rw [badL_none h]
theorem setF_great {m : Nat} {ls : List PyData} (m1 : 1 ≤ m) (m4 : m ≤ 4) (few : 400 < ls.length) : setF (.tuple [.int (m : Nat), .tuple ls]) = .great := by
  show (if isBt (.int (m : Nat)) 1 4 then _ else _) = _
  have : isBt (.int (m : Nat)) 1 4 = true := by
    show (decide _ && decide _) = true
    rw [decide_eq_true (by omega), decide_eq_true (by omega)]
    rfl
  rw [if_pos this, if_pos few]
theorem badAt_congr {m : Int} {ls ms : List PyData} {j : Nat} (h1 : ls.getD j .none = ms.getD j .none) (h2 : 0 < j → ls.getD (j - 1) .none = ms.getD (j - 1) .none) : badAt m ls j = badAt m ms j := by
  unfold badAt
  rw [h1]
  cases j with
  | zero => rfl
  | succ j => rw [h2 (by omega)]
theorem getD_take {ls : List PyData} {k j : Nat} {rest : List PyData} (h : j < k) (h2 : k ≤ ls.length) : (ls.take k ++ rest).getD j .none = ls.getD j .none := by
  rw [List.getD_eq_getElem?_getD, List.getD_eq_getElem?_getD, List.getElem?_append_left (by rw [List.length_take]; omega), List.getElem?_take, if_pos h]
theorem getD_at {ls : List PyData} {k : Nat} {d : PyData} {rest : List PyData} (h2 : k ≤ ls.length) : (ls.take k ++ (d :: rest)).getD k .none = d := by
  rw [List.getD_eq_getElem?_getD, List.getElem?_append_right (by rw [List.length_take]; omega), List.length_take, Nat.min_eq_left h2, Nat.sub_self]
  rfl
theorem line_zero {m : Int} {b d : PyData} {ps : List PyData} (hd : d ∈ ps) (hz : nzD d = false) : isLineD m (.tuple [b, .tuple ps]) = false := by
  show (isEntryD m b && (decide (ps.length ≤ 12) && ps.all (fun p => isEntryD m p && nzD p)) && ascD ps) = false
  rw [List.all_eq_false.mpr ⟨d, hd, by rw [hz, Bool.and_false]; exact Bool.false_ne_true⟩]
  simp
theorem line_down {m : Int} {b : PyData} {ps : List PyData} {i : Nat} (hi : i + 1 < ps.length) (h : PySem.W.dataLt (ps.getD i .none) (ps.getD (i + 1) .none) = false) : isLineD m (.tuple [b, .tuple ps]) = false := by
  show (isEntryD m b && (decide (ps.length ≤ 12) && ps.all (fun p => isEntryD m p && nzD p)) && ascD ps) = false
  have : ascD ps = false := List.all_eq_false.mpr ⟨i, List.mem_range.mpr (by omega), by unfold ltAt; rw [h]; exact Bool.false_ne_true⟩
  rw [this, Bool.and_false]
theorem row_hd {x y : Int} {r s : Sq.Row} (h : x < y) : PySem.W.dataLt (intsD (x :: r)) (intsD (y :: s)) = true := by
  show PySem.W.dataLt (.tuple (.int x :: r.map PyData.int)) (.tuple (.int y :: s.map PyData.int)) = true
  rw [PySem.W.dataLt_tuple, PySem.W.dataLt_all_no rfl (by show (x == y) = false; rw [beq_eq_false_iff_ne]; omega), PySem.W.dataLt_int, decide_eq_true h]
theorem ln_hd {a b : Sq.Row} {r s : List Sq.Row} (h : PySem.W.dataLt (intsD a) (intsD b) = true) : PySem.W.dataLt (lineD (a, r)) (lineD (b, s)) = true := by
  show PySem.W.dataLt (.tuple [intsD a, rowsD r]) (.tuple [intsD b, rowsD s]) = true
  rw [PySem.W.dataLt_tuple, PySem.W.dataLt_all_no (alike_intsD a b) ?_, h]
  rw [eqv_ints, decide_eq_false]
  rintro rfl
  rw [lt_irr] at h
  cases h
structure OkLn (m : Nat) (l : Ln) : Prop where
  bl : l.1.length = m
  bb : ∀ x ∈ l.1, 0 ≤ x ∧ x ≤ 10 ^ 9
  pl : ∀ r ∈ l.2, r.length = m ∧ ∀ x ∈ r, 0 ≤ x ∧ x ≤ 10 ^ 9
  few : l.2.length ≤ 16
theorem OkLn.sm {m : Nat} {l : Ln} (h : OkLn m l) (hm : m ≤ 4) : SmL l := by
  have s9 : ∀ x : Int, 0 ≤ x ∧ x ≤ 10 ^ 9 → x.natAbs < 10 ^ 60 := fun x h => Nat.lt_of_le_of_lt (show x.natAbs ≤ 10 ^ 9 by omega) (by decide)
  exact ⟨⟨by rw [h.bl]; omega, fun x hx => s9 x (h.bb x hx)⟩, fun r hr => ⟨by rw [(h.pl r hr).1]; omega, fun y hy => s9 y ((h.pl r hr).2 y hy)⟩, h.few⟩
theorem OkLn.line {m : Nat} {l : Ln} (r : OkLn m l) (few : l.2.length ≤ 12) (a : Asc intsD l.2) (z : ∀ x ∈ l.2, nzR x = true) : isLineD m (lineD l) = true := by
  show (isEntryD m (intsD l.1) && (decide ((l.2.map intsD).length ≤ 12) && (l.2.map intsD).all (fun p => isEntryD m p && nzD p)) && ascD (l.2.map intsD)) = true
  rw [entry_of r.bl r.bb, asc_ok a, List.length_map, decide_eq_true few]
  rw [Bool.true_and, Bool.true_and, Bool.and_true, List.all_eq_true]
  intro d hd
  obtain ⟨x, hx, rfl⟩ := List.mem_map.mp hd
  rw [entry_of (r.pl x hx).1 (r.pl x hx).2, nz_ints]
  exact z x hx
/-- a set of lines that are -/
theorem set_is {m : Nat} {ls : List Ln} (m1 : 1 ≤ m) (m4 : m ≤ 4) (h : ∀ l ∈ ls, isLineD m (lineD l) = true) (a : Asc lineD ls) (few : ls.length ≤ 400) : setF (setD m ls) = .ok := by
  refine setF_ok m1 m4 (by rw [List.length_map]; exact few) fun j hj => ?_
  rw [List.length_map] at hj
  unfold badAt
  rw [getD_lm hj, h _ (List.getElem_mem hj)]
  cases j with
  | zero => rfl
  | succ j =>
    rw [Nat.add_sub_cancel, getD_lm (by omega), List.pairwise_iff_getElem.mp a j (j + 1) (by omega) (by omega) (by omega)]
    simp
theorem unl_self {rows : List Sq.Row} (a : Asc intsD rows) (z : ∀ r ∈ rows, nzR r = true) : Unl rows rows := ⟨a, fun r => ⟨fun h => ⟨h, z r h⟩, fun h => h.1⟩⟩
theorem clean_self : ∀ {ls : List Ln}, (∀ l ∈ ls, Unl l.2 l.2) → Clean ls ls
  | [], _ => .nil
  | _ :: _, h => .cons (h _ List.mem_cons_self) (clean_self fun l hl => h l (List.mem_cons_of_mem _ hl))
theorem unl_nil : Unl [] [] := ⟨List.Pairwise.nil, fun r => by simp⟩
/-! lines without periods -/
def bareLns (t : List Int) (n : Nat) : List Ln := (List.range n).map fun (k : Nat) => ((k : Int) :: t, [])
theorem bareLns_len (t : List Int) (n : Nat) : (bareLns t n).length = n := by unfold bareLns; rw [List.length_map, List.length_range]
theorem bareLns_ok {t : List Int} {n m : Nat} (ht : ∀ x ∈ t, 0 ≤ x ∧ x ≤ 10 ^ 9) (hm : t.length + 1 = m) (hn : n ≤ 1000) : ∀ l ∈ bareLns t n, OkLn m l ∧ l.2 = [] := fun l hl => by
  obtain ⟨k, hk, rfl⟩ := List.mem_map.mp hl
  have := List.mem_range.mp hk
  refine ⟨⟨hm, fun x hx => ?_, fun r hr => absurd hr List.not_mem_nil, Nat.zero_le _⟩, rfl⟩
  rcases List.mem_cons.mp hx with rfl | hx
  · omega
  · exact ht x hx
theorem bareLns_asc (t : List Int) (n : Nat) : Asc lineD (bareLns t n) := by
  unfold Asc bareLns
  rw [List.pairwise_map]
  exact List.pairwise_lt_range.imp fun {a b} h => ln_hd (row_hd (Int.ofNat_lt.mpr h))
theorem bareLns_clean (t : List Int) (n : Nat) : ∀ l ∈ bareLns t n, Unl l.2 l.2 := fun l hl => by
  obtain ⟨k, hk, rfl⟩ := List.mem_map.mp hl
  exact unl_nil
end Ws
/-! ## T25 -/
/-! data that is a set, typed; what union, sum_of and star tell -/
namespace Ws
open PySem PySem.Spec PyProof.Rows L2
structure SetOk (m : Nat) (ls : List Ln) : Prop where
  m1 : 1 ≤ m
  m4 : m ≤ 4
  few : ls.length ≤ 400
  ln : ∀ l ∈ ls, OkLn m l
  p12 : ∀ l ∈ ls, l.2.length ≤ 12
theorem rows_typed {m : Nat} : ∀ {ps : List PyData}, (∀ p ∈ ps, isEntryD m p = true) → ∃ rows : List Sq.Row, ps = rows.map intsD ∧ ∀ r ∈ rows, r.length = m ∧ ∀ x ∈ r, 0 ≤ x ∧ x ≤ 10 ^ 9
  | [], _ => ⟨[], rfl, fun r hr => absurd hr List.not_mem_nil⟩
  | p :: ps, h => by
    obtain ⟨rows, rfl, h2⟩ := rows_typed (ps := ps) fun x hx => h x (List.mem_cons_of_mem _ hx)
    obtain ⟨xs, rfl, h3, h4⟩ := entry_ints (h p List.mem_cons_self)
    refine ⟨xs :: rows, rfl, fun r hr => ?_⟩
    rcases List.mem_cons.mp hr with rfl | hr
    · exact ⟨by omega, h4⟩
    · exact h2 r hr
theorem line_typed {m : Nat} {d : PyData} (h : isLineD m d = true) : ∃ l : Ln, d = lineD l ∧ OkLn m l ∧ l.2.length ≤ 12 := by
  unfold isLineD at h
  split at h
  · rename_i b ps
    simp only [Bool.and_eq_true, List.all_eq_true, decide_eq_true_eq] at h
    obtain ⟨xs, rfl, h3, h4⟩ := entry_ints h.1.1
    obtain ⟨rows, rfl, h5⟩ := rows_typed fun p hp => (h.1.2.2 p hp).1
    have few := h.1.2.1
    rw [List.length_map] at few
    exact ⟨(xs, rows), rfl, ⟨by show xs.length = m; omega, h4, h5, by show rows.length ≤ 16; omega⟩, few⟩
  · cases h
theorem lines_typed {m : Nat} : ∀ {ds : List PyData}, (∀ d ∈ ds, isLineD m d = true) → ∃ ls : List Ln, ds = ls.map lineD ∧ ∀ l ∈ ls, OkLn m l ∧ l.2.length ≤ 12
  | [], _ => ⟨[], rfl, fun r hr => absurd hr List.not_mem_nil⟩
  | p :: ps, h => by
    obtain ⟨ls, rfl, h2⟩ := lines_typed (ds := ps) fun x hx => h x (List.mem_cons_of_mem _ hx)
    obtain ⟨l, rfl, h3⟩ := line_typed (h p List.mem_cons_self)
    refine ⟨l :: ls, rfl, fun r hr => ?_⟩
    rcases List.mem_cons.mp hr with rfl | hr
    · exact h3
    · exact h2 r hr
theorem set_typed {d : PyData} (h : setF d = .ok) : ∃ m ls, d = setD m ls ∧ SetOk m ls := by
  unfold setF at h
  split at h
  · rename_i md ds
    split at h
    · rename_i hb
      split at h
      · cases h
      · rename_i few
        split at h
        · cases h
        · rename_i hn
          cases md with
          | int i =>
            have hi : 1 ≤ i ∧ i ≤ 4 := by simpa [isBt] using hb
            obtain ⟨m, rfl⟩ : ∃ m : Nat, i = m := ⟨i.toNat, by omega⟩
            have all : ∀ d ∈ ds, isLineD m d = true := fun d hd => by
              obtain ⟨j, hj, rfl⟩ := List.getElem_of_mem hd
              have := List.find?_eq_none.mp hn j (List.mem_range.mpr hj)
              have e : badAt m ds j = false := by simpa [iOf] using this
              unfold badAt at e
              rw [Bool.or_eq_false_iff] at e
              have := e.1
              rw [List.getD_eq_getElem?_getD, List.getElem?_eq_getElem hj] at this
              simpa using this
            obtain ⟨ls, rfl, h2⟩ := lines_typed all
            rw [List.length_map] at few
            exact ⟨m, ls, rfl, by omega, by omega, by omega, fun l hl => (h2 l hl).1, fun l hl => (h2 l hl).2⟩
          | _ => cases hb
    · cases h
  · cases h
def manyOf (d : PyData) : Nat := (iOf ((itm d).getD 0 .none)).toNat
def linesOf (d : PyData) : List Ln := (itm ((itm d).getD 1 .none)).map lnOf
theorem manyOf_set (m : Nat) (ls : List Ln) : manyOf (setD m ls) = m := by
  show ((m : Int)).toNat = m
  omega
theorem linesOf_set (m : Nat) (ls : List Ln) : linesOf (setD m ls) = ls := by
  show (ls.map lineD).map lnOf = ls
  rw [List.map_map]
  conv => rhs; rw [← List.map_id ls]
  exact List.map_congr_left fun x _ => lnOf_ln x
inductive Rf
  | ok (m : Nat) (out : List Ln)
  | bad (n : Nat)
  | unlike (d : PyData)
  | great (n : Nat)
def ofSW (m : Nat) : SW → Rf
  | .ok out => .ok m out
  | .great n => .great n
def oneF (d : PyData) (k : Rf) : Rf := match setF d with
  | .ok => k
  | .bad n => .bad n
  | .great => .great 400
def twoF (d1 d2 : PyData) (k : Rf) : Rf := oneF d1 (oneF d2 (if manyOf d1 = manyOf d2 then k else .unlike d2))
def unionF (d1 d2 : PyData) : Rf := twoF d1 d2 (ofSW (manyOf d1) (unionW (linesOf d1) (linesOf d2)))
def sumF (d1 d2 : PyData) : Rf := twoF d1 d2 (ofSW (manyOf d1) (sumW (linesOf d1) (linesOf d2)))
def starF (d : PyData) : Rf := oneF d (ofSW (manyOf d) (starW (manyOf d) (linesOf d)))
def OutR (K : PySem.W.Frag) (BS TG BU : Addr) (r : Rf) (H : Hp) (Q : VK) (E : XK) : Prop := match r with
  | .ok m out => ∀ H' u, Same H H' → Dp K H' u (setD m out) → Q u H'
  | .bad n => OutF K BS "place" (.int (n : Nat)) H E
  | .unlike d => OutF K BU "value" d H E
  | .great n => OutF K TG "most" (.int (n : Nat)) H E
end Ws
/-! ## P25b -/
namespace Ws
open PySem PySem.Spec PyProof.Rows L2 RZ SD
local macro_rules | `(tactic| walk_at "nf") => `(tactic| dsimp only [tNext, tSeq, tDrop, tRet, tRetN, tIfS, tAsg, gName, gTup, gCons, gNil, tVar, tC, tOp, tUn, rI, rI0, rU, rEq, rNe, tTest, tChain, tAnd, tOr, tNot, tAndV, tOrV, tNotV, tIf, tCB, tCKw, tCons, tNil, tTup, tLst, tCa, tCallS, tB, rIxT, rIxL, rIxS, cxOf, Cx.nox, Cx.wish, Cx.blk, L2.start, tPar, tPar3, tNever, tYes, tBits, tRz, tBM, rAppend, tyV, tXf, suiteEnds, gSub, rSetL, tBreak, rMax, tDGet, sDPut, tSl, tNoPart, tPart, tDisp, tPairs, tDGet2, tDNewK, tAugS, ipI, rGetL, tDIn, tDNotIn, tBM0, rPop])
local macro_rules | `(tactic| walk_at "sx") => `(tactic| simp only [wipe, List.cons.injEq, and_assoc, exists_and_left, and_true, List.map_cons, List.map_nil, List.length_cons, List.length_nil, List.cons_append, List.nil_append, List.append_nil, Nat.reduceAdd, Nat.reduceSub, List.replicate, List.getElem?_cons_zero, List.getElem?_cons_succ, List.set_cons_zero, List.set_cons_succ, Option.some.injEq, V.int.injEq, V.bl.injEq, V.ref.injEq, V.str.injEq, exists_eq_left', exists_eq_left, true_and, Bool.true_eq_false, Bool.false_eq_true, if_true, if_false])

structure CsS (mg : Str → Option Value) : Prop where
  MOST_STARRED : ∃ t, mg "MOST_STARRED" = some (.int 8 t)
/-- what need_two_sets tells: k where both are sets alike -/
def OutT (K : PySem.W.Frag) (BS TG BU : Addr) (d1 d2 : PyData) (H : Hp) (E : XK) (k : Prop) : Prop :=
  (∀ n, setF d1 = .bad n → OutF K BS "place" (.int (n : Nat)) H E) ∧ (setF d1 = .great → OutF K TG "most" (.int 400) H E) ∧
  (setF d1 = .ok → (∀ n, setF d2 = .bad n → OutF K BS "place" (.int (n : Nat)) H E) ∧ (setF d2 = .great → OutF K TG "most" (.int 400) H E) ∧
    (setF d2 = .ok → (manyOf d1 ≠ manyOf d2 → OutF K BU "value" d2 H E) ∧ (manyOf d1 = manyOf d2 → k)))
def spNeedTwo (K : PySem.W.Frag) (BS TG BU : Addr) : Sp := fun vs H Q E => ∃ (v1 v2 : V) (d1 d2 : PyData), vs = [v1, v2] ∧ Dp K H v1 d1 ∧ Dp K H v2 d2 ∧ OutT K BS TG BU d1 d2 H E (∀ H', Same H H' → Q .non H')
theorem outT_of {K : PySem.W.Frag} {BS TG BU : Addr} {d1 d2 : PyData} {k : Rf} {H : Hp} {Q : VK} {E : XK} (h : OutR K BS TG BU (twoF d1 d2 k) H Q E) {kk : Prop} (hk : OutR K BS TG BU k H Q E → kk) : OutT K BS TG BU d1 d2 H E kk := by
  unfold twoF oneF at h
  refine ⟨fun n e => ?_, fun e => ?_, fun e => ⟨fun n e2 => ?_, fun e2 => ?_, fun e2 => ⟨fun c => ?_, fun c => hk ?_⟩⟩⟩
  · rw [e] at h; exact h
  · rw [e] at h; exact h
  · rw [e, e2] at h; exact h
  · rw [e, e2] at h; exact h
  · rw [e, e2, if_neg c] at h; exact h
  · rw [e, e2, if_pos c] at h; exact h
theorem set_view {K : PySem.W.Frag} {H : Hp} {v : V} {m : Nat} {ls : List Ln} (h : Dp K H v (setD m ls)) : ∃ p u, v = .ref p ∧ SqT K H p [.int (m : Nat), u] ∧ Dp K H u (linesD ls) := by
  obtain ⟨p, ps, rfl, hp, hpa⟩ := h.tup_inv
  obtain ⟨mv, u, rfl, hm, hu⟩ := hpa.two
  have hmv : mv = .int (m : Nat) := by cases hm; rfl
  subst hmv
  exact ⟨p, u, rfl, hp, hu⟩
abbrev s_need_two_sets : Stmt := top 19
abbrev nm_need_two_sets : List Str := ["one", "other"]
abbrev pr_need_two_sets : List Str := ["one", "other"]
theorem sc_need_two_sets : FnScope nm_need_two_sets pr_need_two_sets (defScope s_need_two_sets) := ⟨rfl, rfl, rfl, by decide +kernel, rfl, by decide +kernel, by decide +kernel⟩
def spUnion (K : PySem.W.Frag) (BS TG BU : Addr) : Sp := fun vs H Q E => ∃ (v1 v2 : V) (d1 d2 : PyData), vs = [v1, v2] ∧ Dp K H v1 d1 ∧ Dp K H v2 d2 ∧ OutR K BS TG BU (unionF d1 d2) H Q E
abbrev s_union : Stmt := top 24
abbrev nm_union : List Str := ["one", "other"]
abbrev pr_union : List Str := ["one", "other"]
theorem sc_union : FnScope nm_union pr_union (defScope s_union) := ⟨rfl, rfl, rfl, by decide +kernel, rfl, by decide +kernel, by decide +kernel⟩
theorem outR_to {K : PySem.W.Frag} {BS TG BU : Addr} {r : Rf} {H H1 : Hp} {Q : VK} {E : XK} (h : OutR K BS TG BU r H Q E) (e : Same H H1) : OutR K BS TG BU r H1 Q E := by
  cases r with
  | ok m out => exact fun H' u e2 hu => h H' u (e.trans e2) hu
  | bad n => exact OutF.to h e
  | unlike d => exact OutF.to h e
  | great n => exact OutF.to h e
theorem setW_out {K : PySem.W.Frag} {BS TG BU : Addr} {m : Nat} {ls : List Ln} {H : Hp} {Q : VK} {E : XK} (h : OutR K BS TG BU (ofSW m (setW ls)) H Q E) :
    ∀ fs, Clean ls fs → ((∃ f ∈ fs, 12 < f.2.length) → OutF K TG "most" (.int 12) H E) ∧ ((∀ f ∈ fs, f.2.length ≤ 12) → ∀ out, Canon lineD fs out → (400 < out.length → OutF K TG "most" (.int 400) H E) ∧ (out.length ≤ 400 → ∀ H' u, Same H H' → Dp K H' u (setD m out) → Q u H')) :=
  setW_use (A := fun out => ∀ H' u, Same H H' → Dp K H' u (setD m out) → Q u H') (G := fun n => OutF K TG "most" (.int n) H E) (fun out e => by rw [e] at h; exact h) (fun n e => by rw [e] at h; exact h)
theorem SetOk.side {m : Nat} {ls : List Ln} (o : SetOk m ls) : ∀ l ∈ ls, (∀ r ∈ l.2, r ≠ []) ∧ l.2.length ≤ 1000 := fun l hl => ⟨fun r hr e => by
  have := ((o.ln l hl).pl r hr).1
  have := o.m1
  rw [e] at *
  simp at *
  omega, by have := o.p12 l hl; omega⟩
section
variable {P : Program} {w : World} {K : PySem.W.Frag} {mg : Str → Option Value} {base : Heap} {BS TG BU : Addr}
theorem ok_need_two (B : Bl mg) (T : ErS P w K mg base BS TG BU) (F1 : Df P w K mg base (L2.CX P w) 6 "need_set" pr_need_set (spNeedSet K BS TG)) (D : Dt K mg "need_two_sets" s_need_two_sets pr_need_two_sets) : Df P w K mg base (L2.CX P w) 7 "need_two_sets" pr_need_two_sets (spNeedTwo K BS TG BU) := by
  refine D.okX sc_need_two_sets (fun vs H Q E h => ?_) (fun f cdv A outer s H vs Q E hr h => ?_)
  · obtain ⟨v1, v2, d1, d2, rfl, _⟩ := h
    rfl
  · obtain ⟨v1, v2, d1, d2, rfl, hd1, hd2, k1, k2, k3⟩ := h
    refine ⟨_, (pss_cons (ps_expr (pe_f (E := E) F1 (hr.mono (by decide)) (passes_call (takes_of rfl rfl rfl rfl) fun _ _ _ _ h => h) (pa_cons (pv 0) pa_nil))) (pss_cons (ps_expr (pe_f (E := E) F1 (hr.mono (by decide)) (passes_call (takes_of rfl rfl rfl rfl) fun _ _ _ _ h => h) (pa_cons (pv 1) pa_nil))) (pss_one (ps_if (pt_cmpR op_ne (pe_ix ix_tup (pv 0) pe_int (fun _ _ => rfl)) (pe_ix ix_tup (pv 1) pe_int (fun _ _ => rfl)) (nomark _)) (pss_one (ps_rz rfl T.Unlike (hr.mono (by decide)) (takes_of rfl rfl rfl rfl) (by rfl) (pv 1))) pss_nil)))), ?_⟩
    dsimp only [cxOf, L2.start]
    refine sq_dr ⟨_, rfl, v1, d1, rfl, hd1, fun o1 H1 e1 => ?_, k1, k2⟩
    obtain ⟨k4, k5, k6⟩ := k3 o1
    refine sq_dr ⟨_, rfl, v2, d2, rfl, hd2.to e1, fun o2 H2 e2 => ?_, fun n e => (k4 n e).to e1, fun e => (k5 e).to e1⟩
    obtain ⟨k7, k8⟩ := k6 o2
    obtain ⟨m, a, rfl, ha⟩ := set_typed o1
    obtain ⟨m', b, rfl, hb⟩ := set_typed o2
    rw [manyOf_set, manyOf_set] at k7 k8
    obtain ⟨p1, u1, rfl, hp1, hu1⟩ := set_view ((hd1.to e1).to e2)
    obtain ⟨p2, u2, rfl, hp2, hu2⟩ := set_view ((hd2.to e1).to e2)
    refine if_if ⟨_, rfl, p1, _, 0, _, rfl, rfl, hp1, rfl, _, rfl, p2, _, 0, _, rfl, rfl, hp2, rfl, rfl, _, rfl, ?_⟩
    have ed : decide (V.int (m : Int) = V.int (m' : Int)) = decide (m = m') := by
      rw [decide_eq_decide]
      constructor
      · intro h; have := V.int.inj h; omega
      · rintro rfl; rfl
    rw [ed]
    by_cases c : m = m'
    · rw [decide_eq_true c]
      exact iteF (k8 c _ (e1.trans e2))
    · rw [decide_eq_false c]
      exact iteT ⟨_, rfl, rz_f (σ := []) (k7 c) (e1.trans e2) ((hd2.to e1).to e2)⟩
theorem ok_union (B : Bl mg) (F1 : Df P w K mg base (L2.CX P w) 7 "need_two_sets" pr_need_two_sets (spNeedTwo K BS TG BU)) (F2 : Df P w K mg base (L2.CX P w) 4 "set_with" pr_set_with (spSetWith K TG)) (D : Dt K mg "union" s_union pr_union) : Df P w K mg base (L2.CX P w) 8 "union" pr_union (spUnion K BS TG BU) := by
  refine D.okX sc_union (fun vs H Q E h => ?_) (fun f cdv A outer s H vs Q E hr h => ?_)
  · obtain ⟨v1, v2, d1, d2, rfl, _⟩ := h
    rfl
  · obtain ⟨v1, v2, d1, d2, rfl, hd1, hd2, k⟩ := h
    obtain ⟨k1, k2, k3⟩ := outT_of k id
    refine ⟨_, (pss_cons (ps_expr (pe_f (E := E) F1 (hr.mono (by decide)) (passes_call (takes_of rfl rfl rfl rfl) fun _ _ _ _ h => h) (pa_cons (pv 0) (pa_cons (pv 1) pa_nil)))) (pss_one (ps_ret (pe_f (E := E) F2 (hr.mono (by decide)) (passes_call (takes_of rfl rfl rfl rfl) fun _ _ _ _ h => h) (pa_cons (pe_ix ix_tup (pv 0) pe_int (fun _ _ => rfl)) (pa_cons (pe_op (show OpR _ _ (rCatZ K) from op_catZ) (pe_ix ix_tup (pv 0) pe_int (fun _ _ => rfl)) (pe_ix ix_tup (pv 1) pe_int (fun _ _ => rfl))) pa_nil)))))), ?_⟩
    dsimp only [cxOf, L2.start]
    refine sq_dr ⟨_, rfl, _, rfl, v1, v2, d1, d2, rfl, hd1, hd2, k1, k2, fun o1 => ?_⟩
    obtain ⟨k4, k5, k6⟩ := k3 o1
    refine ⟨k4, k5, fun o2 => ?_⟩
    obtain ⟨k7, k8⟩ := k6 o2
    refine ⟨k7, fun c H1 e1 => ?_⟩
    have k9 := outR_to (k8 c) e1
    obtain ⟨m, a, rfl, ha⟩ := set_typed o1
    obtain ⟨m', b, rfl, hb⟩ := set_typed o2
    rw [manyOf_set, manyOf_set] at c
    subst c
    rw [manyOf_set, linesOf_set, linesOf_set] at k9
    obtain ⟨p1, u1, rfl, hp1, hu1⟩ := set_view (hd1.to e1)
    obtain ⟨p2, u2, rfl, hp2, hu2⟩ := set_view (hd2.to e1)
    obtain ⟨q1, z1, rfl, hq1, hz1⟩ := hu1.tup_inv
    obtain ⟨q2, z2, rfl, hq2, hz2⟩ := hu2.tup_inv
    have l1 := hz1.length
    have l2 := hz2.length
    rw [List.length_map] at l1 l2
    have f1 := ha.few
    have f2 := hb.few
    refine ⟨_, rfl, p1, _, 0, _, rfl, rfl, hp1, rfl, _, rfl, p1, _, 1, _, rfl, rfl, hp1, rfl, _, rfl, p2, _, 1, _, rfl, rfl, hp2, rfl, q1, q2, _, _, rfl, rfl, hq1, hq2, by omega, fun H2 r e2 hr2 => ?_⟩
    refine ⟨m, .ref r, a ++ b, rfl, ?_, fun l hl => ?_, by rw [List.length_append]; omega, setW_out (BS := BS) (BU := BU) (outR_to k9 e2)⟩
    · show Dp K H2 (.ref r) (.tuple ((a ++ b).map lineD))
      rw [List.map_append]
      exact .tup hr2 ((hz1.append hz2).to e2)
    · rcases List.mem_append.mp hl with h | h
      · exact ha.side l h
      · exact hb.side l h
end
end Ws
/-! ## Y27 -/
/-! min(t), max(t) of a tuple of ints -/
namespace Ws
open PySem PySem.Spec PyProof.Rows L2 RZ
def rMaxTI (K : PySem.W.Frag) : List V → Hp → VK → Prop := fun vs H Q => ∃ (a : Addr) (ns : List Int), vs = [V.ref a] ∧ SqT K H a (ns.map V.int) ∧ 0 < ns.length ∧ ∀ m, m ∈ ns → (∀ y, y ∈ ns → y ≤ m) → Q (.int m) H
def rMinTI (K : PySem.W.Frag) : List V → Hp → VK → Prop := fun vs H Q => ∃ (a : Addr) (ns : List Int), vs = [V.ref a] ∧ SqT K H a (ns.map V.int) ∧ 0 < ns.length ∧ ∀ m, m ∈ ns → (∀ y, y ∈ ns → m ≤ y) → Q (.int m) H
theorem minD_ints (a : Int) (as : List Int) : ∃ m, PySem.W.minD (PyData.int a) (as.map PyData.int) = .int m ∧ m ∈ a :: as ∧ ∀ y ∈ a :: as, m ≤ y := by
  unfold PySem.W.minD
  induction as generalizing a with
  | nil => exact ⟨a, rfl, by simp, by simp⟩
  | cons y as ih =>
    simp only [List.map_cons, List.foldl_cons]
    rw [PySem.W.dataLt_int]
    by_cases c : y < a
    · rw [if_pos (by simpa using c)]
      obtain ⟨m, h1, h2, h3⟩ := ih y
      refine ⟨m, h1, ?_, fun z hz => ?_⟩
      · rcases List.mem_cons.mp h2 with e | e
        · rw [e]; simp
        · exact List.mem_cons_of_mem _ (List.mem_cons_of_mem _ e)
      · have hy := h3 y (by simp)
        rcases List.mem_cons.mp hz with rfl | hz
        · omega
        · exact h3 z hz
    · rw [if_neg (by simpa using c)]
      obtain ⟨m, h1, h2, h3⟩ := ih a
      refine ⟨m, h1, ?_, fun z hz => ?_⟩
      · rcases List.mem_cons.mp h2 with e | e
        · rw [e]; simp
        · exact List.mem_cons_of_mem _ (List.mem_cons_of_mem _ e)
      · have ha := h3 a (by simp)
        rcases List.mem_cons.mp hz with rfl | hz
        · exact ha
        · rcases List.mem_cons.mp hz with rfl | hz
          · omega
          · exact h3 z (List.mem_cons_of_mem _ hz)
theorem maxD_ints (a : Int) (as : List Int) : ∃ m, PySem.W.maxD (PyData.int a) (as.map PyData.int) = .int m ∧ m ∈ a :: as ∧ ∀ y ∈ a :: as, y ≤ m := by
  unfold PySem.W.maxD
  induction as generalizing a with
  | nil => exact ⟨a, rfl, by simp, by simp⟩
  | cons y as ih =>
    simp only [List.map_cons, List.foldl_cons]
    rw [PySem.W.dataLt_int]
    by_cases c : a < y
    · rw [if_pos (by simpa using c)]
      obtain ⟨m, h1, h2, h3⟩ := ih y
      refine ⟨m, h1, ?_, fun z hz => ?_⟩
      · rcases List.mem_cons.mp h2 with e | e
        · rw [e]; simp
        · exact List.mem_cons_of_mem _ (List.mem_cons_of_mem _ e)
      · have hy := h3 y (by simp)
        rcases List.mem_cons.mp hz with rfl | hz
        · omega
        · exact h3 z hz
    · rw [if_neg (by simpa using c)]
      obtain ⟨m, h1, h2, h3⟩ := ih a
      refine ⟨m, h1, ?_, fun z hz => ?_⟩
      · rcases List.mem_cons.mp h2 with e | e
        · rw [e]; simp
        · exact List.mem_cons_of_mem _ (List.mem_cons_of_mem _ e)
      · have ha := h3 a (by simp)
        rcases List.mem_cons.mp hz with rfl | hz
        · exact ha
        · rcases List.mem_cons.mp hz with rfl | hz
          · omega
          · exact h3 z (List.mem_cons_of_mem _ hz)
section
variable {X : Cx}
theorem cr_minT (hc : X.calm = true) (hu : X.A.units + 65 < cLine) : CallR X (.builtin "min") (rMinTI X.K) := by
  intro pins s σ H vs us Q I r h
  obtain ⟨p, ns, rfl, hs, hne, q⟩ := h
  obtain ⟨its, rel, pl, _⟩ := I.tuple hs
  rw [Vals.ref1 r]
  match ns, hne with
  | a :: as, _ =>
  obtain ⟨bs, hr⟩ := Dp.readsAll I ((a :: as).map PyData.int) _ its (DpAll.ints (a :: as)) rel
  refine PySem.W.min_tuple_data (x := .int a) (xs := as.map PyData.int) (I.ok.hd hc) pl (by simpa using hr) ⟨fun d hd e he => ?_, fun d hd z => ?_⟩ (by have := depth_ints (a :: as); simp only [List.map_cons] at this; omega) fun k v h2 tk cs hv hR up => ?_
  · have hd : d ∈ (a :: as).map PyData.int := hd
    have he : e ∈ (a :: as).map PyData.int := he
    obtain ⟨d, _, rfl⟩ := List.mem_map.mp hd
    obtain ⟨e, _, rfl⟩ := List.mem_map.mp he
    rfl
  · have hd : d ∈ (a :: as).map PyData.int := hd
    obtain ⟨d, _, rfl⟩ := List.mem_map.mp hd
    cases z
  · obtain ⟨m, h1, h3, h4⟩ := minD_ints a as
    rw [h1] at hR
    cases hR
    exact ⟨.int m, H, I.kept up, ⟨_, rfl⟩, q m h3 h4⟩
theorem cr_maxT (hc : X.calm = true) (hu : X.A.units + 65 < cLine) : CallR X (.builtin "max") (rMaxTI X.K) := by
  intro pins s σ H vs us Q I r h
  obtain ⟨p, ns, rfl, hs, hne, q⟩ := h
  obtain ⟨its, rel, pl, _⟩ := I.tuple hs
  rw [Vals.ref1 r]
  match ns, hne with
  | a :: as, _ =>
  obtain ⟨bs, hr⟩ := Dp.readsAll I ((a :: as).map PyData.int) _ its (DpAll.ints (a :: as)) rel
  refine PySem.W.max_tuple_data (x := .int a) (xs := as.map PyData.int) (I.ok.hd hc) pl (by simpa using hr) ⟨fun d hd e he => ?_, fun d hd z => ?_⟩ (by have := depth_ints (a :: as); simp only [List.map_cons] at this; omega) fun k v h2 tk cs hv hR up => ?_
  · have hd : d ∈ (a :: as).map PyData.int := hd
    have he : e ∈ (a :: as).map PyData.int := he
    obtain ⟨d, _, rfl⟩ := List.mem_map.mp hd
    obtain ⟨e, _, rfl⟩ := List.mem_map.mp he
    rfl
  · have hd : d ∈ (a :: as).map PyData.int := hd
    obtain ⟨d, _, rfl⟩ := List.mem_map.mp hd
    cases z
  · obtain ⟨m, h1, h3, h4⟩ := maxD_ints a as
    rw [h1] at hR
    cases hR
    exact ⟨.int m, H, I.kept up, ⟨_, rfl⟩, q m h3 h4⟩
end
end Ws
/-! ## P25c -/
namespace Ws
open PySem PySem.Spec PyProof.Rows L2 RZ SD
local macro_rules | `(tactic| walk_at "nf") => `(tactic| dsimp only [tNext, tSeq, tDrop, tRet, tRetN, tIfS, tAsg, gName, gTup, gCons, gNil, tVar, tC, tOp, tUn, rI, rI0, rU, rEq, rNe, tTest, tChain, tAnd, tOr, tNot, tAndV, tOrV, tNotV, tIf, tCB, tCKw, tCons, tNil, tTup, tLst, tCa, tCallS, tB, rIxT, rIxL, rIxS, cxOf, Cx.nox, Cx.wish, Cx.blk, L2.start, tPar, tPar3, tNever, tYes, tBits, tRz, tBM, rAppend, tyV, tXf, suiteEnds, gSub, rSetL, tBreak, rMax, tDGet, sDPut, tSl, tNoPart, tPart, tDisp, tPairs, tDGet2, tDNewK, tAugS, ipI, rGetL, tDIn, tDNotIn, tBM0, rPop])
local macro_rules | `(tactic| walk_at "sx") => `(tactic| simp only [wipe, List.cons.injEq, and_assoc, exists_and_left, and_true, List.map_cons, List.map_nil, List.length_cons, List.length_nil, List.cons_append, List.nil_append, List.append_nil, Nat.reduceAdd, Nat.reduceSub, List.replicate, List.getElem?_cons_zero, List.getElem?_cons_succ, List.set_cons_zero, List.set_cons_succ, Option.some.injEq, V.int.injEq, V.bl.injEq, V.ref.injEq, V.str.injEq, exists_eq_left', exists_eq_left, true_and, Bool.true_eq_false, Bool.false_eq_true, if_true, if_false])

def spNeedLine (K : PySem.W.Frag) (TG : Addr) : Sp := fun vs H Q E => ∃ (bv rv : V) (b : Sq.Row) (ps : List Sq.Row), vs = [bv, rv] ∧ Dp K H bv (intsD b) ∧ Dp K H rv (rowsD ps) ∧ b ≠ [] ∧ (∀ r ∈ ps, r ≠ []) ∧ ps.length ≤ 1000 ∧ (badLn (b, ps) = none → ∀ H' u, Same H H' → Dp K H' u (lineD (b, ps)) → Q u H') ∧ (∀ n, badLn (b, ps) = some n → OutF K TG "most" (.int (n : Nat)) H E)
def spAmong (K : PySem.W.Frag) : Sp := fun vs H Q _ => ∃ (n : Nat), vs = [.int (n : Nat)] ∧ n ≤ 8 ∧ ∀ H' p ys, Same H H' → H p = none → H' p = some (.lst ys) → DpAll K H' ys ((chc n).map intsD) → Q (.ref p) H'
abbrev s_need_line : Stmt := top 25
abbrev nm_need_line : List Str := ["base", "periods"]
abbrev pr_need_line : List Str := ["base", "periods"]
theorem sc_need_line : FnScope nm_need_line pr_need_line (defScope s_need_line) := ⟨rfl, rfl, rfl, by decide +kernel, rfl, by decide +kernel, by decide +kernel⟩
abbrev s_choices_among : Stmt := top 28
abbrev nm_choices_among : List Str := ["count", "found", "bits", "at"]
abbrev pr_choices_among : List Str := ["count"]
theorem sc_choices_among : FnScope nm_choices_among pr_choices_among (defScope s_choices_among) := ⟨rfl, rfl, rfl, by decide +kernel, rfl, by decide +kernel, by decide +kernel⟩
def subAt (n b : Nat) : List Int := ((List.range n).filter fun at_ => decide ((b + 1) / 2 ^ at_ % 2 = 1)).map fun (k : Nat) => (k : Int)
theorem sub_eq (n : Nat) : sub n = (List.range (2 ^ n - 1)).map (subAt n) := rfl
theorem sub_some : ∀ n, n ≤ 8 → ∀ b, b < 2 ^ n - 1 → ((List.range n).filter fun at_ => decide ((b + 1) / 2 ^ at_ % 2 = 1)) ≠ [] := by decide +kernel
theorem subAt_pos {n b : Nat} (hn : n ≤ 8) (hb : b < 2 ^ n - 1) : subAt n b ≠ [] := fun h => sub_some n hn b hb (List.map_eq_nil_iff.mp h)
theorem bit_eq (i a : Nat) : (1 + (i : Int)) / 2 ^ ((a : Int)).toNat = (((i + 1) / 2 ^ a : Nat) : Int) := by
  rw [Int.toNat_natCast, Int.natCast_ediv, Int.natCast_pow, Int.natCast_add]
  rw [Int.add_comm]
  rfl
section
variable {P : Program} {w : World} {K : PySem.W.Frag} {mg : Str → Option Value} {base : Heap} {BS TG BU : Addr}
theorem ok_need_line (B : Bl mg) (C : CsL mg) (T : ErS P w K mg base BS TG BU) (F1 : Df P w K mg base CX0 1 "unlike_periods" pr_unlike_periods (spUnlike K)) (D : Dt K mg "need_line" s_need_line pr_need_line) : Df P w K mg base (L2.CX P w) 4 "need_line" pr_need_line (spNeedLine K TG) := by
  refine D.okX sc_need_line (fun vs H Q E h => ?_) (fun f cdv A outer s H vs Q E hr h => ?_)
  · obtain ⟨bv, rv, b, ps, rfl, _⟩ := h
    rfl
  · obtain ⟨bv, rv, b, ps, rfl, hb, hp, bne, pne, few, k1, k2⟩ := h
    obtain ⟨pb, rfl, hpb⟩ := hb.ints_tup
    refine ⟨_, (pss_cons (ps_if (pt_cmpR op_gt (pe_callB (cr_maxT rfl (hu65 hr)) (by rfl) B.max boot_max (pa_cons (pv 0) pa_nil)) (pe_glob (v := .int (10 ^ 9)) rfl C.MOST_FACTOR.choose_spec ⟨_, rfl⟩) (nomark _)) (pss_one (ps_rz rfl T.TooGreat (hr.mono (by decide)) (takes_of rfl rfl rfl rfl) (by rfl) (pe_glob (v := .int (10 ^ 9)) rfl C.MOST_FACTOR.choose_spec ⟨_, rfl⟩))) pss_nil) (pss_cons (ps_if (pt_cmpR op_gt (pe_callB call_len_seq (by rfl) B.len PySem.boot_len (pa_cons (pe_f F1 (hr.mono (by decide)) pass0 (pa_cons (pv 1) pa_nil)) pa_nil)) (pe_glob (v := .int 12) rfl C.MOST_PERIODS.choose_spec ⟨_, rfl⟩) (nomark _)) (pss_one (ps_rz rfl T.TooGreat (hr.mono (by decide)) (takes_of rfl rfl rfl rfl) (by rfl) (pe_glob (v := .int 12) rfl C.MOST_PERIODS.choose_spec ⟨_, rfl⟩))) pss_nil) (pss_one (ps_ret (pe_tup (pa_cons (pv 0) (pa_cons (pv 1) pa_nil))))))), ?_⟩
    dsimp only [cxOf, L2.start]
    have hb0 := hb
    have bpos : 0 < b.length := List.length_pos_iff.mpr bne
    refine sq_if0 ⟨_, rfl, pb, b, rfl, hpb, bpos, fun mx h1 h2 => ⟨_, _, rfl, rfl, _, rfl, ?_⟩⟩
    have em : decide ((10 : Int) ^ 9 < mx) = b.any (fun x => decide (10 ^ 9 < x)) := by
      rw [Bool.eq_iff_iff, decide_eq_true_eq, List.any_eq_true]
      constructor
      · exact fun h => ⟨mx, h1, decide_eq_true h⟩
      · rintro ⟨x, hx, h⟩
        have := of_decide_eq_true h
        have := h2 x hx
        omega
    rw [em]
    cases hbig : b.any (fun x => decide (10 ^ 9 < x)) with
    | true =>
      have eb : badLn (b, ps) = some (10 ^ 9) := by
        unfold badLn
        rw [if_pos hbig]
      have o : OutF K TG "most" (.int (10 ^ 9)) H E := by
        have := k2 _ eb
        rwa [show ((10 ^ 9 : Nat) : Int) = 10 ^ 9 from rfl] at this
      exact iteT (rz_f (σ := []) o (Same.refl _) (.int _))
    | false =>
      refine iteF ?_
      refine sq_if0 ⟨_, rfl, rv, ps, rfl, hp, pne, few, fun H1 u out e1 un hu => ?_⟩
      have eo := un.uniq (ul_unl ps)
      subst eo
      obtain ⟨q, zs, rfl, hq, hqa⟩ := hu.tup_inv
      have lq := hqa.length
      rw [List.length_map] at lq
      refine ⟨q, zs, rfl, .inr hq, _, _, rfl, rfl, _, rfl, ?_⟩
      rw [lq]
      have en : badLn (b, ps) = if 12 < (ul ps).length then some 12 else none := by
        show (if b.any (fun x => decide (10 ^ 9 < x)) = true then _ else _) = _
        rw [if_neg (by rw [hbig]; exact Bool.false_ne_true)]
      by_cases c : 12 < (ul ps).length
      · rw [if_pos c] at en
        rw [decide_eq_true (by omega)]
        exact iteT (rz_f (σ := []) (k2 _ en) e1 (.int _))
      · rw [if_neg c] at en
        rw [decide_eq_false (by omega)]
        refine iteF ⟨_, rfl, _, rfl, Nat.le_of_ble_eq_true rfl, fun r hr0 => k1 en _ _ (e1.then_new hr0) (.tup (.of upd_same) (.cons ((hb0.to e1).to (Same.new hr0)) (.cons ((hp.to e1).to (Same.new hr0)) .nil)))⟩
theorem ok_among (B : Bl mg) (D : Dt K mg "choices_among" s_choices_among pr_choices_among) : Df P w K mg base CX0 1 "choices_among" pr_choices_among (spAmong K) := by
  refine D.ok sc_choices_among (fun vs H Q E h => ?_) (fun f cdv A outer s H vs Q E hr h => ?_)
  · obtain ⟨n, rfl, _⟩ := h
    rfl
  · obtain ⟨n, rfl, n8, k⟩ := h
    refine ⟨_, (pss_cons (ps_set (i := 1) sc_choices_among.nd rfl (Or.inl rfl) (pe_lst pa_nil)) (pss_cons (ps_for PassesOwn.never rfl (pi_range2 (by rfl) B.range (pa_cons pe_int (pa_cons (pe_op op_shl pe_int (pv 0)) pa_nil))) (pg_name (i := 2) sc_choices_among.nd rfl (Or.inr rfl)) (pss_one (ps_expr (pe_bm PySem.F.plainAttrs_list PySem.F.slot_list_append PySem.F.type_list_append mt_append (pv 1) (pa_cons (pe_callTy call_tuple_of (by rfl) B.tuple PyProof.Rows.boot_tuple (pa_cons (pe_lc (own := [("at", 3)]) (g := gName 3) (tt := (tTest (tOp rEq (tOp (fun x y H Q => ∃ n : Nat, x = .int (n : Int) ∧ y = .int 1 ∧ Q (.int ((n % 2 : Nat) : Int)) H) (tOp (rI (fun _ j => 0 ≤ j) fun i j => .int (i / 2 ^ j.toNat)) (tVar 2) (tVar 3)) (tC (V.int 1))) (tC (V.int 1))))) (by rfl) sc_choices_among.nd (pi_range1 (by rfl) B.range (pa_cons (pv 0) pa_nil)) (blkOk_by (own := [("at", 3)]) (N := nm_choices_among) (sc := defScope s_choices_among) (by decide +kernel)) (fun _ _ _ _ _ => pg_name (i := 3) sc_choices_among.nd rfl (Or.inl rfl)) (fun _ _ _ _ _ => (pts_one (pt_cmpR op_eq (pe_op op_odd (pe_op op_shr (pv 2) (pv 3)) pe_int) pe_int (nomark _)))) (fun _ _ _ _ _ => (pv 3))) pa_nil)) pa_nil))))) (pss_one (ps_ret (pe_callB (cr_sortedD (hu65 hr)) (by rfl) B.sorted boot_sorted (pa_cons (pv 1) pa_nil)))))), ?_⟩
    dsimp only [cxOf, Cx.nox, L2.start]
    refine sq_go ⟨Nat.zero_le _, fun F hF => ?_⟩
    have e0 := Same.new (o := HO.lst []) hF
    have g0 : Gro K H (upd H F (HO.lst [])) F [] [] := ⟨upd_same, .nil, hF, rfl⟩
    generalize upd H F (HO.lst []) = H0 at *
    have p8 : 2 ^ n ≤ 256 := Nat.pow_le_pow_right (n := 2) (by decide) n8
    have pc : ((1 : Int) * 2 ^ ((n : Int)).toNat) = ((2 ^ n : Nat) : Int) := by
      rw [Int.toNat_natCast, Int.one_mul, Int.natCast_pow]
      rfl
    have pj : (0 : Int) ≤ 1 * 2 ^ ((n : Int)).toNat ∧ (1 : Int) * 2 ^ ((n : Int)).toNat ≤ 256 := ⟨by rw [pc]; exact Int.natCast_nonneg _, by rw [pc]; exact Int.ofNat_le.mpr p8⟩
    generalize hjj : (1 : Int) * 2 ^ ((n : Int)).toNat = jj at *
    have pn : (jj - 1).toNat = 2 ^ n - 1 := by
      rw [pc]
      generalize 2 ^ n = N
      omega
    refine sq_fr ⟨_, rfl, _, _, rfl, rfl, ⟨by omega, by omega, by decide⟩, 1, jj, (by rw [← hjj]), ⟨by decide, by decide, by omega, by omega⟩, for_it walk_range (fun i σ H' => Same H H' ∧ ∃ (ys : List V) (v2 v3 : Option V), σ = [some (.int (n : Nat)), some (.ref F), v2, v3] ∧ Gro K H H' F ys (((List.range i).map (subAt n)).map intsD)) ⟨e0, [], _, _, rfl, g0⟩ (fun _ _ _ _ _ => trivial) (fun i x σ Hz H1 hi q y => ?_) (fun σ H1 q => ?_)⟩
    · rw [pn] at hi
      obtain ⟨e1, ys, v2, v3, rfl, g1⟩ := q
      obtain ⟨rfl, rfl⟩ := y
      dsimp only [gName]
      have yl := g1.dp.length
      rw [List.length_map, List.length_map, List.length_range] at yl
      refine ⟨_, rfl, .inl ⟨rfl, _, .of g1.h⟩, _, rfl, _, rfl, by omega, by omega, fun D hD => lcF walk_range hD (by rw [sizeLine_eq]; omega) (fun a => decide ((i + 1) / 2 ^ a % 2 = 1)) (fun a y _ => y = .int (a : Nat)) (fun a y H H' _ _ q => q) (fun _ _ => trivial) (fun a x H2 H3 Q1 Q0 ha e2 y q1 q0 => ?_) (fun H2 zs e2 hz g => ?_)⟩
      · obtain ⟨rfl, rfl⟩ := y
        dsimp only
        rw [Int.zero_add]
        refine ⟨rfl, _, rfl, _, rfl, _, _, rfl, rfl, by omega, _, congrArg V.int (bit_eq i a), rfl, rfl, _, rfl, ?_⟩
        have ed : decide (V.int (((i + 1) / 2 ^ a % 2 : Nat) : Int) = V.int 1) = decide ((i + 1) / 2 ^ a % 2 = 1) := by
          rw [decide_eq_decide]
          constructor
          · intro h; have := V.int.inj h; omega
          · intro h; rw [h]; rfl
        rw [ed]
        cases z : decide ((i + 1) / 2 ^ a % 2 = 1) with
        | true => exact iteT ⟨_, rfl, q1 z _ _ rfl (Same.refl _)⟩
        | false => exact iteF (q0 z _ (Same.refl _))
      · have hv := g.vals (fun a => V.int (a : Nat)) fun a y q => q
        rw [show ((n : Int)).toNat = n by omega] at hv
        have hv2 : zs = (subAt n i).map V.int := by
          rw [hv]
          unfold subAt
          rw [List.map_map]
          rfl
        subst hv2
        refine ⟨D, _, rfl, .inl ⟨.of hz, fun t ht => ?_⟩⟩
        have n1 := e2.then_new (o := HO.tup ((subAt n i).map V.int)) ht
        have dt : Dp K (upd H2 t (HO.tup ((subAt n i).map V.int))) (.ref t) (intsD (subAt n i)) := Dp.tup_ints (.of upd_same)
        have g2 := g1.same n1
        generalize upd H2 t (HO.tup ((subAt n i).map V.int)) = H4 at *
        refine ⟨F, ys, .ref t, rfl, rfl, g2.h, slt (by omega), (e1.trans n1).mut g2.z, ys ++ [.ref t], _, _, rfl, ?_⟩
        rw [List.range_succ, List.map_append, List.map_append]
        exact g2.app dt (noList_ints _)
    · rw [pn] at q
      obtain ⟨e1, ys, v2, v3, rfl, g1⟩ := q
      rw [← sub_eq] at g1
      refine ⟨_, rfl, F, ys, (sub n).map intsD, rfl, .of g1.h, g1.dp, fun d hd d' hd' => ?_, .inl fun d hd => ?_, fun d hd => ?_, fun zs es sp hzs hpe hor hsp => ?_⟩
      · obtain ⟨r, _, rfl⟩ := List.mem_map.mp hd
        obtain ⟨r', _, rfl⟩ := List.mem_map.mp hd'
        exact alike_intsD _ _
      · obtain ⟨r, hr, rfl⟩ := List.mem_map.mp hd
        rw [sub_eq] at hr
        obtain ⟨b, hb, rfl⟩ := List.mem_map.mp hr
        obtain ⟨x, xs, e⟩ := List.exists_cons_of_ne_nil (subAt_pos n8 (List.mem_range.mp hb))
        rw [e]
        exact ⟨_, _, rfl⟩
      · obtain ⟨r, _, rfl⟩ := List.mem_map.mp hd
        exact Nat.le_trans (SN.ints r).dep (by decide)
      · obtain ⟨ks, rfl, pe⟩ := perm_map rowOf_ints hpe
        have := chc_of pe hor
        subst this
        refine k _ sp zs (e1.then_new hsp) ?_ upd_same (hzs.to (Same.new hsp))
        cases z : H sp with
        | none => rfl
        | some o => rw [e1 _ _ z] at hsp; cases hsp
end
end Ws
/-! ## P25d -/
namespace Ws
open PySem PySem.Spec PyProof.Rows L2 RZ SD
local macro_rules | `(tactic| walk_at "nf") => `(tactic| dsimp only [tNext, tSeq, tDrop, tRet, tRetN, tIfS, tAsg, gName, gTup, gCons, gNil, tVar, tC, tOp, tUn, rI, rI0, rU, rEq, rNe, tTest, tChain, tAnd, tOr, tNot, tAndV, tOrV, tNotV, tIf, tCB, tCKw, tCons, tNil, tTup, tLst, tCa, tCallS, tB, rIxT, rIxL, rIxS, cxOf, Cx.nox, Cx.wish, Cx.blk, L2.start, tPar, tPar3, tNever, tYes, tBits, tRz, tBM, rAppend, tyV, tXf, suiteEnds, gSub, rSetL, tBreak, rMax, tDGet, sDPut, tSl, tNoPart, tPart, tDisp, tPairs, tDGet2, tDNewK, tAugS, ipI, rGetL, tDIn, tDNotIn, tBM0, rPop])
local macro_rules | `(tactic| walk_at "sx") => `(tactic| simp only [wipe, List.cons.injEq, and_assoc, exists_and_left, and_true, List.map_cons, List.map_nil, List.length_cons, List.length_nil, List.cons_append, List.nil_append, List.append_nil, Nat.reduceAdd, Nat.reduceSub, List.replicate, List.getElem?_cons_zero, List.getElem?_cons_succ, List.set_cons_zero, List.set_cons_succ, Option.some.injEq, V.int.injEq, V.bl.injEq, V.ref.injEq, V.str.injEq, exists_eq_left', exists_eq_left, true_and, Bool.true_eq_false, Bool.false_eq_true, if_true, if_false])

def prL (x y : Ln) : Ln := (Sq.addk x.1 y.1 1, x.2 ++ y.2)
theorem prods_cons (x : Ln) (a b : List Ln) : prods (x :: a) b = b.map (prL x) ++ prods a b := rfl
theorem prods_app (a1 a2 b : List Ln) : prods (a1 ++ a2) b = prods a1 b ++ prods a2 b := List.flatMap_append ..
theorem split_at {α : Type} {l : List α} {i : Nat} {x : α} (h : l[i]? = some x) : l = l.take i ++ x :: l.drop (i + 1) := by
  obtain ⟨hi, e⟩ := List.getElem?_eq_some_iff.mp h
  rw [← e, ← List.drop_eq_getElem_cons hi, List.take_append_drop]
theorem first_bad {pre : List Ln} {l : Ln} {rest : List Ln} {n : Nat} (h : pre.findSome? badLn = none) (hl : badLn l = some n) : (pre ++ l :: rest).findSome? badLn = some n := by
  rw [List.findSome?_append, h, List.findSome?_cons, hl]
  rfl
theorem prods_at {a b : List Ln} {i j : Nat} {x y : Ln} (hx : a[i]? = some x) (hy : b[j]? = some y) : ∃ rest, prods a b = (prods (a.take i) b ++ (b.take j).map (prL x)) ++ prL x y :: rest := by
  refine ⟨(b.drop (j + 1)).map (prL x) ++ prods (a.drop (i + 1)) b, ?_⟩
  conv => lhs; rw [split_at hx, prods_app, prods_cons]
  conv => lhs; arg 2; arg 1; rw [split_at hy]
  rw [List.map_append, List.map_cons]
  simp only [List.append_assoc, List.cons_append]
theorem prods_len (a b : List Ln) : (prods a b).length = a.length * b.length := by
  induction a with
  | nil => simp [prods]
  | cons x a ih => rw [prods_cons, List.length_append, ih, List.length_map, List.length_cons, Nat.succ_mul, Nat.add_comm]
theorem prods_ok {m : Nat} {a b : List Ln} (ha : SetOk m a) (hb : SetOk m b) : ∀ l ∈ prods a b, l.1.length = m ∧ (∀ r ∈ l.2, r ≠ []) ∧ l.2.length ≤ 1000 := fun l hl => by
  obtain ⟨x, hx, hl⟩ := List.mem_flatMap.mp hl
  obtain ⟨y, hy, rfl⟩ := List.mem_map.mp hl
  have ax := ha.ln x hx
  have ay := hb.ln y hy
  refine ⟨?_, fun r hr => ?_, ?_⟩
  · show (List.zipWith _ x.1 y.1).length = m
    rw [List.length_zipWith, ax.bl, ay.bl, Nat.min_self]
  · rcases List.mem_append.mp hr with h | h
    · exact (ha.side x hx).1 r h
    · exact (hb.side y hy).1 r h
  · show (x.2 ++ y.2).length ≤ 1000
    rw [List.length_append]
    have := ha.p12 x hx
    have := hb.p12 y hy
    omega
def spSumOf (K : PySem.W.Frag) (BS TG BU : Addr) : Sp := fun vs H Q E => ∃ (v1 v2 : V) (d1 d2 : PyData), vs = [v1, v2] ∧ Dp K H v1 d1 ∧ Dp K H v2 d2 ∧ OutR K BS TG BU (sumF d1 d2) H Q E
abbrev s_sum_of : Stmt := top 26
abbrev nm_sum_of : List Str := ["one", "other", "made", "base", "periods", "other_base", "other_periods"]
abbrev pr_sum_of : List Str := ["one", "other"]
theorem sc_sum_of : FnScope nm_sum_of pr_sum_of (defScope s_sum_of) := ⟨rfl, rfl, rfl, by decide +kernel, rfl, by decide +kernel, by decide +kernel⟩
section
variable {P : Program} {w : World} {K : PySem.W.Frag} {mg : Str → Option Value} {base : Heap} {BS TG BU : Addr}
theorem ok_sum_of (B : Bl mg) (C : CsL mg) (T : ErS P w K mg base BS TG BU) (F1 : Df P w K mg base (L2.CX P w) 7 "need_two_sets" pr_need_two_sets (spNeedTwo K BS TG BU)) (F2 : Df P w K mg base (L2.CX P w) 4 "set_with" pr_set_with (spSetWithL K TG)) (F3 : Df P w K mg base (L2.CX P w) 4 "need_line" pr_need_line (spNeedLine K TG)) (F4 : Df P w K mg base CX0 1 "added" pr_added (spAdded K)) (D : Dt K mg "sum_of" s_sum_of pr_sum_of) : Df P w K mg base (L2.CX P w) 8 "sum_of" pr_sum_of (spSumOf K BS TG BU) := by
  refine D.okX sc_sum_of (fun vs H Q E h => ?_) (fun f cdv A outer s H vs Q E hr h => ?_)
  · obtain ⟨v1, v2, d1, d2, rfl, _⟩ := h
    rfl
  · obtain ⟨v1, v2, d1, d2, rfl, hd1, hd2, k⟩ := h
    obtain ⟨k1, k2, k3⟩ := outT_of k id
    refine ⟨_, (pss_cons (ps_expr (pe_f (E := E) F1 (hr.mono (by decide)) (passes_call (takes_of rfl rfl rfl rfl) fun _ _ _ _ h => h) (pa_cons (pv 0) (pa_cons (pv 1) pa_nil)))) (pss_cons (ps_if (pt_cmpR op_gt (pe_op op_mul (pe_callB call_len_seq (by rfl) B.len PySem.boot_len (pa_cons (pe_ix ix_tup (pv 0) pe_int (fun _ _ => rfl)) pa_nil)) (pe_callB call_len_seq (by rfl) B.len PySem.boot_len (pa_cons (pe_ix ix_tup (pv 1) pe_int (fun _ _ => rfl)) pa_nil))) (pe_glob (v := .int 400) rfl C.MOST_LINES.choose_spec ⟨_, rfl⟩) (nomark _)) (pss_one (ps_rz rfl T.TooGreat (hr.mono (by decide)) (takes_of rfl rfl rfl rfl) (by rfl) (pe_glob (v := .int 400) rfl C.MOST_LINES.choose_spec ⟨_, rfl⟩))) pss_nil) (pss_cons (ps_set (i := 2) sc_sum_of.nd rfl (Or.inl rfl) (pe_lst pa_nil)) (pss_cons (ps_for (passes_of rfl) rfl (pi_tup (pe_ix ix_tup (pv 0) pe_int (fun _ _ => rfl))) (pg_tup rfl (pgs_cons (pg_name (i := 3) sc_sum_of.nd rfl (Or.inl rfl)) (pgs_cons (pg_name (i := 4) sc_sum_of.nd rfl (Or.inl rfl)) pgs_nil))) (pss_one (ps_for (passes_of rfl) rfl (pi_tup (pe_ix ix_tup (pv 1) pe_int (fun _ _ => rfl))) (pg_tup rfl (pgs_cons (pg_name (i := 5) sc_sum_of.nd rfl (Or.inl rfl)) (pgs_cons (pg_name (i := 6) sc_sum_of.nd rfl (Or.inl rfl)) pgs_nil))) (pss_one (ps_expr (pe_bm PySem.F.plainAttrs_list PySem.F.slot_list_append PySem.F.type_list_append mt_append (pv 2) (pa_cons (pe_f (E := E) F3 (hr.mono (by decide)) (passes_call (takes_of rfl rfl rfl rfl) fun _ _ _ _ h => h) (pa_cons (pe_f F4 (hr.mono (by decide)) pass0 (pa_cons (pv 3) (pa_cons (pv 5) (pa_cons pe_int pa_nil)))) (pa_cons (pe_op (show OpR _ _ (rCatZ K) from op_catZ) (pv 4) (pv 6)) pa_nil))) pa_nil))))))) (pss_one (ps_ret (pe_f (E := E) F2 (hr.mono (by decide)) (passes_call (takes_of rfl rfl rfl rfl) fun _ _ _ _ h => h) (pa_cons (pe_ix ix_tup (pv 0) pe_int (fun _ _ => rfl)) (pa_cons (pv 2) pa_nil))))))))), ?_⟩
    dsimp only [cxOf, L2.start]
    refine sq_dr ⟨_, rfl, _, rfl, v1, v2, d1, d2, rfl, hd1, hd2, k1, k2, fun o1 => ?_⟩
    obtain ⟨k4, k5, k6⟩ := k3 o1
    refine ⟨k4, k5, fun o2 => ?_⟩
    obtain ⟨k7, k8⟩ := k6 o2
    refine ⟨k7, fun c H1 e1 => ?_⟩
    have k9 := outR_to (k8 c) e1
    obtain ⟨m, a, rfl, ha⟩ := set_typed o1
    obtain ⟨m', b, rfl, hb⟩ := set_typed o2
    rw [manyOf_set, manyOf_set] at c
    subst c
    rw [manyOf_set, linesOf_set, linesOf_set] at k9
    obtain ⟨p1, u1, rfl, hp1, hu1⟩ := set_view (hd1.to e1)
    obtain ⟨p2, u2, rfl, hp2, hu2⟩ := set_view (hd2.to e1)
    obtain ⟨q1, z1, rfl, hq1, hz1l, hz1at, hz1⟩ := tup_view hu1
    obtain ⟨q2, z2, rfl, hq2, hz2l, hz2at, hz2⟩ := tup_view hu2
    have fa := ha.few
    have fb := hb.few
    have m1 := ha.m1
    dsimp only
    refine sq_if0 ⟨_, rfl, p1, _, 1, _, rfl, rfl, hp1, rfl, q1, z1, rfl, .inr hq1, _, rfl, p2, _, 1, _, rfl, rfl, hp2, rfl, q2, z2, rfl, .inr hq2, _, _, rfl, rfl, .inl ⟨by omega, by omega⟩, _, _, rfl, rfl, _, rfl, ?_⟩
    by_cases c4 : 400 < a.length * b.length
    · have es : sumW a b = .great 400 := if_pos c4
      rw [es] at k9
      rw [decide_eq_true (by rw [hz1l, hz2l]; exact Int.ofNat_lt.mpr c4)]
      exact iteT (rz_f (σ := []) k9 (Same.refl _) (.int _))
    rw [decide_eq_false (by rw [hz1l, hz2l]; exact fun h => c4 (Int.ofNat_lt.mp h))]
    refine iteF ?_
    have kbad : ∀ n : Nat, (prods a b).findSome? badLn = some n → OutF K TG "most" (.int (n : Nat)) H1 E := fun n e => by
      have es : sumW a b = .great n := by
        unfold sumW
        rw [if_neg c4, e]
      rw [es] at k9
      exact k9
    have kset : (prods a b).findSome? badLn = none → OutR K BS TG BU (ofSW m (setW (prods a b))) H1 Q E := fun e => by
      have es : sumW a b = setW (prods a b) := by
        unfold sumW
        rw [if_neg c4, e]
      rw [es] at k9
      exact k9
    clear k9 k8 k7 k6 k5 k4 k3 k2 k1
    have pok := prods_ok ha hb
    have plen := prods_len a b
    refine sq_go ⟨Nat.zero_le _, fun F hF => ?_⟩
    have e0 := Same.new (o := HO.lst []) hF
    have g0 : Gro K H1 (upd H1 F (HO.lst [])) F [] [] := ⟨upd_same, .nil, hF, rfl⟩
    generalize upd H1 F (HO.lst []) = H0 at *
    refine sq_fr ⟨_, rfl, p1, _, 1, _, rfl, rfl, e0.seqT hp1, rfl, q1, rfl, ⟨z1, e0.seqT hq1⟩, for_it (walk_tup (K := K) (a := q1) (xs := z1)) (fun i σ H' => Same H1 H' ∧ ∃ (ys : List V) (v3 v4 v5 v6 : Option V), σ = [some (.ref p1), some (.ref p2), some (.ref F), v3, v4, v5, v6] ∧ Gro K H1 H' F ys ((prods (a.take i) b).map lineD) ∧ (prods (a.take i) b).findSome? badLn = none) ⟨e0, [], _, _, _, _, rfl, g0, rfl⟩ (fun i σ H' _ q => q.1.seqT hq1) (fun i x σ Hz H2 hi q y => ?_) (fun σ H2 q => ?_)⟩
    · obtain ⟨e2, ys, v3, v4, v5, v6, rfl, g2, no2⟩ := q
      obtain ⟨rfl, hx⟩ := y
      obtain ⟨x, hx1, hdx⟩ := hz1at i _ hx
      obtain ⟨bx, ux, vx, rfl, hbx, hux, hvx⟩ := ln_v hdx
      have ax := ha.ln x (List.mem_of_getElem? hx1)
      have ax12 := ha.p12 x (List.mem_of_getElem? hx1)
      obtain ⟨px, zx, rfl, hzx, hzxl, -, hzxa⟩ := tup_view hvx
      refine ⟨bx, _, rfl, e2.seqT hbx, rfl, _, _, rfl, _, _, rfl, rfl, ?_⟩
      refine ⟨_, rfl, p2, _, 1, _, rfl, rfl, e2.seqT hp2, rfl, q2, rfl, ⟨z2, e2.seqT hq2⟩, for_it (walk_tup (K := K) (a := q2) (xs := z2)) (fun j σ H' => Same H1 H' ∧ ∃ (ys : List V) (v5 v6 : Option V), σ = [some (.ref p1), some (.ref p2), some (.ref F), some ux, some (.ref px), v5, v6] ∧ Gro K H1 H' F ys ((prods (a.take i) b ++ (b.take j).map (prL x)).map lineD) ∧ (prods (a.take i) b ++ (b.take j).map (prL x)).findSome? badLn = none) ⟨e2, ys, _, _, rfl, (by simpa using g2), (by simpa using no2)⟩ (fun i σ H' _ q => q.1.seqT hq2) (fun j y σ Hz H3 hj q yy => ?_) (fun σ H3 q => ?_)⟩
      · obtain ⟨e3, ys, v5, v6, rfl, g3, no3⟩ := q
        obtain ⟨rfl, hy⟩ := yy
        obtain ⟨y, hy1, hdy⟩ := hz2at j _ hy
        obtain ⟨byy, uy, vy, rfl, hby, huy, hvy⟩ := ln_v (hdy.to e3)
        obtain ⟨py, zy, rfl, hzy, hzyl, -, hzya⟩ := tup_view hvy
        have ay := hb.ln y (List.mem_of_getElem? hy1)
        have ay12 := hb.p12 y (List.mem_of_getElem? hy1)
        obtain ⟨rest, hp⟩ := prods_at hx1 hy1
        have hmem : prL x y ∈ prods a b := by rw [hp]; exact List.mem_append.mpr (.inr List.mem_cons_self)
        obtain ⟨ok1, ok2, ok3⟩ := pok _ hmem
        have tk : (b.take (j + 1)).map (prL x) = (b.take j).map (prL x) ++ [prL x y] := by rw [take_succ_of hy1, List.map_append]; rfl
        have yl := g3.dp.length
        have pl : (prods (a.take i) b ++ (b.take j).map (prL x)).length ≤ 400 := by
          have := congrArg List.length hp
          rw [List.length_append, plen] at this
          omega
        rw [List.length_map] at yl
        refine ⟨byy, _, rfl, hby, rfl, _, _, rfl, _, _, rfl, rfl, ?_⟩
        refine ⟨_, rfl, .inl ⟨rfl, _, .of g3.h⟩, _, rfl, _, rfl, ux, uy, x.1, y.1, 1, rfl, hux.to e3, huy, ⟨by decide, by decide⟩, by rw [ax.bl]; have := ha.m4; omega, fun H4 r4 e4 hr4 => ⟨_, rfl, _, rfl, px, py, zx, zy, rfl, rfl, (e3.trans e4).seqT hzx, e4.seqT hzy, by omega, fun H5 r5 e5 h5 => ?_⟩⟩
        have e45 := e4.trans e5
        refine ⟨r4, .ref r5, Sq.addk x.1 y.1 1, x.2 ++ y.2, rfl, hr4.to e5, ?_, fun h => ?_, ok2, ok3, fun no H6 u e6 hu => ?_, fun n e => ?_⟩
        · show Dp K H5 (.ref r5) (.tuple ((x.2 ++ y.2).map intsD))
          rw [List.map_append]
          exact .tup h5 ((hzxa.to (e3.trans e45)).append (hzya.to e45))
        · have : (Sq.addk x.1 y.1 1).length = m := ok1
          rw [h] at this
          simp at this
          omega
        · have g6 := g3.same (e45.trans e6)
          refine ⟨F, ys, u, rfl, rfl, g6.h, slt (by omega), ((e3.trans e45).trans e6).mut g6.z, ys ++ [u], _, _, rfl, ?_, ?_⟩
          · rw [tk, ← List.append_assoc, List.map_append]
            exact g6.app hu (noList_ln _)
          · rw [tk, ← List.append_assoc, List.findSome?_append, no3]
            show ([prL x y].findSome? badLn) = none
            rw [List.findSome?_cons, show badLn (prL x y) = none from no]
            rfl
        · exact ((kbad n (by rw [hp]; exact first_bad no3 e)).to e3).to e45
      · obtain ⟨e3, ys, v5, v6, rfl, g3, no3⟩ := q
        have ft : prods (a.take i) b ++ (b.take z2.length).map (prL x) = prods (a.take (i + 1)) b := by
          rw [hz2l, List.take_length, take_succ_of hx1, prods_app]
          show _ = _ ++ (b.map (prL x) ++ prods [] b)
          rw [show prods [] b = [] from rfl, List.append_nil]
        rw [ft] at g3 no3
        exact ⟨e3, ys, _, _, _, _, rfl, g3, no3⟩
    · obtain ⟨e2, ys, v3, v4, v5, v6, rfl, g2, no2⟩ := q
      rw [hz1l, List.take_length] at g2 no2
      dsimp only
      refine ⟨_, rfl, p1, _, 0, _, rfl, rfl, e2.seqT hp1, rfl, _, rfl, m, .ref F, prods a b, rfl, .lst (.of g2.h) g2.dp, fun l hl => (pok l hl).2, by omega, setW_out (BS := BS) (BU := BU) (outR_to (kset no2) e2)⟩
end
end Ws
/-! ## P25e -/
namespace Ws
open PySem PySem.Spec PyProof.Rows L2 RZ SD
local macro_rules | `(tactic| walk_at "nf") => `(tactic| dsimp only [tNext, tSeq, tDrop, tRet, tRetN, tIfS, tAsg, gName, gTup, gCons, gNil, tVar, tC, tOp, tUn, rI, rI0, rU, rEq, rNe, tTest, tChain, tAnd, tOr, tNot, tAndV, tOrV, tNotV, tIf, tCB, tCKw, tCons, tNil, tTup, tLst, tCa, tCallS, tB, rIxT, rIxL, rIxS, cxOf, Cx.nox, Cx.wish, Cx.blk, L2.start, tPar, tPar3, tNever, tYes, tBits, tRz, tBM, rAppend, tyV, tXf, suiteEnds, gSub, rSetL, tBreak, rMax, tDGet, sDPut, tSl, tNoPart, tPart, tDisp, tPairs, tDGet2, tDNewK, tAugS, ipI, rGetL, tDIn, tDNotIn, tBM0, rPop])
local macro_rules | `(tactic| walk_at "sx") => `(tactic| simp only [wipe, List.cons.injEq, and_assoc, exists_and_left, and_true, List.map_cons, List.map_nil, List.length_cons, List.length_nil, List.cons_append, List.nil_append, List.append_nil, Nat.reduceAdd, Nat.reduceSub, List.replicate, List.getElem?_cons_zero, List.getElem?_cons_succ, List.set_cons_zero, List.set_cons_succ, Option.some.injEq, V.int.injEq, V.bl.injEq, V.ref.injEq, V.str.injEq, exists_eq_left', exists_eq_left, true_and, Bool.true_eq_false, Bool.false_eq_true, if_true, if_false])

def stL (ls : List Ln) (acc : Ln) (k : Int) : Ln := (Sq.addk acc.1 (ls.getD k.toNat ([], [])).1 1, acc.2 ++ (ls.getD k.toNat ([], [])).2 ++ [(ls.getD k.toNat ([], [])).1])
theorem starOf_eq (m : Nat) (ls : List Ln) (c : List Int) : starOf m ls c = c.foldl (stL ls) (List.replicate m 0, []) := rfl
theorem chc_in {n : Nat} {c : List Int} (h : c ∈ chc n) : c.length ≤ n ∧ ∀ k ∈ c, ∃ j : Nat, j < n ∧ k = (j : Int) := by
  rw [(chc_perm n).mem_iff, sub_eq] at h
  obtain ⟨b, _, rfl⟩ := List.mem_map.mp h
  unfold subAt
  refine ⟨?_, fun k hk => ?_⟩
  · rw [List.length_map]
    exact Nat.le_trans (List.length_filter_le _ _) (by rw [List.length_range]; exact Nat.le_refl _)
  · obtain ⟨j, hj, rfl⟩ := List.mem_map.mp hk
    exact ⟨j, List.mem_range.mp (List.mem_filter.mp hj).1, rfl⟩
structure AccOk (m t : Nat) (acc : Ln) : Prop where
  l : acc.1.length = m
  r : ∀ r ∈ acc.2, r.length = m
  n : acc.2.length ≤ 13 * t
theorem AccOk.step {m t : Nat} {ls : List Ln} {acc : Ln} (h : AccOk m t acc) (o : SetOk m ls) {j : Nat} (hj : j < ls.length) : AccOk m (t + 1) (stL ls acc (j : Int)) := by
  have e : ls.getD ((j : Int)).toNat ([], []) = ls[j] := by rw [Int.toNat_natCast, List.getD_eq_getElem?_getD, List.getElem?_eq_getElem hj]; rfl
  have ol := o.ln _ (List.getElem_mem hj)
  have o12 := o.p12 _ (List.getElem_mem hj)
  unfold stL
  rw [e]
  refine ⟨?_, fun r hr => ?_, ?_⟩
  · show (List.zipWith _ acc.1 (ls[j]).1).length = m
    rw [List.length_zipWith, h.l, ol.bl, Nat.min_self]
  · rcases List.mem_append.mp hr with h1 | h1
    · rcases List.mem_append.mp h1 with h2 | h2
      · exact h.r r h2
      · exact (ol.pl r h2).1
    · rw [List.mem_singleton.mp h1]; exact ol.bl
  · show (acc.2 ++ (ls[j]).2 ++ [(ls[j]).1]).length ≤ 13 * (t + 1)
    rw [List.length_append, List.length_append, List.length_singleton]
    have := h.n
    omega
theorem fold_ok {m : Nat} {ls : List Ln} (o : SetOk m ls) : ∀ (c : List Int) (t : Nat) (acc : Ln), AccOk m t acc → (∀ k ∈ c, ∃ j : Nat, j < ls.length ∧ k = (j : Int)) → AccOk m (t + c.length) (c.foldl (stL ls) acc)
  | [], t, acc, h, _ => h
  | k :: c, t, acc, h, hk => by
    obtain ⟨j, hj, rfl⟩ := hk k List.mem_cons_self
    have := fold_ok o c (t + 1) _ (h.step o hj) fun k hk' => hk k (List.mem_cons_of_mem _ hk')
    rw [List.length_cons, Nat.add_comm c.length 1, ← Nat.add_assoc]
    exact this
theorem star_ok {m : Nat} {ls : List Ln} (o : SetOk m ls) {c : List Int} (hc : c ∈ chc ls.length) : AccOk m c.length (starOf m ls c) := by
  have := fold_ok o c 0 (List.replicate m 0, []) ⟨List.length_replicate, fun r hr => absurd hr List.not_mem_nil, Nat.zero_le _⟩ (chc_in hc).2
  rw [Nat.zero_add] at this
  exact this
def spStar (K : PySem.W.Frag) (BS TG BU : Addr) : Sp := fun vs H Q E => ∃ (v : V) (d : PyData), vs = [v] ∧ Dp K H v d ∧ OutR K BS TG BU (starF d) H Q E
abbrev s_star : Stmt := top 27
abbrev nm_star : List Str := ["value", "many", "lines", "zeros", "made", "choice", "base", "periods", "at", "_"]
abbrev pr_star : List Str := ["value"]
theorem sc_star : FnScope nm_star pr_star (defScope s_star) := ⟨rfl, rfl, rfl, by decide +kernel, rfl, by decide +kernel, by decide +kernel⟩
section
variable {P : Program} {w : World} {K : PySem.W.Frag} {mg : Str → Option Value} {base : Heap} {BS TG BU : Addr}
theorem ok_star (B : Bl mg) (C : CsL mg) (C3 : CsS mg) (T : ErS P w K mg base BS TG BU) (F1 : Df P w K mg base (L2.CX P w) 6 "need_set" pr_need_set (spNeedSet K BS TG)) (F2 : Df P w K mg base (L2.CX P w) 4 "set_with" pr_set_with (spSetWithL K TG)) (F3 : Df P w K mg base (L2.CX P w) 4 "need_line" pr_need_line (spNeedLine K TG)) (F4 : Df P w K mg base CX0 1 "added" pr_added (spAdded K)) (F5 : Df P w K mg base CX0 1 "choices_among" pr_choices_among (spAmong K)) (D : Dt K mg "star" s_star pr_star) : Df P w K mg base (L2.CX P w) 7 "star" pr_star (spStar K BS TG BU) := by
  refine D.okX sc_star (fun vs H Q E h => ?_) (fun f cdv A outer s H vs Q E hr h => ?_)
  · obtain ⟨v, d, rfl, _⟩ := h
    rfl
  · obtain ⟨v, d, rfl, hd, k⟩ := h
    refine ⟨_, (pss_cons (ps_asg (pe_f (E := E) F1 (hr.mono (by decide)) (passes_call (takes_of rfl rfl rfl rfl) fun _ _ _ _ h => h) (pa_cons (pv 0) pa_nil)) (pg_tup rfl (pgs_cons (pg_name (i := 1) sc_star.nd rfl (Or.inl rfl)) (pgs_cons (pg_name (i := 2) sc_star.nd rfl (Or.inl rfl)) pgs_nil)))) (pss_cons (ps_if (pt_cmpR op_gt (pe_callB call_len_seq (by rfl) B.len PySem.boot_len (pa_cons (pv 2) pa_nil)) (pe_glob (v := .int 8) rfl C3.MOST_STARRED.choose_spec ⟨_, rfl⟩) (nomark _)) (pss_one (ps_rz rfl T.TooGreat (hr.mono (by decide)) (takes_of rfl rfl rfl rfl) (by rfl) (pe_glob (v := .int 400) rfl C.MOST_LINES.choose_spec ⟨_, rfl⟩))) pss_nil) (pss_cons (ps_set (i := 3) sc_star.nd rfl (Or.inl rfl) (pe_callTy call_tuple_of (by rfl) B.tuple PyProof.Rows.boot_tuple (pa_cons (pe_lc (own := [("_", 9)]) (g := gName 9) (tt := tYes) (by rfl) sc_star.nd (pi_range1 (by rfl) B.range (pa_cons (pv 1) pa_nil)) (blkOk_by (own := [("_", 9)]) (N := nm_star) (sc := defScope s_star) (by decide +kernel)) (fun _ _ _ _ _ => pg_name (i := 9) sc_star.nd rfl (Or.inl rfl)) (fun _ _ _ _ _ => pts_nil) (fun _ _ _ _ _ => pe_int)) pa_nil))) (pss_cons (ps_set (i := 4) sc_star.nd rfl (Or.inl rfl) (pe_lst (pa_cons (pe_tup (pa_cons (pv 3) (pa_cons (pe_tup pa_nil) pa_nil))) pa_nil))) (pss_cons (ps_for (passes_of rfl) rfl (pi_list (pe_f F5 (hr.mono (by decide)) pass0 (pa_cons (pe_callB call_len_seq (by rfl) B.len PySem.boot_len (pa_cons (pv 2) pa_nil)) pa_nil))) (pg_name (i := 5) sc_star.nd rfl (Or.inl rfl)) (pss_cons (ps_set (i := 6) sc_star.nd rfl (Or.inl rfl) (pv 3)) (pss_cons (ps_set (i := 7) sc_star.nd rfl (Or.inl rfl) (pe_tup pa_nil)) (pss_cons (ps_for (passes_of rfl) rfl (pi_tup (pv 5)) (pg_name (i := 8) sc_star.nd rfl (Or.inl rfl)) (pss_cons (ps_set (i := 6) sc_star.nd rfl (Or.inl rfl) (pe_f F4 (hr.mono (by decide)) pass0 (pa_cons (pv 6) (pa_cons (pe_ix ix_tup (pe_ix ix_tup (pv 2) (pv 8) (fun _ _ => rfl)) pe_int (fun _ _ => rfl)) (pa_cons pe_int pa_nil))))) (pss_one (ps_set (i := 7) sc_star.nd rfl (Or.inl rfl) (pe_op (show OpR _ _ (rCatZ K) from op_catZ) (pe_op (show OpR _ _ (rCatZ K) from op_catZ) (pv 7) (pe_ix ix_tup (pe_ix ix_tup (pv 2) (pv 8) (fun _ _ => rfl)) pe_int (fun _ _ => rfl))) (pe_tup (pa_cons (pe_ix ix_tup (pe_ix ix_tup (pv 2) (pv 8) (fun _ _ => rfl)) pe_int (fun _ _ => rfl)) pa_nil))))))) (pss_one (ps_expr (pe_bm PySem.F.plainAttrs_list PySem.F.slot_list_append PySem.F.type_list_append mt_append (pv 4) (pa_cons (pe_f (E := E) F3 (hr.mono (by decide)) (passes_call (takes_of rfl rfl rfl rfl) fun _ _ _ _ h => h) (pa_cons (pv 6) (pa_cons (pv 7) pa_nil))) pa_nil)))))))) (pss_one (ps_ret (pe_f (E := E) F2 (hr.mono (by decide)) (passes_call (takes_of rfl rfl rfl rfl) fun _ _ _ _ h => h) (pa_cons (pv 1) (pa_cons (pv 4) pa_nil)))))))))), ?_⟩
    dsimp only [cxOf, L2.start]
    have k1 : ∀ n, setF d = .bad n → OutF K BS "place" (.int (n : Nat)) H E := fun n e => by
      unfold starF oneF at k
      rw [e] at k
      exact k
    have k2 : setF d = .great → OutF K TG "most" (.int 400) H E := fun e => by
      unfold starF oneF at k
      rw [e] at k
      exact k
    refine sq_as ⟨_, rfl, v, d, rfl, hd, fun o1 H1 e1 => ?_, k1, k2⟩
    have k3 : OutR K BS TG BU (ofSW (manyOf d) (starW (manyOf d) (linesOf d))) H1 Q E := by
      unfold starF oneF at k
      rw [o1] at k
      exact outR_to k e1
    obtain ⟨m, ls, rfl, ha⟩ := set_typed o1
    rw [manyOf_set, linesOf_set] at k3
    obtain ⟨p1, u1, rfl, hp1, hu1⟩ := set_view (hd.to e1)
    obtain ⟨q1, z1, rfl, hq1, hz1l, hz1at, hz1⟩ := tup_view hu1
    have m1 := ha.m1
    have m4 := ha.m4
    refine ⟨p1, _, rfl, hp1, rfl, _, _, rfl, _, _, rfl, rfl, ?_⟩
    dsimp only
    refine sq_if0 ⟨_, rfl, q1, z1, rfl, .inr hq1, _, _, rfl, rfl, _, rfl, ?_⟩
    by_cases c8 : 8 < ls.length
    · have es : starW m ls = .great 400 := if_pos c8
      rw [es] at k3
      rw [decide_eq_true (by omega)]
      exact iteT (rz_f (σ := []) k3 (Same.refl _) (.int _))
    rw [decide_eq_false (by omega)]
    refine iteF ?_
    have kbad : ∀ n : Nat, ((chc ls.length).map (starOf m ls)).findSome? badLn = some n → OutF K TG "most" (.int (n : Nat)) H1 E := fun n e => by
      have es : starW m ls = .great n := by
        unfold starW
        rw [if_neg c8, e]
      rw [es] at k3
      exact k3
    have kset : ((chc ls.length).map (starOf m ls)).findSome? badLn = none → OutR K BS TG BU (ofSW m (setW (starL m ls))) H1 Q E := fun e => by
      have es : starW m ls = setW (starL m ls) := by
        unfold starW
        rw [if_neg c8, e]
      rw [es] at k3
      exact k3
    clear k3 k2 k1 k
    refine sq_go (comp_made (K := K) (lo := 0) (n := m) (j := 9) (fun _ => .int 0) (by omega) (fun _ => rfl) (fun R r => ⟨_, rfl, (m : Int), rfl, by omega, by omega, by rw [Int.toNat_natCast]; exact r⟩) (fun x => rfl) (fun k H1 hk e => Lit.int) fun H2 zv e2 hz => ?_)
    have hz0 : Dp K H2 zv (intsD (List.replicate m 0)) := by
      have : ((List.range m).map fun _ => PyData.int 0) = (List.replicate m (0 : Int)).map PyData.int := by
        rw [List.map_const', List.length_range, List.map_replicate]
      rw [this] at hz
      exact hz
    refine sq_go (Lits.mk (K := K) (H0 := H2) (ds := [lineD (List.replicate m 0, [])]) (Lits.cons (Lit.tup (Lits.cons (Lit.var rfl hz0) (Lits.cons (Lit.tup Lits.nil (Nat.zero_le _)) Lits.nil)) (Nat.le_of_ble_eq_true rfl)) Lits.nil) (Same.refl _) (fun H3 F ys e3 nF hF hFa => ?_) (Nat.le_of_ble_eq_true rfl))
    have gF : Gro K H2 H3 F ys [lineD (List.replicate m 0, [])] := ⟨hF, hFa, nF, by
      show (noList (lineD _) && true) = true
      rw [noList_ln]
      rfl⟩
    refine sq_fr ⟨_, rfl, q1, z1, rfl, .inr ((e2.trans e3).seqT hq1), ?_⟩
    rw [hz1l]
    refine ⟨ls.length, rfl, by omega, fun H4 pc cs e4 npc hpc hcs => ?_⟩
    have npc2 : H2 pc = none := by
      cases z : H2 pc with
      | none => rfl
      | some o => rw [e3 _ _ z] at npc; cases npc
    have gP : Gro K H2 H4 pc cs ((chc ls.length).map intsD) := ⟨hpc, hcs, npc2, noListAll_of fun x hx => by
      obtain ⟨r, _, rfl⟩ := List.mem_map.mp hx
      exact noList_ints r⟩
    have gF4 := gF.same e4
    have e24 := e3.trans e4
    have nFP : F ≠ pc := ne_of_none gF.h npc
    refine ⟨pc, rfl, ⟨cs, .of gP.h⟩, for_it (walk_list (K := K) (a := pc) (xs := cs)) (fun i σ H' => Same H2 H' ∧ Gro K H2 H' pc cs ((chc ls.length).map intsD) ∧ ∃ (ys : List V) (v5 v6 v7 v8 : Option V), σ = [some (.ref p1), some (.int (m : Nat)), some (.ref q1), some zv, some (.ref F), v5, v6, v7, v8, none] ∧ Gro K H2 H' F ys (((List.replicate m 0, []) :: ((chc ls.length).take i).map (starOf m ls)).map lineD) ∧ (((chc ls.length).take i).map (starOf m ls)).findSome? badLn = none) ⟨e24, gP, ys, _, _, _, _, rfl, gF4, rfl⟩ (fun i σ H' _ q => .of q.2.1.h) (fun i x σ Hz H5 hi q y => ?_) (fun σ H5 q => ?_)⟩
    · obtain ⟨e5, gP5, ys, v5, v6, v7, v8, rfl, g5, no5⟩ := q
      obtain ⟨rfl, hx⟩ := y
      obtain ⟨cd, hc1, hcd⟩ := gP5.dp.getV hx
      rw [List.getElem?_map] at hc1
      obtain ⟨c, hc, rfl⟩ := Option.map_eq_some_iff.mp hc1
      obtain ⟨cln, cm⟩ := chc_in (List.mem_of_getElem? hc)
      obtain ⟨pcc, rfl, hpcc⟩ := hcd.ints_tup
      dsimp only [gName]
      refine sq_go ⟨_, rfl, ?_⟩
      refine sq_go ⟨Nat.zero_le _, fun t0 ht0 => ?_⟩
      have n6 := Same.new (o := HO.tup []) ht0
      have d0 : Dp K (upd H5 t0 (HO.tup [])) (.ref t0) (rowsD []) := .tup (.of upd_same) .nil
      have e6 := e5.trans n6
      have g6 := g5.same n6
      have gP6 := gP5.same n6
      have hpcc6 := n6.seqT hpcc
      have hz6 := (hz0.to e5).to n6
      generalize upd H5 t0 (HO.tup []) = H6 at *
      have tk : ((chc ls.length).take (i + 1)).map (starOf m ls) = ((chc ls.length).take i).map (starOf m ls) ++ [starOf m ls c] := by rw [take_succ_of hc, List.map_append]; rfl
      have chl : (chc ls.length).length ≤ 255 := by
        rw [(chc_perm _).length_eq, sub_eq, List.length_map, List.length_range]
        have : 2 ^ ls.length ≤ 2 ^ 8 := Nat.pow_le_pow_right (by decide) (by omega)
        omega
      refine sq_fr ⟨_, rfl, pcc, rfl, ⟨_, hpcc6⟩, for_it (walk_tup (K := K) (a := pcc) (xs := c.map V.int)) (fun j σ H' => Same H6 H' ∧ ∃ (bv rv : V) (v8 : Option V), σ = [some (.ref p1), some (.int (m : Nat)), some (.ref q1), some zv, some (.ref F), some (.ref pcc), some bv, some rv, v8, none] ∧ Dp K H' bv (intsD ((c.take j).foldl (stL ls) (List.replicate m 0, [])).1) ∧ Dp K H' rv (rowsD ((c.take j).foldl (stL ls) (List.replicate m 0, [])).2) ∧ AccOk m j ((c.take j).foldl (stL ls) (List.replicate m 0, []))) ⟨Same.refl _, zv, .ref t0, _, rfl, hz6, d0, ⟨List.length_replicate, fun r hr => absurd hr List.not_mem_nil, Nat.zero_le _⟩⟩ (fun i σ H' _ q => q.1.seqT hpcc6) (fun j x σ Hz H7 hj q y => ?_) (fun σ H7 q => ?_)⟩
      · obtain ⟨e7, bv, rv, v8', rfl, hbv, hrv, ok⟩ := q
        obtain ⟨rfl, hx2⟩ := y
        obtain ⟨kk, hk1, rfl⟩ := ints_get hx2
        obtain ⟨jj, hjj, rfl⟩ := cm kk (List.mem_of_getElem? hk1)
        have e27 := (e2.trans e6).trans e7
        obtain ⟨zl, hzl⟩ : ∃ z, z1[jj]? = some z := ⟨_, List.getElem?_eq_getElem (by omega)⟩
        obtain ⟨l, hl1, hdl⟩ := hz1at jj zl hzl
        obtain ⟨pl, b, u, rfl, hb, hu, hv⟩ := ln_v (hdl.to e27)
        obtain ⟨pr, zr, rfl, hzr, hzrl, -, hzra⟩ := tup_view hv
        have hq7 := e27.seqT hq1
        have ol := ha.ln l (List.mem_of_getElem? hl1)
        have o12 := ha.p12 l (List.mem_of_getElem? hl1)
        have st := ok.step ha hjj
        have el : ls.getD ((jj : Int)).toNat ([], []) = l := by rw [Int.toNat_natCast, List.getD_eq_getElem?_getD, hl1]; rfl
        have fold : (c.take (j + 1)).foldl (stL ls) (List.replicate m 0, []) = stL ls ((c.take j).foldl (stL ls) (List.replicate m 0, [])) (jj : Int) := by
          rw [take_succ_of hk1, List.foldl_append]
          rfl
        have jl : j < c.length := (List.getElem?_eq_some_iff.mp hk1).1
        have okn := ok.n
        have okl := ok.l
        rw [fold]
        clear fold
        generalize (c.take j).foldl (stL ls) (List.replicate m 0, []) = acc at *
        dsimp only
        refine sq_go ⟨_, rfl, _, rfl, _, rfl, q1, z1, (jj : Int), .ref pl, rfl, rfl, hq7, atI_nat hzl, pl, [b, .ref pr], 0, b, rfl, rfl, hb, rfl, bv, b, acc.1, l.1, 1, rfl, hbv, hu, ⟨by decide, by decide⟩, by rw [okl]; omega, fun H8 r8 e8 hr8 => ?_⟩
        obtain ⟨pq, zq, rfl, hzq, hzqa⟩ := hrv.tup_inv
        have lq := hzqa.length
        rw [List.length_map] at lq
        refine ⟨_, rfl, _, rfl, _, rfl, q1, z1, (jj : Int), .ref pl, rfl, rfl, e8.seqT hq7, atI_nat hzl, pl, [b, .ref pr], 1, .ref pr, rfl, rfl, e8.seqT hb, rfl, pq, pr, zq, zr, rfl, rfl, e8.seqT hzq, e8.seqT hzr, by omega, fun H9 r9 e9 h9 => ⟨_, rfl, _, rfl, q1, z1, (jj : Int), .ref pl, rfl, rfl, (e8.trans e9).seqT hq7, atI_nat hzl, pl, [b, .ref pr], 0, b, rfl, rfl, (e8.trans e9).seqT hb, rfl, Nat.le_of_ble_eq_true rfl, fun tA htA => ⟨r9, tA, _, _, rfl, rfl, (Same.new htA).seqT h9, .of upd_same, ?_, fun HB rB eB hB => ?_⟩⟩⟩
        · rw [List.length_append, List.length_singleton]; omega
        · have eX := e9.trans ((Same.new htA).trans eB)
          have eY := e8.trans eX
          refine ⟨e7.trans eY, r8, .ref rB, _, rfl, ?_, ?_, st⟩
          · unfold stL
            rw [el]
            exact hr8.to eX
          · unfold stL
            rw [el]
            show Dp K HB (.ref rB) (.tuple ((acc.2 ++ l.2 ++ [l.1]).map intsD))
            rw [List.map_append, List.map_append]
            exact .tup hB (((hzqa.to eY).append (hzra.to eY)).append (.cons (hu.to eY) .nil))
      · obtain ⟨e7, bv, rv, v8', rfl, hbv, hrv, ok⟩ := q
        rw [List.length_map, List.take_length, ← starOf_eq] at hbv hrv ok
        have g7 := g6.same e7
        have gP7 := gP6.same e7
        have yl := g7.dp.length
        rw [List.length_map, List.length_cons, List.length_map, List.length_take] at yl
        have mem : starOf m ls c ∈ (chc ls.length).map (starOf m ls) := List.mem_map.mpr ⟨c, List.mem_of_getElem? hc, rfl⟩
        have spl : (chc ls.length).map (starOf m ls) = ((chc ls.length).take i).map (starOf m ls) ++ starOf m ls c :: ((chc ls.length).drop (i + 1)).map (starOf m ls) := by
          conv => lhs; rw [split_at hc]
          rw [List.map_append, List.map_cons]
        have okn := ok.n
        dsimp only
        refine ⟨_, rfl, .inl ⟨rfl, _, .of g7.h⟩, _, rfl, _, rfl, bv, rv, (starOf m ls c).1, (starOf m ls c).2, rfl, hbv, hrv, fun h => ?_, fun r hr h => ?_, by omega, fun no H8 u e8 hu => ?_, fun n e => ?_⟩
        · have := ok.l
          rw [h] at this
          simp at this
          omega
        · have := ok.r r hr
          rw [h] at this
          simp at this
          omega
        · have g8 := g7.same e8
          have gP8 := gP7.same e8
          refine ⟨F, ys, u, rfl, rfl, g8.h, slt (by omega), ((e6.trans e7).trans e8).mut g8.z, gP8.off (fun h => nFP h.symm) g8.h, ys ++ [u], _, _, _, _, rfl, ?_, ?_⟩
          · rw [tk, ← List.cons_append, List.map_append]
            exact g8.app hu (noList_ln _)
          · rw [tk, List.findSome?_append, no5]
            show ([starOf m ls c].findSome? badLn) = none
            rw [List.findSome?_cons, show badLn (starOf m ls c) = none from no]
            rfl
        · exact ((kbad n (by rw [spl]; exact first_bad no5 e)).to ((e2.trans e6).trans e7))
    · obtain ⟨e5, gP5, ys, v5, v6, v7, v8, rfl, g5, no5⟩ := q
      have lc := gP5.dp.length
      rw [List.length_map] at lc
      rw [lc, List.take_length] at g5 no5
      dsimp only
      have chl : (chc ls.length).length ≤ 255 := by
        rw [(chc_perm _).length_eq, sub_eq, List.length_map, List.length_range]
        have : 2 ^ ls.length ≤ 2 ^ 8 := Nat.pow_le_pow_right (by decide) (by omega)
        omega
      refine ⟨_, rfl, _, rfl, m, .ref F, starL m ls, rfl, .lst (.of g5.h) g5.dp, fun l hl => ?_, ?_, setW_out (BS := BS) (BU := BU) (outR_to (kset no5) (e2.trans e5))⟩
      · rcases List.mem_cons.mp hl with rfl | hl
        · exact ⟨fun r hr => absurd hr List.not_mem_nil, Nat.zero_le _⟩
        · obtain ⟨c, hc, rfl⟩ := List.mem_map.mp hl
          have ok := star_ok ha hc
          have okn := ok.n
          obtain ⟨cln, _⟩ := chc_in hc
          refine ⟨fun r hr h => ?_, by omega⟩
          have := ok.r r hr
          rw [h] at this
          simp at this
          omega
      · show (_ :: _).length ≤ 1000
        rw [List.length_cons, List.length_map]
        omega
end
end Ws
/-! ## H27 -/
namespace Sq
def rowAt (base : Row) (pers : List Row) (ts : List Int) : Row := (pers.zip ts).foldl (fun r pt => addk r pt.1 pt.2) base
def sumsOf (q : Sqr) (gap : Row) : List Int := q.ws.map fun w => dotp w gap
def turnsOf (base : Row) (pers : List Row) (q : Sqr) (row : Row) : Option (List Int) :=
  if (sumsOf q (addk row base (-1))).any (fun x => decide (x < 0) || decide (x % q.size ≠ 0)) then none
  else if rowAt base pers ((sumsOf q (addk row base (-1))).map (· / q.size)) = row then some ((sumsOf q (addk row base (-1))).map (· / q.size)) else none
def apartOf (m : Nat) (pers : List Row) (q : Sqr) (p : Nat) : Row := (pers.zip q.ws).foldl (fun f pw => addk f pw.2 (-(pw.1.getD p 0))) ((List.range m).map fun c => if c = p then q.size else 0)
def apartB (m : Nat) (pers : List Row) (q : Sqr) (gap : Row) (p : Nat) : Option Bar :=
  if p ∈ q.ps then none else if dotp (apartOf m pers q p) gap ≠ 0 then some (.apart (apartOf m pers q p)) else none
def restB (q : Sqr) (gap : Row) (w : Row) : Option Bar := if dotp w gap % q.size ≠ 0 then some (.rest q.size w) else none
def lessB (gap : Row) (w : Row) : Option Bar := if dotp w gap < 0 then some (.less w) else none
def barOf (m : Nat) (base : Row) (pers : List Row) (q : Sqr) (row : Row) : Option Bar :=
  ((List.range m).findSome? (apartB m pers q (addk row base (-1)))).or ((q.ws.findSome? (restB q (addk row base (-1)))).or (q.ws.findSome? (lessB (addk row base (-1)))))
/-! ### bounds -/
theorem mul_bd {a b : Int} {x y : Nat} (ha : a.natAbs ≤ x) (hb : b.natAbs ≤ y) : (a * b).natAbs ≤ x * y := by
  rw [Int.natAbs_mul]; exact Nat.mul_le_mul ha hb
theorem sum_bd (c : Nat) : ∀ xs : List Int, (∀ x ∈ xs, x.natAbs ≤ c) → xs.sum.natAbs ≤ xs.length * c
  | [], _ => by simp
  | x :: xs, h => by
    have := sum_bd c xs fun y hy => h y (List.mem_cons_of_mem _ hy)
    have h1 := h x (by simp)
    have h2 := Int.natAbs_add_le x xs.sum
    rw [List.sum_cons, List.length_cons, Nat.succ_mul]
    omega
theorem sgn_bd {k : Nat} {x : Int} : (sgn k x).natAbs = x.natAbs := by
  unfold sgn; split <;> simp
def Bd (b : Nat) (rows : List Row) : Prop := ∀ r ∈ rows, ∀ x ∈ r, x.natAbs ≤ b
theorem minor_bd {b : Nat} {rows : List Row} (h : Bd b rows) (i j : Nat) : Bd b (minor rows i j) := fun r hr x hx => by
  obtain ⟨q, hq, rfl⟩ := List.mem_map.mp hr
  exact h q (List.mem_of_mem_eraseIdx hq) x (List.mem_of_mem_eraseIdx hx)
theorem getD_bd {b : Nat} {r : Row} (h : ∀ x ∈ r, x.natAbs ≤ b) (j : Nat) : (r.getD j 0).natAbs ≤ b := by
  by_cases c : j < r.length
  · exact h _ (by simp [c])
  · have : r.getD j 0 = 0 := by simp [show r[j]? = none from List.getElem?_eq_none (by omega)]
    rw [this]; simp
theorem rows_bd {b : Nat} {rows : List Row} (h : Bd b rows) (i j : Nat) : ((rows.getD i []).getD j 0).natAbs ≤ b := by
  by_cases c : i < rows.length
  · exact getD_bd (h _ (by simp [c])) j
  · have : rows.getD i [] = [] := by simp [show rows[i]? = none from List.getElem?_eq_none (by omega)]
    rw [this]; simp
theorem det_bd (b c : Nat) : ∀ (n : Nat) (rows : List Row), n ≤ c → Bd b rows → (det n rows).natAbs ≤ (c * b) ^ n
  | 0, rows, _, _ => by simp [det]
  | n + 1, rows, hn, h => by
    unfold det
    have : ∀ x ∈ ((List.range (n + 1)).map fun j => (rows.getD 0 []).getD j 0 * sgn (0 + j) (det n (minor rows 0 j))), x.natAbs ≤ b * (c * b) ^ n := fun x hx => by
      obtain ⟨j, _, rfl⟩ := List.mem_map.mp hx
      exact mul_bd (rows_bd h 0 j) (by rw [sgn_bd]; exact det_bd b c n _ (by omega) (minor_bd h 0 j))
    have := sum_bd _ _ this
    rw [List.length_map, List.length_range] at this
    refine Nat.le_trans this ?_
    rw [Nat.pow_succ]
    have h1 : (n + 1) * (b * (c * b) ^ n) ≤ c * (b * (c * b) ^ n) := Nat.mul_le_mul hn (Nat.le_refl _)
    have h2 : c * (b * (c * b) ^ n) = (c * b) ^ n * (c * b) := by rw [← Nat.mul_assoc, Nat.mul_comm]
    omega
theorem dotp_bd (a b : Nat) : ∀ (w r : Row), (∀ x ∈ w, x.natAbs ≤ a) → (∀ x ∈ r, x.natAbs ≤ b) → (dotp w r).natAbs ≤ w.length * (a * b)
  | [], r, _, _ => by simp [dotp]
  | x :: w, [], _, _ => by simp [dotp]
  | x :: w, y :: r, h1, h2 => by
    have := dotp_bd a b w r (fun z hz => h1 z (List.mem_cons_of_mem _ hz)) (fun z hz => h2 z (List.mem_cons_of_mem _ hz))
    have h3 := mul_bd (h1 x (by simp)) (h2 y (by simp))
    have h4 := Int.natAbs_add_le (x * y) (dotp w r)
    show (x * y + dotp w r).natAbs ≤ _
    rw [List.length_cons, Nat.succ_mul]
    omega
theorem addk_bd {a b c : Nat} {k : Int} (hk : k.natAbs ≤ c) : ∀ (r o : Row), (∀ x ∈ r, x.natAbs ≤ a) → (∀ x ∈ o, x.natAbs ≤ b) → ∀ x ∈ addk r o k, x.natAbs ≤ a + c * b
  | [], o, _, _, x, hx => by simp [addk] at hx
  | y :: r, [], _, _, x, hx => by simp [addk] at hx
  | y :: r, z :: o, h1, h2, x, hx => by
    have hx : x ∈ (y + k * z) :: addk r o k := hx
    rcases List.mem_cons.mp hx with rfl | hx
    · have h3 := mul_bd hk (h2 z (by simp))
      have h4 := Int.natAbs_add_le y (k * z)
      have h5 := h1 y (by simp)
      omega
    · exact addk_bd hk r o (fun z hz => h1 z (List.mem_cons_of_mem _ hz)) (fun z hz => h2 z (List.mem_cons_of_mem _ hz)) x hx
theorem addk_len {r o : Row} {k : Int} (h : r.length = o.length) : (addk r o k).length = r.length := by simp [addk, h]
theorem pick_bd {b : Nat} {rows : List Row} (h : Bd b rows) (ps : List Nat) : Bd b (rows.map (pick ps)) := fun r hr x hx => by
  obtain ⟨q, hq, rfl⟩ := List.mem_map.mp hr
  obtain ⟨p, _, rfl⟩ := List.mem_map.mp hx
  exact getD_bd (h q hq) p
theorem wFor_bd {B many : Nat} {ps : List Nat} {rows : List Row} {s : Int} {i : Nat} (h : ∀ j, (cof (ps.length - 1) rows i j).natAbs ≤ B) : ∀ x ∈ wFor many ps rows s i, x.natAbs ≤ B := by
  unfold wFor
  have : ∀ (l : List Nat) (w : Row), (∀ x ∈ w, x.natAbs ≤ B) → ∀ x ∈ l.foldl (fun w j => w.set (ps.getD j 0) (if s > 0 then cof (ps.length - 1) rows i j else -cof (ps.length - 1) rows i j)) w, x.natAbs ≤ B := fun l => by
    induction l with
    | nil => exact fun w hw => hw
    | cons j l ih =>
      intro w hw
      rw [List.foldl_cons]
      refine ih _ fun x hx => ?_
      rcases List.mem_or_eq_of_mem_set hx with m | rfl
      · exact hw x m
      · split
        · exact h j
        · rw [Int.natAbs_neg]; exact h j
  exact this _ _ fun x hx => by
    have := List.eq_of_mem_replicate hx
    subst this
    simp
theorem wFor_length (many : Nat) (ps : List Nat) (rows : List Row) (s : Int) (i : Nat) : (wFor many ps rows s i).length = many := by
  unfold wFor
  have : ∀ (l : List Nat) (w : Row) (f : Nat → Nat) (g : Nat → Int), (l.foldl (fun w j => w.set (f j) (g j)) w).length = w.length := fun l => by
    induction l with
    | nil => intros; rfl
    | cons j l ih => intro w f g; rw [List.foldl_cons, ih, List.length_set]
  rw [this, List.length_replicate]
theorem cof_bd {b c n : Nat} {rows : List Row} (h : Bd b rows) (hn : n ≤ c) (i j : Nat) : (cof n rows i j).natAbs ≤ (c * b) ^ n := by
  unfold cof
  rw [sgn_bd]
  exact det_bd b c n _ hn (minor_bd h i j)
structure QB (m : Nat) (pers : List Row) (q : Sqr) : Prop where
  pl : q.ps.length = pers.length
  pm : ∀ p ∈ q.ps, p < m
  wl : q.ws.length = pers.length
  wm : ∀ w ∈ q.ws, w.length = m
  wb : ∀ w ∈ q.ws, ∀ x ∈ w, x.natAbs ≤ 1000
  s0 : 0 < q.size
  s1 : q.size ≤ 1000
theorem chs_mem (m : Nat) : ∀ (c : Nat), ∀ e ∈ chs m c, e.length = c ∧ ∀ p ∈ e, p < m
  | 0, e, he => by
    have : e = [] := by simpa [chs] using he
    subst this
    simp
  | c + 1, e, he => by
    obtain ⟨e0, h0, he⟩ := List.mem_flatMap.mp he
    obtain ⟨k, hk, rfl⟩ := List.mem_map.mp he
    obtain ⟨h1, h2⟩ := chs_mem m c e0 h0
    have hk := List.mem_range.mp hk
    refine ⟨by simp [h1], fun p hp => ?_⟩
    rcases List.mem_append.mp hp with hp | hp
    · exact h2 p hp
    · have := List.mem_singleton.mp hp
      omega
theorem qb_of {m : Nat} {pers : List Row} {q : Sqr} (h : sqOf m pers = some q) (hb : Bd 3 pers) (hn : pers.length ≤ 3) : QB m pers q := by
  obtain ⟨ps, hps, hq⟩ := List.exists_of_findSome?_eq_some h
  obtain ⟨h1, h2⟩ := chs_mem m _ ps hps
  unfold sqAt at hq
  by_cases c : det pers.length (pers.map (pick ps)) = 0
  · simp [c] at hq
  · simp only [ne_eq, c, not_false_eq_true, if_true, Option.some.injEq] at hq
    subst hq
    have hd := det_bd 3 3 _ (pers.map (pick ps)) hn (pick_bd hb ps)
    have p9 : ∀ n, n ≤ 3 → (3 * 3) ^ n ≤ 1000 := fun n hn => by
      have : n = 0 ∨ n = 1 ∨ n = 2 ∨ n = 3 := by omega
      rcases this with rfl | rfl | rfl | rfl <;> decide
    have := p9 _ hn
    refine ⟨h1, h2, by simp, fun w hw => ?_, fun w hw x hx => ?_, by simp only; omega, by simp only; omega⟩
    · obtain ⟨i, _, rfl⟩ := List.mem_map.mp hw
      exact wFor_length ..
    · obtain ⟨i, _, rfl⟩ := List.mem_map.mp hw
      refine wFor_bd (fun j => ?_) x hx
      have h3 := cof_bd (c := 3) (pick_bd hb ps) (show ps.length - 1 ≤ 3 by omega) i j
      exact Nat.le_trans h3 (p9 _ (by omega))
theorem apart_len {m : Nat} {pers : List Row} {q : Sqr} (hq : QB m pers q) (p : Nat) : ∀ (l : List (Row × Row)) (f : Row), (∀ x ∈ l, x.2.length = m) → f.length = m → (l.foldl (fun f pw => addk f pw.2 (-(pw.1.getD p 0))) f).length = m
  | [], f, _, h => h
  | x :: l, f, hl, h => by
    rw [List.foldl_cons]
    refine apart_len hq p l _ (fun y hy => hl y (List.mem_cons_of_mem _ hy)) ?_
    rw [addk_len (by rw [h, hl x (by simp)])]
    exact h
theorem apart_bd (p : Nat) : ∀ (l : List (Row × Row)) (f : Row) (a : Nat), (∀ x ∈ l, (∀ y ∈ x.1, y.natAbs ≤ 3) ∧ ∀ y ∈ x.2, y.natAbs ≤ 1000) → (∀ y ∈ f, y.natAbs ≤ a) → ∀ y ∈ l.foldl (fun f pw => addk f pw.2 (-(pw.1.getD p 0))) f, y.natAbs ≤ a + l.length * 3000
  | [], f, a, _, h => by simpa using h
  | x :: l, f, a, hl, h => by
    rw [List.foldl_cons]
    obtain ⟨h1, h2⟩ := hl x (by simp)
    have := apart_bd p l (addk f x.2 (-(x.1.getD p 0))) (a + 3 * 1000) (fun y hy => hl y (List.mem_cons_of_mem _ hy)) (addk_bd (by rw [Int.natAbs_neg]; exact getD_bd h1 p) f x.2 h h2)
    intro y hy
    have := this y hy
    rw [List.length_cons, Nat.succ_mul]
    omega
theorem zip_mem_l {α β : Type} {l : List α} {r : List β} {x : α × β} (h : x ∈ l.zip r) : x.1 ∈ l ∧ x.2 ∈ r := by
  obtain ⟨a, b⟩ := x
  exact ⟨(List.of_mem_zip h).1, (List.of_mem_zip h).2⟩
theorem apartOf_ok {m : Nat} {pers : List Row} {q : Sqr} (hq : QB m pers q) (hb : Bd 3 pers) (hn : pers.length ≤ 3) (p : Nat) : (apartOf m pers q p).length = m ∧ ∀ x ∈ apartOf m pers q p, x.natAbs ≤ 10000 := by
  have hz : ∀ x ∈ pers.zip q.ws, x.1 ∈ pers ∧ x.2 ∈ q.ws := fun x hx => zip_mem_l hx
  refine ⟨apart_len hq p _ _ (fun x hx => hq.wm _ (hz x hx).2) (by simp), fun x hx => ?_⟩
  have := apart_bd p (pers.zip q.ws) _ 1000 (fun x hx => ⟨hb _ (hz x hx).1, hq.wb _ (hz x hx).2⟩) (fun y hy => ?_) x hx
  · have h2 : (pers.zip q.ws).length ≤ 3 := by rw [List.length_zip]; omega
    have : (pers.zip q.ws).length * 3000 ≤ 3 * 3000 := Nat.mul_le_mul h2 (Nat.le_refl _)
    omega
  · obtain ⟨c, _, rfl⟩ := List.mem_map.mp hy
    have := hq.s0
    have := hq.s1
    split <;> omega
end Sq
/-! ## I27 -/
namespace Sq
theorem neg_min {left : Row} {m : Int} (h1 : m ∈ left) (h2 : ∀ y ∈ left, m ≤ y) : negB left = decide (m < 0) := by
  unfold negB
  rw [Bool.eq_iff_iff]
  simp only [List.any_eq_true, decide_eq_true_eq]
  constructor
  · rintro ⟨x, hx, hn⟩
    have := h2 x hx
    omega
  · exact fun h => ⟨m, h1, h⟩
theorem zer_max {left : Row} {m : Int} (hn : negB left = false) (h1 : m ∈ left) (h2 : ∀ y ∈ left, y ≤ m) : zerB left = decide (m = 0) := by
  have nn : ∀ y ∈ left, 0 ≤ y := fun y hy => by
    unfold negB at hn
    have := List.any_eq_false.mp hn y hy
    simpa using this
  unfold zerB
  rw [Bool.eq_iff_iff]
  simp only [List.all_eq_true, decide_eq_true_eq]
  constructor
  · exact fun h => h m h1
  · intro h x hx
    have := h2 x hx
    have := nn x hx
    omega
theorem foldl_max (l : List Int) (a : Int) : (∀ y ∈ l, y ≤ l.foldl max a) ∧ a ≤ l.foldl max a ∧ (l.foldl max a = a ∨ l.foldl max a ∈ l) := by
  induction l generalizing a with
  | nil => simp
  | cons x l ih =>
    rw [List.foldl_cons]
    obtain ⟨h1, h2, h3⟩ := ih (max a x)
    refine ⟨fun y hy => ?_, by omega, ?_⟩
    · rcases List.mem_cons.mp hy with rfl | hy
      · omega
      · exact h1 y hy
    · rcases h3 with h3 | h3
      · by_cases c : x ≤ a
        · left; omega
        · right; rw [h3]; simp; left; omega
      · right; exact List.mem_cons_of_mem _ h3
theorem mx_max {left : Row} {m : Int} (hn : negB left = false) (h1 : m ∈ left) (h2 : ∀ y ∈ left, y ≤ m) : mx left = m.toNat := by
  have nn : ∀ y ∈ left, 0 ≤ y := fun y hy => by
    unfold negB at hn
    have := List.any_eq_false.mp hn y hy
    simpa using this
  obtain ⟨a1, a2, a3⟩ := foldl_max left 0
  have := a1 m h1
  unfold mx
  have : left.foldl max 0 = m := by
    rcases a3 with e | e
    · have := nn m h1
      omega
    · have := h2 _ e
      omega
  rw [this]
theorem less_zero (left p : Row) (h : p.length = left.length) : less left p 0 = left := by
  unfold less
  induction left generalizing p with
  | nil => simp
  | cons x left ih =>
    cases p with
    | nil => simp at h
    | cons y p =>
      rw [List.zipWith_cons_cons, ih p (by simpa using h)]
      simp
theorem less_succ (left p : Row) (k : Nat) : subr (less left p k) p = less left p (k + 1) := by
  unfold subr less
  induction left generalizing p with
  | nil => simp
  | cons x left ih =>
    cases p with
    | nil => simp
    | cons y p =>
      rw [List.zipWith_cons_cons, List.zipWith_cons_cons, List.zipWith_cons_cons, ih]
      congr 1
      have : ((k + 1 : Nat) : Int) * y = k * y + y := by
        rw [Int.natCast_add, Int.add_mul]; simp
      omega
theorem less_len (left p : Row) (k : Nat) (h : p.length = left.length) : (less left p k).length = left.length := by simp [less, h]
theorem less_le {left p : Row} {k : Nat} {b : Int} (h1 : ∀ x ∈ left, x ≤ b) (h2 : ∀ x ∈ p, 0 ≤ x) : ∀ x ∈ less left p k, x ≤ b := by
  unfold less
  induction left generalizing p with
  | nil => simp
  | cons x left ih =>
    cases p with
    | nil => simp
    | cons y p =>
      intro z hz
      rw [List.zipWith_cons_cons] at hz
      rcases List.mem_cons.mp hz with rfl | hz
      · have := h1 x (by simp)
        have := h2 y (by simp)
        have := Int.mul_nonneg (show (0 : Int) ≤ k by omega) this
        omega
      · exact ih (fun x hx => h1 x (List.mem_cons_of_mem _ hx)) (fun x hx => h2 x (List.mem_cons_of_mem _ hx)) z hz
end Sq
/-! ## Q25a -/
namespace Ws
open PySem PySem.Spec PyProof.Rows L2 RZ SD
local macro_rules | `(tactic| walk_at "nf") => `(tactic| dsimp only [tNext, tSeq, tDrop, tRet, tRetN, tIfS, tAsg, gName, gTup, gCons, gNil, tVar, tC, tOp, tUn, rI, rI0, rU, rEq, rNe, tTest, tChain, tAnd, tOr, tNot, tAndV, tOrV, tNotV, tIf, tCB, tCKw, tCons, tNil, tTup, tLst, tCa, tCallS, tB, rIxT, rIxL, rIxS, cxOf, Cx.nox, Cx.wish, Cx.blk, L2.start, tPar, tPar3, tNever, tYes, tBits, tRz, tBM, rAppend, tyV, tXf, suiteEnds, gSub, rSetL, tBreak, rMax, tDGet, sDPut, tSl, tNoPart, tPart, tDisp, tPairs, tDGet2, tDNewK, tAugS, ipI, rGetL, tDIn, tDNotIn, tBM0, rPop])
local macro_rules | `(tactic| walk_at "sx") => `(tactic| simp only [wipe, List.cons.injEq, and_assoc, exists_and_left, and_true, List.map_cons, List.map_nil, List.length_cons, List.length_nil, List.cons_append, List.nil_append, List.append_nil, Nat.reduceAdd, Nat.reduceSub, List.replicate, List.getElem?_cons_zero, List.getElem?_cons_succ, List.set_cons_zero, List.set_cons_succ, Option.some.injEq, V.int.injEq, V.bl.injEq, V.ref.injEq, V.str.injEq, exists_eq_left', exists_eq_left, true_and, Bool.true_eq_false, Bool.false_eq_true, if_true, if_false])

/-! ### the law's own defs -/
def spRowL (K : PySem.W.Frag) : Sp := fun vs H Q _ => ∃ (a l c : Addr) (n m : Nat) (b : Int), vs = [.ref a, .int (m : Nat), .int b] ∧ LSt H a l c n ∧ n ≤ 900000 ∧ m ≤ 10 ∧ 1 ≤ b ∧ b ≤ 1000000000 ∧
  ∀ H' u row, Sbt a l H H' → LSt H' a l c (n + m) → Dp K H' u (intsD row) → row.length = m → (∀ x ∈ row, 0 ≤ x ∧ x < b) → Q u H'
def spMinus (K : PySem.W.Frag) : Sp := fun vs H Q _ => ∃ (av bv : V) (xs ys : List Int), vs = [av, bv] ∧ Dp K H av (intsD xs) ∧ Dp K H bv (intsD ys) ∧ xs.length ≤ 1000 ∧ ∀ H' u, Same H H' → Dp K H' u (intsD (Sq.subr xs ys)) → Q u H'
def spFills (K : PySem.W.Frag) (N : Nat) : Sp := fun vs H Q _ => ∃ (av bv : V) (left : List Int) (ps : List Sq.Row) (m : Nat), vs = [av, bv] ∧ Dp K H av (intsD left) ∧ Dp K H bv (.tuple (ps.map intsD)) ∧ left.length = m ∧ 1 ≤ m ∧ m ≤ 10 ∧ (∀ p ∈ ps, p.length = m) ∧ ps.length < N ∧ (∀ x ∈ left, x ≤ 100000) ∧ (∀ p ∈ ps, ∀ x ∈ p, 0 ≤ x) ∧ ∀ H', Same H H' → Q (.bl (Sq.fills ps left)) H'
def spPlus (K : PySem.W.Frag) : Sp := fun vs H Q _ => ∃ (av bv : V) (xs ys : List Int), vs = [av, bv] ∧ Dp K H av (intsD xs) ∧ Dp K H bv (intsD ys) ∧ xs.length ≤ 1000 ∧ ∀ H' u, Same H H' → Dp K H' u (intsD (Sq.addk xs ys 1)) → Q u H'
def hasR (ls : List Ln) (row : Sq.Row) : Bool := ls.any fun l => Sq.fills l.2 (Sq.subr row l.1)
def spHasR (K : PySem.W.Frag) : Sp := fun vs H Q _ => ∃ (v rv : V) (ls : List Ln) (row : Sq.Row) (m : Nat), vs = [v, rv] ∧ Dp K H v (linesD ls) ∧ Dp K H rv (intsD row) ∧ row.length = m ∧ 1 ≤ m ∧ m ≤ 4 ∧ (∀ x ∈ row, 0 ≤ x ∧ x ≤ 1000) ∧ (∀ l ∈ ls, OkLn m l ∧ l.2.length ≤ 6) ∧ ls.length ≤ 1000 ∧ ∀ H', Same H H' → Q (.bl (hasR ls row)) H'
abbrev s__law_row : Stmt := top 33
abbrev nm__law_row : List Str := ["state", "many_so", "bound", "place"]
abbrev pr__law_row : List Str := ["state", "many_so", "bound"]
theorem sc__law_row : FnScope nm__law_row pr__law_row (defScope s__law_row) := ⟨rfl, rfl, rfl, by decide +kernel, rfl, by decide +kernel, by decide +kernel⟩
abbrev s__law_minus : Stmt := top 38
abbrev nm__law_minus : List Str := ["row", "base", "number", "less"]
abbrev pr__law_minus : List Str := ["row", "base"]
theorem sc__law_minus : FnScope nm__law_minus pr__law_minus (defScope s__law_minus) := ⟨rfl, rfl, rfl, by decide +kernel, rfl, by decide +kernel, by decide +kernel⟩
abbrev s__law_fills : Stmt := top 35
abbrev nm__law_fills : List Str := ["left", "periods_so", "here", "step", "number", "less"]
abbrev pr__law_fills : List Str := ["left", "periods_so"]
theorem sc__law_fills : FnScope nm__law_fills pr__law_fills (defScope s__law_fills) := ⟨rfl, rfl, rfl, by decide +kernel, rfl, by decide +kernel, by decide +kernel⟩
abbrev s__law_plus : Stmt := top 40
abbrev nm__law_plus : List Str := ["one", "other", "number", "more"]
abbrev pr__law_plus : List Str := ["one", "other"]
theorem sc__law_plus : FnScope nm__law_plus pr__law_plus (defScope s__law_plus) := ⟨rfl, rfl, rfl, by decide +kernel, rfl, by decide +kernel, by decide +kernel⟩
abbrev s__law_has : Stmt := top 36
abbrev nm__law_has : List Str := ["lines_so", "row", "base", "periods_so", "number", "less"]
abbrev pr__law_has : List Str := ["lines_so", "row"]
theorem sc__law_has : FnScope nm__law_has pr__law_has (defScope s__law_has) := ⟨rfl, rfl, rfl, by decide +kernel, rfl, by decide +kernel, by decide +kernel⟩
section
variable {P : Program} {w : World} {K : PySem.W.Frag} {mg : Str → Option Value} {base : Heap}
theorem ok_rowL (B : Bl mg) (F1 : Df P w K mg base CX0 2 "_law_draw" pr__law_draw spDrawW) (D : Dt K mg "_law_row" s__law_row pr__law_row) : Df P w K mg base CX0 3 "_law_row" pr__law_row (spRowL K) := by
  refine D.ok sc__law_row (fun vs H Q E h => ?_) (fun f cdv A outer s H vs Q E hr h => ?_)
  · obtain ⟨a, l, c, n, m, b, rfl, _⟩ := h
    rfl
  · obtain ⟨a, l, c, n, m, b, rfl, hl, hn, hm, b1, b2, k⟩ := h
    refine ⟨_, (pss_one (ps_ret (pe_callTy call_tuple_of (by rfl) B.tuple PyProof.Rows.boot_tuple (pa_cons (pe_lc (own := [("place", 3)]) (g := gName 3) (tt := tYes) (by rfl) sc__law_row.nd (pi_range1 (by rfl) B.range (pa_cons (pv 1) pa_nil)) (blkOk_by (own := [("place", 3)]) (N := nm__law_row) (sc := defScope s__law_row) (by decide +kernel)) (fun _ _ _ _ _ => pg_name (i := 3) sc__law_row.nd rfl (Or.inl rfl)) (fun _ _ _ _ _ => pts_nil) (fun _ _ _ _ _ => (pe_f F1 (hr.mono (by decide)) pass0 (pa_cons (pv 0) (pa_cons (pv 2) pa_nil))))) pa_nil)))), ?_⟩
    walk_at "nf"
    walk_at "sx"
    refine ⟨_, rfl, (m : Int), rfl, by omega, by omega, fun D hD => lcD walk_range 1 hD (slt (by omega)) (fun _ y => ∃ r : Int, y = V.int r ∧ (0 ≤ r ∧ r < b)) hl (fun _ => trivial) (fun i x H1 H2 Q1 hi e1 s1 y q1 => ?_) (fun H1 ys e1 s1 hy hn1 hr1 => ?_)⟩
    · obtain ⟨rfl, rfl⟩ := y
      walk_at "nf"
      walk_at "sx"
      exact ⟨a, l, c, _, b, rfl, s1, by omega, b1, by omega, fun H3 r e3 s3 r1 r2 => q1 _ _ ⟨r, rfl, r1, r2⟩ e3 (s3.mono (by omega))⟩
    · obtain ⟨cs, rfl, hcl, hcb⟩ := vals_of hr1
      have em : ((m : Int)).toNat = m := by omega
      exact ⟨D, rfl, _, .inl ⟨.of hy, fun t ht => k _ _ cs (e1.same (Same.new ht)) ((s1.new ht).mono (by omega)) (Dp.tup_ints (.of upd_same)) (by omega) hcb⟩⟩
theorem ok_minus (B : Bl mg) (D : Dt K mg "_law_minus" s__law_minus pr__law_minus) : Df P w K mg base CX0 1 "_law_minus" pr__law_minus (spMinus K) := by
  refine D.ok sc__law_minus (fun vs H Q E h => ?_) (fun f cdv A outer s H vs Q E hr h => ?_)
  · obtain ⟨av, bv, fs, xs, rfl, _⟩ := h
    rfl
  · obtain ⟨av, bv, fs, xs, rfl, ha, hb, hz, k⟩ := h
    obtain ⟨p, rfl, hp⟩ := ha.ints_tup
    obtain ⟨q, rfl, hq⟩ := hb.ints_tup
    refine ⟨_, (pss_one (ps_ret (pe_callTy call_tuple_of (by rfl) B.tuple PyProof.Rows.boot_tuple (pa_cons (pe_lc (own := [("number", 2), ("less", 3)]) (g := gTup K 2 (gCons (gName 2) (gCons (gName 3) gNil))) (tt := tYes) (by rfl) sc__law_minus.nd (pi_zipA (by rfl) B.zip (pa_cons (pv 0) (pa_cons (pv 1) pa_nil))) (blkOk_by (own := [("number", 2), ("less", 3)]) (N := nm__law_minus) (sc := defScope s__law_minus) (by decide +kernel)) (fun _ _ _ _ _ => pg_tup rfl (pgs_cons (pg_name (i := 2) sc__law_minus.nd rfl (Or.inl rfl)) (pgs_cons (pg_name (i := 3) sc__law_minus.nd rfl (Or.inl rfl)) pgs_nil))) (fun _ _ _ _ _ => pts_nil) (fun _ _ _ _ _ => (pe_op op_sub (pv 2) (pv 3)))) pa_nil)))), ?_⟩
    walk_at "nf"
    walk_at "sx"
    refine ⟨_, rfl, _, rfl, p, q, _, _, rfl, .inr ⟨hp, hq, fun D hD => lcS walk_zipT hD (by simp only [List.length_map]; exact slt (by omega)) (fun i y => y = .int (fs.getD i 0 - xs.getD i 0)) (fun H1 e => ⟨e.seqT hp, e.seqT hq⟩) (fun i x H1 H2 Q1 hi e y q1 => ?_) (fun H1 ys e hD1 hn hr => ?_)⟩⟩
    · obtain ⟨T, x1, x2, rfl, hT, rfl, h1, h2⟩ := y
      obtain ⟨rfl, rfl, m1, m2⟩ := pair_at hi h1 h2
      walk_at "nf"
      refine ⟨T, _, rfl, .of upd_same, rfl, ?_⟩
      walk_at "sx"
      exact q1 _ _ rfl (Same.new hT)
    · have ev := vals_int (f := fun i => fs.getD i 0 - xs.getD i 0) hn hr
      simp only [List.length_map] at ev
      rw [zip_range (fun a b => a - b)] at ev
      exact ⟨D, rfl, _, .inl ⟨.of (by rw [hD1, ev]; rfl), fun l hl => k _ _ (e.then_new hl) (Dp.tup_ints (.of upd_same))⟩⟩
theorem plus_addk : ∀ xs ys : List Int, List.zipWith (fun a b => a + b) xs ys = Sq.addk xs ys 1
  | [], _ => by simp [Sq.addk]
  | _ :: _, [] => by simp [Sq.addk]
  | x :: xs, y :: ys => by
    show (x + y) :: List.zipWith _ xs ys = (x + 1 * y) :: Sq.addk xs ys 1
    rw [plus_addk xs ys, Int.one_mul]
theorem ok_plus (B : Bl mg) (D : Dt K mg "_law_plus" s__law_plus pr__law_plus) : Df P w K mg base CX0 1 "_law_plus" pr__law_plus (spPlus K) := by
  refine D.ok sc__law_plus (fun vs H Q E h => ?_) (fun f cdv A outer s H vs Q E hr h => ?_)
  · obtain ⟨av, bv, fs, xs, rfl, _⟩ := h
    rfl
  · obtain ⟨av, bv, fs, xs, rfl, ha, hb, hz, k⟩ := h
    obtain ⟨p, rfl, hp⟩ := ha.ints_tup
    obtain ⟨q, rfl, hq⟩ := hb.ints_tup
    refine ⟨_, (pss_one (ps_ret (pe_callTy call_tuple_of (by rfl) B.tuple PyProof.Rows.boot_tuple (pa_cons (pe_lc (own := [("number", 2), ("more", 3)]) (g := gTup K 2 (gCons (gName 2) (gCons (gName 3) gNil))) (tt := tYes) (by rfl) sc__law_plus.nd (pi_zipA (by rfl) B.zip (pa_cons (pv 0) (pa_cons (pv 1) pa_nil))) (blkOk_by (own := [("number", 2), ("more", 3)]) (N := nm__law_plus) (sc := defScope s__law_plus) (by decide +kernel)) (fun _ _ _ _ _ => pg_tup rfl (pgs_cons (pg_name (i := 2) sc__law_plus.nd rfl (Or.inl rfl)) (pgs_cons (pg_name (i := 3) sc__law_plus.nd rfl (Or.inl rfl)) pgs_nil))) (fun _ _ _ _ _ => pts_nil) (fun _ _ _ _ _ => (pe_op op_add (pv 2) (pv 3)))) pa_nil)))), ?_⟩
    walk_at "nf"
    walk_at "sx"
    refine ⟨_, rfl, _, rfl, p, q, _, _, rfl, .inr ⟨hp, hq, fun D hD => lcS walk_zipT hD (by simp only [List.length_map]; exact slt (by omega)) (fun i y => y = .int (fs.getD i 0 + xs.getD i 0)) (fun H1 e => ⟨e.seqT hp, e.seqT hq⟩) (fun i x H1 H2 Q1 hi e y q1 => ?_) (fun H1 ys e hD1 hn hr => ?_)⟩⟩
    · obtain ⟨T, x1, x2, rfl, hT, rfl, h1, h2⟩ := y
      obtain ⟨rfl, rfl, m1, m2⟩ := pair_at hi h1 h2
      walk_at "nf"
      refine ⟨T, _, rfl, .of upd_same, rfl, ?_⟩
      walk_at "sx"
      exact q1 _ _ rfl (Same.new hT)
    · have ev := vals_int (f := fun i => fs.getD i 0 + xs.getD i 0) hn hr
      simp only [List.length_map] at ev
      rw [zip_range (fun a b => a + b)] at ev
      exact ⟨D, rfl, _, .inl ⟨.of (by rw [hD1, ev, plus_addk]), fun l hl => k _ _ (e.then_new hl) (Dp.tup_ints (.of upd_same))⟩⟩
theorem fills0 (D : Dt K mg "_law_fills" s__law_fills pr__law_fills) : Df P w K mg base CX0 1 "_law_fills" pr__law_fills (spFills K 0) := by
  refine D.ok sc__law_fills (fun vs H Q E h => ?_) (fun f cdv A outer s H vs Q E hr h => ?_)
  · obtain ⟨av, bv, left, ps, m, rfl, _⟩ := h
    rfl
  · obtain ⟨av, bv, left, ps, m, rfl, _, _, _, _, _, _, h, _⟩ := h
    omega
theorem ok_fills {N d : Nat} (B : Bl mg) (F1 : Df P w K mg base CX0 d "_law_fills" pr__law_fills (spFills K N)) (D : Dt K mg "_law_fills" s__law_fills pr__law_fills) : Df P w K mg base CX0 (d + 1) "_law_fills" pr__law_fills (spFills K (N + 1)) := by
  refine D.ok sc__law_fills (fun vs H Q E h => ?_) (fun f cdv A outer s H vs Q E hr h => ?_)
  · obtain ⟨av, bv, left, ps, m, rfl, _⟩ := h
    rfl
  · obtain ⟨av, bv, left, ps, m, rfl, ha, hb, hl, m1, m10, hpl, hpn, hlb, hpp, k⟩ := h
    obtain ⟨p, rfl, hp⟩ := ha.ints_tup
    obtain ⟨b, zs, rfl, hz, hzl, hzat, hza⟩ := tup_view hb
    refine ⟨_, (pss_cons (ps_if (pt_cmpR op_lt (pe_callB (cr_minT rfl (hu65 hr)) (by rfl) B.min boot_min (pa_cons (pv 0) pa_nil)) pe_int (nomark _)) (pss_one (ps_ret pe_bl)) pss_nil) (pss_cons (ps_if (PW.pt (pw_or (pt_cmpR op_eq (pe_callB (cr_maxT rfl (hu65 hr)) (by rfl) B.max boot_max (pa_cons (pv 0) pa_nil)) pe_int (nomark _)) (pw_or1 (pt_cmpR (op_eqD (hu64 hr)) (pv 1) (pe_tup pa_nil) (nomark _))))) (pss_one (ps_ret (pe_cmpR op_eq (pe_callB (cr_maxT rfl (hu65 hr)) (by rfl) B.max boot_max (pa_cons (pv 0) pa_nil)) pe_int (nomark _)))) pss_nil) (pss_cons (ps_set (i := 2) sc__law_fills.nd rfl (Or.inl rfl) (pv 0)) (pss_cons (ps_for PassesOwn.never rfl (pi_range1 (by rfl) B.range (pa_cons (pe_op op_add (pe_callB (cr_maxT rfl (hu65 hr)) (by rfl) B.max boot_max (pa_cons (pv 0) pa_nil)) pe_int) pa_nil)) (pg_name (i := 3) sc__law_fills.nd rfl (Or.inl rfl)) (pss_cons (ps_if (PW.pt (pw_and (pt_cmpR op_ge (pe_callB (cr_minT rfl (hu65 hr)) (by rfl) B.min boot_min (pa_cons (pv 2) pa_nil)) pe_int (nomark _)) (pw_and1 (pt_val (pe_f F1 (hr.mono (by omega)) pass0 (pa_cons (pv 2) (pa_cons (pe_slice (show SlR _ (rSlA K) from sl_tupA) (pv 1) (po_some pe_int) po_none) pa_nil))))))) (pss_one (ps_ret pe_bl)) pss_nil) (pss_one (ps_set (i := 2) sc__law_fills.nd rfl (Or.inl rfl) (pe_callTy call_tuple_of (by rfl) B.tuple PyProof.Rows.boot_tuple (pa_cons (pe_lc (own := [("number", 4), ("less", 5)]) (g := gTup K 2 (gCons (gName 4) (gCons (gName 5) gNil))) (tt := tYes) (by rfl) sc__law_fills.nd (pi_zipA (by rfl) B.zip (pa_cons (pv 2) (pa_cons (pe_ix ix_tup (pv 1) pe_int (fun _ _ => rfl)) pa_nil))) (blkOk_by (own := [("number", 4), ("less", 5)]) (N := nm__law_fills) (sc := defScope s__law_fills) (by decide +kernel)) (fun _ _ _ _ _ => pg_tup rfl (pgs_cons (pg_name (i := 4) sc__law_fills.nd rfl (Or.inl rfl)) (pgs_cons (pg_name (i := 5) sc__law_fills.nd rfl (Or.inl rfl)) pgs_nil))) (fun _ _ _ _ _ => pts_nil) (fun _ _ _ _ _ => (pe_op op_sub (pv 4) (pv 5)))) pa_nil)))))) (pss_one (ps_ret pe_bl)))))), ?_⟩
    dsimp only [cxOf, Cx.nox, L2.start]
    refine sq_if0 ⟨_, rfl, p, left, rfl, hp, by omega, fun m0 h01 h02 => ⟨_, _, rfl, rfl, _, rfl, ?_⟩⟩
    rw [← Sq.neg_min h01 h02]
    cases hn : Sq.negB left with
    | true =>
      have ef : Sq.fills ps left = false := by cases ps <;> simp [Sq.fills, hn]
      rw [ef] at k
      exact iteT (k _ (Same.refl _))
    | false =>
      refine iteF ?_
      refine sq_if0 ⟨_, rfl, p, left, rfl, hp, by omega, fun m2 h21 h22 => ⟨rfl, _, rfl, ?_⟩⟩
      have ez : decide (V.int m2 = V.int 0) = Sq.zerB left := by
        rw [Sq.zer_max hn h21 h22]
        exact decide_eq_decide.mpr ⟨fun e => V.int.inj e, fun e => by rw [e]⟩
      rw [ez]
      cases hzr : Sq.zerB left with
      | true =>
        have ef : Sq.fills ps left = true := by cases ps <;> simp [Sq.fills, hn, hzr]
        rw [ef] at k
        refine iteT ⟨_, rfl, p, left, rfl, hp, by omega, fun m3 h31 h32 => ⟨rfl, ?_⟩⟩
        have e3 : decide (V.int m3 = V.int 0) = true := by
          rw [← hzr, Sq.zer_max hn h31 h32]
          exact decide_eq_decide.mpr ⟨fun e => V.int.inj e, fun e => by rw [e]⟩
        show Q (.bl (decide (V.int m3 = V.int 0))) H
        rw [e3]
        exact k _ (Same.refl _)
      | false =>
        refine iteF ⟨_, rfl, Nat.zero_le _, fun p2 hp2 => ⟨_, .tuple [], hb.to (Same.new hp2), .tup (.of upd_same) .nil, (SN.rowsT ps).shaped (by decide), (SN.tuple (n := 0) (ds := []) (by simp)).shaped (by decide), _, rfl, ?_⟩⟩
        have s1 : Same H (upd H p2 (HO.tup [])) := Same.new hp2
        generalize upd H p2 (HO.tup []) = H1 at s1 ⊢
        rw [eqv_nil_t]
        have hp1 := s1.seqT hp
        cases ps with
        | nil =>
          have ef : Sq.fills [] left = false := by simp [Sq.fills, hzr]
          rw [ef] at k
          refine iteT ⟨_, rfl, p, left, rfl, hp1, by omega, fun m3 h31 h32 => ⟨rfl, ?_⟩⟩
          have e3 : decide (V.int m3 = V.int 0) = false := by
            rw [← hzr, Sq.zer_max hn h31 h32]
            exact decide_eq_decide.mpr ⟨fun e => V.int.inj e, fun e => by rw [e]⟩
          show Q (.bl (decide (V.int m3 = V.int 0))) H1
          rw [e3]
          exact k _ s1
        | cons p0 ps =>
          have lp0 := hpl p0 (by simp)
          have pp0 := hpp p0 (by simp)
          obtain ⟨z0, hz0⟩ : ∃ z0, zs[0]? = some z0 := ⟨_, List.getElem?_eq_getElem (by rw [hzl]; simp)⟩
          obtain ⟨r0, hr0, hd0⟩ := hzat 0 z0 hz0
          obtain rfl : p0 = r0 := by simpa using hr0
          obtain ⟨b0, rfl, hb0⟩ := hd0.ints_tup
          have hz1 := s1.seqT hz
          have ef : Sq.fills (p0 :: ps) left = (List.range (Sq.mx left + 1)).any fun j => !Sq.negB (Sq.less left p0 j) && Sq.fills ps (Sq.less left p0 j) := by simp [Sq.fills, hn, hzr]
          refine iteF (sq_go ⟨_, rfl, ?_⟩)
          refine sq_fr ⟨_, rfl, p, left, rfl, hp1, by omega, fun m4 h41 h42 => ⟨_, _, rfl, rfl, m4 + 1, rfl, ?_, ?_, ?_⟩⟩
          · have nn := Sq.mx_max hn h41 h42
            have := hlb m4 h41
            have : 0 ≤ m4 := by
              unfold Sq.negB at hn
              have := List.any_eq_false.mp hn m4 h41
              simpa using this
            omega
          · have := hlb m4 h41
            omega
          have m4n : 0 ≤ m4 := by
            unfold Sq.negB at hn
            have := List.any_eq_false.mp hn m4 h41
            simpa using this
          have emx : (m4 + 1).toNat = Sq.mx left + 1 := by rw [Sq.mx_max hn h41 h42]; omega
          rw [emx]
          refine for_it walk_range (fun j σ H' => Same H1 H' ∧ (∃ hv v3, σ = [some (V.ref p), some (V.ref b), some hv, v3, none, none] ∧ Dp K H' hv (intsD (Sq.less left p0 j))) ∧ ∀ i, i < j → (!Sq.negB (Sq.less left p0 i) && Sq.fills ps (Sq.less left p0 i)) = false) ⟨Same.refl _, ⟨_, _, rfl, by rw [Sq.less_zero left p0 (by omega)]; exact ha.to s1⟩, fun i hi => by omega⟩ (fun _ _ _ _ _ => trivial) (fun j x σ H2 H3 hj py y => ?_) (fun σ H2 py => ?_)
          · obtain ⟨s2, ⟨hv, v3, rfl, hhv⟩, fb⟩ := py
            obtain ⟨rfl, rfl⟩ := y
            obtain ⟨ph, rfl, hph⟩ := hhv.ints_tup
            have s12 := s1.trans s2
            have hll := Sq.less_len left p0 j (by omega)
            have hle := Sq.less_le (p := p0) (k := j) hlb pp0
            have hz3 := s12.seqT hz
            have hza3 := DpAll.to hza s12
            generalize hh : Sq.less left p0 j = here at *
            have test : ∀ (R : Bool → Hp → Prop), (∀ H', Same H3 H' → R (!Sq.negB here && Sq.fills ps here) H') → tAnd (tTest (tOp (rI0 fun i j => V.bl (decide (j ≤ i))) (tCB (rMinTI K) (tCons (tVar 2) tNil)) (tC (V.int 0)))) (tB (tCa (spFills K N) E0 (tCons (tVar 2) (tCons (tSl (rSlA K) (tVar 1) (tPart (tC (V.int 1))) tNoPart) tNil))))
                [some (V.ref p), some (V.ref b), some (V.ref ph), some (V.int (0 + (j : Int))), none, none] H3 R := fun R q => by
              refine ⟨_, rfl, ph, here, rfl, hph, by omega, fun m5 h51 h52 => ⟨_, _, rfl, rfl, _, rfl, ?_⟩⟩
              have en := Sq.neg_min h51 h52
              cases hn5 : Sq.negB here with
              | true =>
                rw [hn5] at q en
                have c : m5 < 0 := of_decide_eq_true en.symm
                rw [decide_eq_false (by omega)]
                exact iteF (q _ (Same.refl _))
              | false =>
                rw [hn5] at q en
                have c : ¬ m5 < 0 := of_decide_eq_false en.symm
                rw [decide_eq_true (by omega)]
                refine iteT ⟨_, rfl, _, rfl, _, rfl, ?_⟩
                dsimp only [tNoPart, tNil]
                refine sl_ok hz3 fun r H4 e4 h4 => ?_
                have hps : Dp K H4 (.ref r) (.tuple (ps.map intsD)) := by
                  rw [show cutV zs (some 1) none = zs.drop 1 from cutV_from zs 1] at h4
                  exact .tup h4 (DpAll.to (show DpAll K H3 (zs.drop 1) (ps.map intsD) from hza3.drop 1) e4)
                refine ⟨_, _, here, ps, m, rfl, hhv.to e4, hps, by omega, m1, m10, fun x hx => hpl x (List.mem_cons_of_mem _ hx), by rw [List.length_cons] at hpn; omega, fun x hx => hle x hx, fun x hx => hpp x (List.mem_cons_of_mem _ hx), fun H5 e5 => ⟨_, rfl, q H5 (e4.trans e5)⟩⟩
            refine sq_if0 (test _ fun H4 e4 => ?_)
            cases hfit : (!Sq.negB here && Sq.fills ps here) with
            | true =>
              have e5 : Sq.fills (p0 :: ps) left = true := by
                rw [ef, List.any_eq_true]
                exact ⟨j, List.mem_range.mpr (by omega), by rw [hh]; exact hfit⟩
              rw [e5] at k
              exact iteT (k _ (s12.trans e4))
            | false =>
              refine iteF ?_
              have hp4 := e4.seqT hph
              have hb4 := (s12.trans e4).seqT hb0
              refine ⟨_, rfl, _, rfl, b, _, 0, _, rfl, rfl, e4.seqT hz3, atI_nat hz0, ph, b0, _, _, rfl, .inr ⟨hp4, hb4, fun D hD => lcS walk_zipT hD (by simp only [List.length_map]; exact slt (by omega)) (fun i y => y = .int (here.getD i 0 - p0.getD i 0)) (fun H1 e => ⟨e.seqT hp4, e.seqT hb4⟩) (fun i x H5 H6 Q1 hi e y q1 => ?_) (fun H5 ys e hD1 hn hr => ?_)⟩⟩
              · obtain ⟨T, x1, x2, rfl, hT, rfl, h1, h2⟩ := y
                obtain ⟨rfl, rfl, m1, m2⟩ := pair_at hi h1 h2
                walk_at "nf"
                refine ⟨T, _, rfl, .of upd_same, rfl, ?_⟩
                walk_at "sx"
                exact q1 _ _ rfl (Same.new hT)
              · have ev := vals_int (f := fun i => here.getD i 0 - p0.getD i 0) hn hr
                simp only [List.length_map] at ev
                rw [zip_range (fun a b => a - b)] at ev
                refine ⟨D, _, rfl, .inl ⟨.of (by rw [hD1, ev]), fun l hl => ⟨(s2.trans e4).trans (e.then_new hl), ⟨.ref l, _, rfl, ?_⟩, fun i hi => ?_⟩⟩⟩
                · rw [← Sq.less_succ, hh]
                  exact Dp.tup_ints (.of upd_same)
                · by_cases c : i = j
                  · rw [c, hh]; exact hfit
                  · exact fb i (by omega)
          · obtain ⟨s2, ⟨hv, v3, rfl, hhv⟩, fb⟩ := py
            have e5 : Sq.fills (p0 :: ps) left = false := by
              rw [ef, List.any_eq_false]
              intro i hi
              rw [fb i (List.mem_range.mp hi)]
              decide
            rw [e5] at k
            exact k _ (s1.trans s2)
theorem OkLn.per {m : Nat} {l : Ln} (h : OkLn m l) : ∀ p ∈ l.2, ∀ x ∈ p, 0 ≤ x := fun p hp x hx => ((h.pl p hp).2 x hx).1
theorem ok_has (B : Bl mg) (F1 : Df P w K mg base CX0 8 "_law_fills" pr__law_fills (spFills K 7)) (D : Dt K mg "_law_has" s__law_has pr__law_has) : Df P w K mg base CX0 9 "_law_has" pr__law_has (spHasR K) := by
  refine D.ok sc__law_has (fun vs H Q E h => ?_) (fun f cdv A outer s H vs Q E hr h => ?_)
  · obtain ⟨v, rv, ls, row, m, rfl, _⟩ := h
    rfl
  · obtain ⟨v, rv, ls, row, m, rfl, hd, hrow, rl, m1, m4, rb, ok, few, k⟩ := h
    obtain ⟨p, zs, rfl, hz, hzl, hzat, hza⟩ := tup_view hd
    obtain ⟨pr, rfl, hpr⟩ := hrow.ints_tup
    refine ⟨_, (pss_cons (ps_for PassesOwn.never rfl (pi_tup (pv 0)) (pg_tup rfl (pgs_cons (pg_name (i := 2) sc__law_has.nd rfl (Or.inl rfl)) (pgs_cons (pg_name (i := 3) sc__law_has.nd rfl (Or.inl rfl)) pgs_nil))) (pss_one (ps_if (pt_val (pe_f F1 (hr.mono (by decide)) pass0 (pa_cons (pe_callTy call_tuple_of (by rfl) B.tuple PyProof.Rows.boot_tuple (pa_cons (pe_lc (own := [("number", 4), ("less", 5)]) (g := gTup K 2 (gCons (gName 4) (gCons (gName 5) gNil))) (tt := tYes) (by rfl) sc__law_has.nd (pi_zipA (by rfl) B.zip (pa_cons (pv 1) (pa_cons (pv 2) pa_nil))) (blkOk_by (own := [("number", 4), ("less", 5)]) (N := nm__law_has) (sc := defScope s__law_has) (by decide +kernel)) (fun _ _ _ _ _ => pg_tup rfl (pgs_cons (pg_name (i := 4) sc__law_has.nd rfl (Or.inl rfl)) (pgs_cons (pg_name (i := 5) sc__law_has.nd rfl (Or.inl rfl)) pgs_nil))) (fun _ _ _ _ _ => pts_nil) (fun _ _ _ _ _ => (pe_op op_sub (pv 4) (pv 5)))) pa_nil)) (pa_cons (pv 3) pa_nil)))) (pss_one (ps_ret pe_bl)) pss_nil))) (pss_one (ps_ret pe_bl))), ?_⟩
    dsimp only [cxOf, Cx.nox, L2.start]
    refine sq_fr ⟨_, rfl, p, rfl, ⟨zs, hz⟩, for_it (walk_tup (K := K) (a := p) (xs := zs)) (fun i σ H' => Same H H' ∧ (∃ v2 v3 v4 v5 : Option V, σ = [some (.ref p), some (.ref pr), v2, v3, v4, v5]) ∧ hasR (ls.take i) row = false) ⟨Same.refl _, ⟨_, _, _, _, rfl⟩, rfl⟩ (fun i σ H' _ q => q.1.seqT hz) (fun i x σ Hz H1 hi q y => ?_) (fun σ H1 q => ?_)⟩
    · obtain ⟨e1, ⟨v2, v3, v4, v5, rfl⟩, no⟩ := q
      obtain ⟨rfl, hx⟩ := y
      obtain ⟨l, hl1, hdl⟩ := hzat i _ hx
      obtain ⟨b, u, v, rfl, hb, hu, hv⟩ := ln_v (hdl.to e1)
      obtain ⟨okl, l6⟩ := ok l (List.mem_of_getElem? hl1)
      obtain ⟨pb, rfl, hpb⟩ := hu.ints_tup
      have hpr1 := e1.seqT hpr
      have tk : hasR (ls.take (i + 1)) row = Sq.fills l.2 (Sq.subr row l.1) := by
        rw [take_succ_of hl1]
        unfold hasR at *
        rw [List.any_append, no, List.any_cons, List.any_nil, Bool.or_false, Bool.false_or]
      refine ⟨b, _, rfl, hb, rfl, _, _, rfl, _, _, rfl, rfl, ?_⟩
      refine ⟨_, rfl, _, rfl, pr, pb, _, _, rfl, .inr ⟨hpr1, hpb, fun D hD => lcS walk_zipT hD (by simp only [List.length_map]; exact slt (by omega)) (fun i y => y = .int (row.getD i 0 - l.1.getD i 0)) (fun H1 e => ⟨e.seqT hpr1, e.seqT hpb⟩) (fun i x H1 H2 Q1 hi e y q1 => ?_) (fun H2 ys e2 hD1 hn hr => ?_)⟩⟩
      · obtain ⟨T, x1, x2, rfl, hT, rfl, h1, h2⟩ := y
        obtain ⟨rfl, rfl, m1, m2⟩ := pair_at hi h1 h2
        exact ⟨T, _, rfl, .of upd_same, rfl, _, _, rfl, _, _, rfl, rfl, rfl, _, rfl, _, rfl, _, _, rfl, rfl, q1 _ _ rfl (Same.new hT)⟩
      · have ev := vals_int (f := fun i => row.getD i 0 - l.1.getD i 0) hn hr
        simp only [List.length_map] at ev
        rw [zip_range (fun a b => a - b)] at ev
        have sl : (Sq.subr row l.1).length = m := by
          show (List.zipWith _ row l.1).length = m
          rw [List.length_zipWith, rl, okl.bl, Nat.min_self]
        refine ⟨D, ys, rfl, .inl ⟨.of hD1, fun t ht => ?_⟩⟩
        have n3 := e2.then_new (o := HO.tup ys) ht
        have dl : Dp K (upd H2 t (HO.tup ys)) (.ref t) (intsD (Sq.subr row l.1)) := Dp.tup_ints (.of (by rw [upd_same, ev]; rfl))
        generalize upd H2 t (HO.tup ys) = H3 at *
        refine ⟨_, rfl, .ref t, v, Sq.subr row l.1, l.2, m, rfl, dl, hv.to n3, sl, m1, by omega, fun p hp => (okl.pl p hp).1, by omega, fun x hx => ?_, okl.per, fun H4 e4 => ⟨_, rfl, ?_⟩⟩
        · obtain ⟨i, hi, rfl⟩ := List.getElem_of_mem hx
          have hi2 : i < row.length ∧ i < l.1.length := by
            have : i < (List.zipWith (fun n m => n - m) row l.1).length := hi
            rw [List.length_zipWith] at this
            omega
          have e : (Sq.subr row l.1)[i] = row[i]'hi2.1 - l.1[i]'hi2.2 := List.getElem_zipWith ..
          rw [e]
          have := rb _ (List.getElem_mem hi2.1)
          have := okl.bb _ (List.getElem_mem hi2.2)
          omega
        · have e14 := (e1.trans n3).trans e4
          cases z : Sq.fills l.2 (Sq.subr row l.1) with
          | true =>
            have := k _ e14
            have ht : hasR ls row = true := List.any_eq_true.mpr ⟨l, List.mem_of_getElem? hl1, z⟩
            rw [ht] at this
            exact iteT this
          | false =>
            rw [z] at tk
            exact iteF ⟨e14, ⟨_, _, _, _, rfl⟩, tk⟩
    · obtain ⟨e1, _, no⟩ := q
      rw [hzl, List.take_length] at no
      have := k _ e1
      rw [no] at this
      exact this
end
end Ws
/-! ## Q25b -/
namespace Ws
open PySem PySem.Spec PyProof.Rows L2 RZ SD
local macro_rules | `(tactic| walk_at "nf") => `(tactic| dsimp only [tNext, tSeq, tDrop, tRet, tRetN, tIfS, tAsg, gName, gTup, gCons, gNil, tVar, tC, tOp, tUn, rI, rI0, rU, rEq, rNe, tTest, tChain, tAnd, tOr, tNot, tAndV, tOrV, tNotV, tIf, tCB, tCKw, tCons, tNil, tTup, tLst, tCa, tCallS, tB, rIxT, rIxL, rIxS, cxOf, Cx.nox, Cx.wish, Cx.blk, L2.start, tPar, tPar3, tNever, tYes, tBits, tRz, tBM, rAppend, tyV, tXf, suiteEnds, gSub, rSetL, tBreak, rMax, tDGet, sDPut, tSl, tNoPart, tPart, tDisp, tPairs, tDGet2, tDNewK, tAugS, ipI, rGetL, tDIn, tDNotIn, tBM0, rPop])
local macro_rules | `(tactic| walk_at "sx") => `(tactic| simp only [wipe, List.cons.injEq, and_assoc, exists_and_left, and_true, List.map_cons, List.map_nil, List.length_cons, List.length_nil, List.cons_append, List.nil_append, List.append_nil, Nat.reduceAdd, Nat.reduceSub, List.replicate, List.getElem?_cons_zero, List.getElem?_cons_succ, List.set_cons_zero, List.set_cons_succ, Option.some.injEq, V.int.injEq, V.bl.injEq, V.ref.injEq, V.str.injEq, exists_eq_left', exists_eq_left, true_and, Bool.true_eq_false, Bool.false_eq_true, if_true, if_false])

structure ClL (m : Nat) (l : Ln) : Prop where
  pl : ∀ r ∈ l.2, r.length = m ∧ ∀ x ∈ r, 0 ≤ x
  few : l.2.length ≤ 1000
structure ClIn (m : Nat) (ls : List Ln) : Prop where
  m1 : 1 ≤ m
  lo : ∀ l ∈ ls, ClL m l
  few : ls.length ≤ 1000
def spClean (K : PySem.W.Frag) : Sp := fun vs H Q _ => ∃ (m : Nat) (rv : V) (raw : List Ln), vs = [rv] ∧ (Dp K H rv (linesD raw) ∨ Dp K H rv (.list (raw.map lineD))) ∧ ClIn m raw ∧ ∀ H' u, Same H H' → Dp K H' u (linesD (cnL raw)) → Q u H'
abbrev s__law_clean : Stmt := top 41
abbrev nm__law_clean : List Str := ["lines_so", "found", "base", "rows", "kept", "row", "line"]
abbrev pr__law_clean : List Str := ["lines_so"]
theorem sc__law_clean : FnScope nm__law_clean pr__law_clean (defScope s__law_clean) := ⟨rfl, rfl, rfl, by decide +kernel, rfl, by decide +kernel, by decide +kernel⟩
section
variable {P : Program} {w : World} {K : PySem.W.Frag} {mg : Str → Option Value} {base : Heap}
theorem ok_clean (B : Bl mg) (D : Dt K mg "_law_clean" s__law_clean pr__law_clean) : Df P w K mg base CX0 1 "_law_clean" pr__law_clean (spClean K) := by
  refine D.ok sc__law_clean (fun vs H Q E h => ?_) (fun f cdv A outer s H vs Q E hr h => ?_)
  · obtain ⟨m, rv, raw, rfl, _⟩ := h
    rfl
  · obtain ⟨m, rv, raw, rfl, hd | hd, rs, k⟩ := h
    · skip
      obtain ⟨p, zs, rfl, hz, hzl, hzat, hza⟩ := tup_view hd
      refine ⟨_, (pss_cons (ps_set (i := 1) sc__law_clean.nd rfl (Or.inl rfl) (pe_lst pa_nil)) (pss_cons (ps_for PassesOwn.never rfl (pi_tup (pv 0)) (pg_tup rfl (pgs_cons (pg_name (i := 2) sc__law_clean.nd rfl (Or.inl rfl)) (pgs_cons (pg_name (i := 3) sc__law_clean.nd rfl (Or.inl rfl)) pgs_nil))) (pss_cons (ps_set (i := 4) sc__law_clean.nd rfl (Or.inl rfl) (pe_lst pa_nil)) (pss_cons (ps_for PassesOwn.never rfl (pi_tup (pv 3)) (pg_name (i := 5) sc__law_clean.nd rfl (Or.inl rfl)) (pss_one (ps_if (PW.pt (pw_and (pt_cmpR op_gt (pe_callB (cr_maxT rfl (hu65 hr)) (by rfl) B.max boot_max (pa_cons (pv 5) pa_nil)) pe_int (nomark _)) (pw_and1 (pt_cmpR (op_notInD (hu65 hr)) (pv 5) (pv 4) (by rfl))))) (pss_one (ps_expr (pe_bm PySem.F.plainAttrs_list PySem.F.slot_list_append PySem.F.type_list_append mt_append (pv 4) (pa_cons (pv 5) pa_nil)))) pss_nil))) (pss_cons (ps_set (i := 6) sc__law_clean.nd rfl (Or.inl rfl) (pe_tup (pa_cons (pv 2) (pa_cons (pe_callTy call_tuple_of (by rfl) B.tuple PyProof.Rows.boot_tuple (pa_cons (pe_callB (cr_sortedD (hu65 hr)) (by rfl) B.sorted boot_sorted (pa_cons (pv 4) pa_nil)) pa_nil)) pa_nil)))) (pss_one (ps_if (pt_cmpR (op_notInD (hu65 hr)) (pv 6) (pv 1) (by rfl)) (pss_one (ps_expr (pe_bm PySem.F.plainAttrs_list PySem.F.slot_list_append PySem.F.type_list_append mt_append (pv 1) (pa_cons (pv 6) pa_nil)))) pss_nil)))))) (pss_one (ps_ret (pe_callTy call_tuple_of (by rfl) B.tuple PyProof.Rows.boot_tuple (pa_cons (pe_callB (cr_sortedD (hu65 hr)) (by rfl) B.sorted boot_sorted (pa_cons (pv 1) pa_nil)) pa_nil)))))), ?_⟩
      dsimp only [cxOf, Cx.nox, L2.start]
      have m1 := rs.m1
      have rf := rs.few
      refine sq_go ⟨Nat.zero_le _, fun F hF => ?_⟩
      have e0 := Same.new (o := HO.lst []) hF
      have g0 : Gro K H (upd H F (HO.lst [])) F [] [] := ⟨upd_same, .nil, hF, rfl⟩
      generalize upd H F (HO.lst []) = H0 at *
      refine sq_fr ⟨_, rfl, p, rfl, ⟨zs, e0.seqT hz⟩, for_it (walk_tup (K := K) (a := p) (xs := zs)) (fun i σ H' => Same H H' ∧ ∃ (ys : List V) (fs cs : List Ln) (v3 v4 v5 v6 v7 : Option V), σ = [some (.ref p), some (.ref F), v3, v4, v5, v6, v7] ∧ Gro K H H' F ys (fs.map lineD) ∧ Clean (raw.take i) cs ∧ fs.Nodup ∧ (∀ x, x ∈ fs ↔ x ∈ cs) ∧ fs.length ≤ i) ⟨e0, [], [], [], _, _, _, _, _, rfl, g0, .nil, List.nodup_nil, fun x => Iff.rfl, Nat.le_refl _⟩ (fun i σ H' _ q => q.1.seqT hz) (fun i x σ Hz H1 hi q y => ?_) (fun σ H1 q => ?_)⟩
      · obtain ⟨e1, ys, fs, cs, v3, v4, v5, v6, v7, rfl, g1, cl, nd, mem, fl⟩ := q
        obtain ⟨rfl, hx⟩ := y
        obtain ⟨ln, hl1, hdl⟩ := hzat i x hx
        obtain ⟨b, u, v, rfl, hb, hu, hv⟩ := ln_v (hdl.to e1)
        have rl := rs.lo ln (List.mem_of_getElem? hl1)
        obtain ⟨pv, zv, rfl, hzv, hzvl, hzvat, _⟩ := tup_view hv
        refine ⟨b, _, rfl, hb, rfl, _, _, rfl, _, _, rfl, rfl, ?_⟩
        refine sq_go ⟨Nat.zero_le _, fun R hR => ?_⟩
        have nFR : F ≠ R := ne_of_none g1.h hR
        have hRz : H R = none := by
          cases z : H R with
          | none => rfl
          | some o => rw [e1 _ _ z] at hR; cases hR
        have n2 := Same.new (o := HO.lst []) hR
        have e2 := e1.trans n2
        have r2 : Gro K H (upd H1 R (HO.lst [])) R [] [] := ⟨upd_same, .nil, hRz, rfl⟩
        have g2 := g1.same n2
        have hzv2 := n2.seqT hzv
        have hu2 := hu.to n2
        generalize upd H1 R (HO.lst []) = H2 at *
        refine sq_fr ⟨_, rfl, pv, rfl, ⟨zv, hzv2⟩, for_it (walk_tup (K := K) (a := pv) (xs := zv)) (fun j σ H' => Same H1 H' ∧ Same H H' ∧ Gro K H H' F ys (fs.map lineD) ∧ ∃ (ws : List V) (ks : List Sq.Row) (v6 v7 : Option V), σ = [some (.ref p), some (.ref F), some u, some (.ref pv), some (.ref R), v6, v7] ∧ Gro K H H' R ws (ks.map intsD) ∧ ks.Nodup ∧ (∀ r, r ∈ ks ↔ r ∈ ln.2.take j ∧ nzR r = true) ∧ ks.length ≤ j) ⟨n2, e2, g2, [], [], _, _, rfl, r2, List.nodup_nil, fun r => (by simp), Nat.le_refl _⟩ (fun j σ H' _ q => q.1.seqT hzv) (fun j x σ Hz H3 hj q y => ?_) (fun σ H3 q => ?_)⟩
        · obtain ⟨n3, e3, g3, ws, ks, v6', v7', rfl, r3, knd, kmem, kl⟩ := q
          obtain ⟨rfl, hx2⟩ := y
          obtain ⟨row, hr1, hdr⟩ := hzvat j x hx2
          obtain ⟨rp, rfl, hrp⟩ := (hdr.to n3).ints_tup
          obtain ⟨rlen, rb⟩ := rl.pl row (List.mem_of_getElem? hr1)
          have mm : ∀ r, r ∈ ln.2.take (j + 1) ∧ nzR r = true ↔ (r ∈ ln.2.take j ∧ nzR r = true) ∨ (r = row ∧ nzR r = true) := fun r => by
            rw [take_succ_of hr1, List.mem_append, List.mem_singleton]
            constructor
            · rintro ⟨h | h, z⟩
              · exact .inl ⟨h, z⟩
              · exact .inr ⟨h, z⟩
            · rintro (⟨h, z⟩ | ⟨h, z⟩)
              · exact ⟨.inl h, z⟩
              · exact ⟨.inr h, z⟩
          refine ⟨_, rfl, rp, row, rfl, hrp, by omega, fun mx h1 h2 => ⟨_, _, rfl, rfl, _, rfl, ?_⟩⟩
          rw [nz_max (rb) h1 h2]
          cases nz : nzR row with
          | false =>
            refine iteF ⟨n3, e3, g3, ws, ks, _, _, rfl, r3, knd, fun r => ?_, by omega⟩
            rw [mm, kmem]
            constructor
            · exact .inl
            · rintro (h | ⟨rfl, h⟩)
              · exact h
              · rw [nz] at h; cases h
          | true =>
            have hd3 : Dp K H3 (.ref rp) (intsD row) := hdr.to n3
            refine iteT ⟨_, rfl, _, rfl, intsD row, ks.map intsD, hd3, .lst (.of r3.h) r3.dp, (SN.ints row).shaped (by decide), (SN.rowsLi ks).shaped (by decide), _, rfl, ?_⟩
            cases cn : ((ks.map intsD).any fun z => PyData.eqv z (intsD row)) with
            | true =>
              have hin : row ∈ ks := by
                obtain ⟨d, hd1, hd2⟩ := List.any_eq_true.mp cn
                obtain ⟨r, hr, rfl⟩ := List.mem_map.mp hd1
                rw [eqv_ints] at hd2
                rw [← of_decide_eq_true hd2]
                exact hr
              refine iteF ⟨n3, e3, g3, ws, ks, _, _, rfl, r3, knd, fun r => ?_, by omega⟩
              rw [mm]
              constructor
              · exact fun h => .inl ((kmem r).mp h)
              · rintro (h | ⟨rfl, h⟩)
                · exact (kmem r).mpr h
                · exact hin
            | false =>
              have nin := any_eqv_rows cn
              have wl := r3.dp.length
              rw [List.length_map] at wl
              have zvl : zv.length = ln.2.length := hzvl
              have := rl.few
              refine iteT ⟨_, rfl, .inl ⟨rfl, _, .of r3.h⟩, _, rfl, R, ws, .ref rp, rfl, rfl, r3.h, slt (by omega), n3.mut hR, e3.mut hRz, g3.off nFR r3.h, ws ++ [.ref rp], ks ++ [row], _, _, rfl, ?_, nodup_snoc knd nin, fun r => ?_, by rw [List.length_append, List.length_singleton]; omega⟩
              · rw [List.map_append]
                exact r3.app hd3 (noList_ints row)
              · rw [mm, List.mem_append, List.mem_singleton, kmem]
                constructor
                · rintro (h | rfl)
                  · exact .inl h
                  · exact .inr ⟨rfl, nz⟩
                · rintro (h | ⟨h, _⟩)
                  · exact .inl h
                  · exact .inr h
        · obtain ⟨n3, e3, g3, ws, ks, v6', v7', rfl, r3, knd, kmem, kl⟩ := q
          obtain ⟨al, so, dp⟩ := sort_rows ks m m1 fun r hr => (rl.pl r (List.mem_of_mem_take ((kmem r).mp hr).1)).1
          dsimp only
          refine sq_go ⟨u, rfl, _, rfl, R, ws, ks.map intsD, rfl, .of r3.h, r3.dp, al, so, dp, fun zs es sp hzs hpe hor hsp => ⟨sp, zs, rfl, .inl ⟨.of upd_same, fun tp htp => ⟨Nat.le_of_ble_eq_true rfl, fun lp hlp => ?_⟩⟩⟩⟩
          obtain ⟨ks2, rfl, pe2⟩ := perm_map rowOf_ints hpe
          have cn : Canon intsD ks ks2 := ⟨(pe2.nodup_iff).mpr knd, hor, fun x => pe2.mem_iff⟩
          have ul : Unl ln.2 ks2 := ⟨cn.asc knd_row, fun r => by rw [cn.mem, kmem, List.take_of_length_le (by omega)]⟩
          have n4 : Same H3 (upd (upd (upd H3 sp (HO.lst zs)) tp (HO.tup zs)) lp (HO.tup [u, .ref tp])) := ((Same.new hsp).then_new htp).then_new hlp
          have e4 := e3.trans n4
          have g4 := g3.same n4
          have hl4 : Dp K (upd (upd (upd H3 sp (HO.lst zs)) tp (HO.tup zs)) lp (HO.tup [u, .ref tp])) (.ref lp) (lineD (ln.1, ks2)) := .tup (.of upd_same) (.cons ((hu.to n3).to n4) (.cons (.tup ((Same.new hlp).seqT (.of upd_same)) (hzs.to n4)) .nil))
          generalize upd (upd (upd H3 sp (HO.lst zs)) tp (HO.tup zs)) lp (HO.tup [u, .ref tp]) = H4 at *
          have tk : raw.take (i + 1) = raw.take i ++ [ln] := take_succ_of hl1
          have cl2 := cl.snoc ul
          rw [← tk] at cl2
          refine ⟨_, rfl, _, rfl, lineD (ln.1, ks2), fs.map lineD, hl4, .lst (.of g4.h) g4.dp, (SN.ln _).shaped (by decide), (SN.list fun d hd => ?_ : SN 4 (.list (fs.map lineD))).shaped (by decide), _, rfl, ?_⟩
          · obtain ⟨l, _, rfl⟩ := List.mem_map.mp hd
            exact .ln l
          cases cnn : ((fs.map lineD).any fun z => PyData.eqv z (lineD (ln.1, ks2))) with
          | true =>
            have hin : (ln.1, ks2) ∈ fs := by
              obtain ⟨d, hd1, hd2⟩ := List.any_eq_true.mp cnn
              obtain ⟨r, hr, rfl⟩ := List.mem_map.mp hd1
              rw [eqv_ln] at hd2
              rw [← of_decide_eq_true hd2]
              exact hr
            refine iteF ⟨e4, ys, fs, _, _, _, _, _, _, rfl, g4, cl2, nd, fun x => ?_, by omega⟩
            rw [mem, List.mem_append, List.mem_singleton]
            constructor
            · exact .inl
            · rintro (h | rfl)
              · exact h
              · exact (mem _).mp hin
          | false =>
            have nin := any_eqv_lns cnn
            have wl := g4.dp.length
            rw [List.length_map] at wl
            have := rs.few
            refine iteT ⟨_, rfl, .inl ⟨rfl, _, .of g4.h⟩, _, rfl, F, ys, .ref lp, rfl, rfl, g4.h, slt (by omega), e4.mut g4.z, ys ++ [.ref lp], fs ++ [(ln.1, ks2)], _, _, _, _, _, _, rfl, ?_, cl2, nodup_snoc nd nin, fun x => ?_, by rw [List.length_append, List.length_singleton]; omega⟩
            · rw [List.map_append]
              exact g4.app hl4 (noList_ln _)
            · rw [List.mem_append, List.mem_append, List.mem_singleton, mem]
      · obtain ⟨e1, ys, fs, cs, v3, v4, v5, v6, v7, rfl, g1, cl, nd, mem, fl⟩ := q
        obtain ⟨al, so, dp⟩ := sort_lns fs
        rw [List.take_of_length_le (by omega)] at cl
        refine ⟨_, rfl, F, ys, fs.map lineD, rfl, .of g1.h, g1.dp, al, so, dp, fun zs' es sp hzs hpe hor hsp => ⟨sp, zs', rfl, .inl ⟨.of upd_same, fun tp htp => ?_⟩⟩⟩
        obtain ⟨ks2, rfl, pe2⟩ := perm_map lnOf_ln hpe
        have cn : Canon lineD cs ks2 := ⟨(pe2.nodup_iff).mpr nd, hor, fun x => (pe2.mem_iff).trans (mem x)⟩
        have n4 : Same H1 (upd (upd H1 sp (HO.lst zs')) tp (HO.tup zs')) := (Same.new hsp).then_new htp
        have hz4 : DpAll K (upd (upd H1 sp (HO.lst zs')) tp (HO.tup zs')) zs' (ks2.map lineD) := hzs.to n4
        have ec : ks2 = cnL raw := by
          obtain rfl := cl.uniq (clean_cl raw)
          exact cn.uniq knd_ln (cnf_canon knd_ln _)
        subst ec
        exact k _ _ (e1.trans n4) (.tup (.of upd_same) hz4)
    · skip
      obtain ⟨p, zs, rfl, hz, hzl, hzat, hza⟩ := lst_view hd
      refine ⟨_, (pss_cons (ps_set (i := 1) sc__law_clean.nd rfl (Or.inl rfl) (pe_lst pa_nil)) (pss_cons (ps_for PassesOwn.never rfl (pi_list (pv 0)) (pg_tup rfl (pgs_cons (pg_name (i := 2) sc__law_clean.nd rfl (Or.inl rfl)) (pgs_cons (pg_name (i := 3) sc__law_clean.nd rfl (Or.inl rfl)) pgs_nil))) (pss_cons (ps_set (i := 4) sc__law_clean.nd rfl (Or.inl rfl) (pe_lst pa_nil)) (pss_cons (ps_for PassesOwn.never rfl (pi_tup (pv 3)) (pg_name (i := 5) sc__law_clean.nd rfl (Or.inl rfl)) (pss_one (ps_if (PW.pt (pw_and (pt_cmpR op_gt (pe_callB (cr_maxT rfl (hu65 hr)) (by rfl) B.max boot_max (pa_cons (pv 5) pa_nil)) pe_int (nomark _)) (pw_and1 (pt_cmpR (op_notInD (hu65 hr)) (pv 5) (pv 4) (by rfl))))) (pss_one (ps_expr (pe_bm PySem.F.plainAttrs_list PySem.F.slot_list_append PySem.F.type_list_append mt_append (pv 4) (pa_cons (pv 5) pa_nil)))) pss_nil))) (pss_cons (ps_set (i := 6) sc__law_clean.nd rfl (Or.inl rfl) (pe_tup (pa_cons (pv 2) (pa_cons (pe_callTy call_tuple_of (by rfl) B.tuple PyProof.Rows.boot_tuple (pa_cons (pe_callB (cr_sortedD (hu65 hr)) (by rfl) B.sorted boot_sorted (pa_cons (pv 4) pa_nil)) pa_nil)) pa_nil)))) (pss_one (ps_if (pt_cmpR (op_notInD (hu65 hr)) (pv 6) (pv 1) (by rfl)) (pss_one (ps_expr (pe_bm PySem.F.plainAttrs_list PySem.F.slot_list_append PySem.F.type_list_append mt_append (pv 1) (pa_cons (pv 6) pa_nil)))) pss_nil)))))) (pss_one (ps_ret (pe_callTy call_tuple_of (by rfl) B.tuple PyProof.Rows.boot_tuple (pa_cons (pe_callB (cr_sortedD (hu65 hr)) (by rfl) B.sorted boot_sorted (pa_cons (pv 1) pa_nil)) pa_nil)))))), ?_⟩
      dsimp only [cxOf, Cx.nox, L2.start]
      have m1 := rs.m1
      have rf := rs.few
      refine sq_go ⟨Nat.zero_le _, fun F hF => ?_⟩
      have e0 := Same.new (o := HO.lst []) hF
      have g0 : Gro K H (upd H F (HO.lst [])) F [] [] := ⟨upd_same, .nil, hF, rfl⟩
      generalize upd H F (HO.lst []) = H0 at *
      refine sq_fr ⟨_, rfl, p, rfl, ⟨zs, e0.seq hz⟩, for_it (walk_list (K := K) (a := p) (xs := zs)) (fun i σ H' => Same H H' ∧ ∃ (ys : List V) (fs cs : List Ln) (v3 v4 v5 v6 v7 : Option V), σ = [some (.ref p), some (.ref F), v3, v4, v5, v6, v7] ∧ Gro K H H' F ys (fs.map lineD) ∧ Clean (raw.take i) cs ∧ fs.Nodup ∧ (∀ x, x ∈ fs ↔ x ∈ cs) ∧ fs.length ≤ i) ⟨e0, [], [], [], _, _, _, _, _, rfl, g0, .nil, List.nodup_nil, fun x => Iff.rfl, Nat.le_refl _⟩ (fun i σ H' _ q => q.1.seq hz) (fun i x σ Hz H1 hi q y => ?_) (fun σ H1 q => ?_)⟩
      · obtain ⟨e1, ys, fs, cs, v3, v4, v5, v6, v7, rfl, g1, cl, nd, mem, fl⟩ := q
        obtain ⟨rfl, hx⟩ := y
        obtain ⟨ln, hl1, hdl⟩ := hzat i x hx
        obtain ⟨b, u, v, rfl, hb, hu, hv⟩ := ln_v (hdl.to e1)
        have rl := rs.lo ln (List.mem_of_getElem? hl1)
        obtain ⟨pv, zv, rfl, hzv, hzvl, hzvat, _⟩ := tup_view hv
        refine ⟨b, _, rfl, hb, rfl, _, _, rfl, _, _, rfl, rfl, ?_⟩
        refine sq_go ⟨Nat.zero_le _, fun R hR => ?_⟩
        have nFR : F ≠ R := ne_of_none g1.h hR
        have hRz : H R = none := by
          cases z : H R with
          | none => rfl
          | some o => rw [e1 _ _ z] at hR; cases hR
        have n2 := Same.new (o := HO.lst []) hR
        have e2 := e1.trans n2
        have r2 : Gro K H (upd H1 R (HO.lst [])) R [] [] := ⟨upd_same, .nil, hRz, rfl⟩
        have g2 := g1.same n2
        have hzv2 := n2.seqT hzv
        have hu2 := hu.to n2
        generalize upd H1 R (HO.lst []) = H2 at *
        refine sq_fr ⟨_, rfl, pv, rfl, ⟨zv, hzv2⟩, for_it (walk_tup (K := K) (a := pv) (xs := zv)) (fun j σ H' => Same H1 H' ∧ Same H H' ∧ Gro K H H' F ys (fs.map lineD) ∧ ∃ (ws : List V) (ks : List Sq.Row) (v6 v7 : Option V), σ = [some (.ref p), some (.ref F), some u, some (.ref pv), some (.ref R), v6, v7] ∧ Gro K H H' R ws (ks.map intsD) ∧ ks.Nodup ∧ (∀ r, r ∈ ks ↔ r ∈ ln.2.take j ∧ nzR r = true) ∧ ks.length ≤ j) ⟨n2, e2, g2, [], [], _, _, rfl, r2, List.nodup_nil, fun r => (by simp), Nat.le_refl _⟩ (fun j σ H' _ q => q.1.seqT hzv) (fun j x σ Hz H3 hj q y => ?_) (fun σ H3 q => ?_)⟩
        · obtain ⟨n3, e3, g3, ws, ks, v6', v7', rfl, r3, knd, kmem, kl⟩ := q
          obtain ⟨rfl, hx2⟩ := y
          obtain ⟨row, hr1, hdr⟩ := hzvat j x hx2
          obtain ⟨rp, rfl, hrp⟩ := (hdr.to n3).ints_tup
          obtain ⟨rlen, rb⟩ := rl.pl row (List.mem_of_getElem? hr1)
          have mm : ∀ r, r ∈ ln.2.take (j + 1) ∧ nzR r = true ↔ (r ∈ ln.2.take j ∧ nzR r = true) ∨ (r = row ∧ nzR r = true) := fun r => by
            rw [take_succ_of hr1, List.mem_append, List.mem_singleton]
            constructor
            · rintro ⟨h | h, z⟩
              · exact .inl ⟨h, z⟩
              · exact .inr ⟨h, z⟩
            · rintro (⟨h, z⟩ | ⟨h, z⟩)
              · exact ⟨.inl h, z⟩
              · exact ⟨.inr h, z⟩
          refine ⟨_, rfl, rp, row, rfl, hrp, by omega, fun mx h1 h2 => ⟨_, _, rfl, rfl, _, rfl, ?_⟩⟩
          rw [nz_max (rb) h1 h2]
          cases nz : nzR row with
          | false =>
            refine iteF ⟨n3, e3, g3, ws, ks, _, _, rfl, r3, knd, fun r => ?_, by omega⟩
            rw [mm, kmem]
            constructor
            · exact .inl
            · rintro (h | ⟨rfl, h⟩)
              · exact h
              · rw [nz] at h; cases h
          | true =>
            have hd3 : Dp K H3 (.ref rp) (intsD row) := hdr.to n3
            refine iteT ⟨_, rfl, _, rfl, intsD row, ks.map intsD, hd3, .lst (.of r3.h) r3.dp, (SN.ints row).shaped (by decide), (SN.rowsLi ks).shaped (by decide), _, rfl, ?_⟩
            cases cn : ((ks.map intsD).any fun z => PyData.eqv z (intsD row)) with
            | true =>
              have hin : row ∈ ks := by
                obtain ⟨d, hd1, hd2⟩ := List.any_eq_true.mp cn
                obtain ⟨r, hr, rfl⟩ := List.mem_map.mp hd1
                rw [eqv_ints] at hd2
                rw [← of_decide_eq_true hd2]
                exact hr
              refine iteF ⟨n3, e3, g3, ws, ks, _, _, rfl, r3, knd, fun r => ?_, by omega⟩
              rw [mm]
              constructor
              · exact fun h => .inl ((kmem r).mp h)
              · rintro (h | ⟨rfl, h⟩)
                · exact (kmem r).mpr h
                · exact hin
            | false =>
              have nin := any_eqv_rows cn
              have wl := r3.dp.length
              rw [List.length_map] at wl
              have zvl : zv.length = ln.2.length := hzvl
              have := rl.few
              refine iteT ⟨_, rfl, .inl ⟨rfl, _, .of r3.h⟩, _, rfl, R, ws, .ref rp, rfl, rfl, r3.h, slt (by omega), n3.mut hR, e3.mut hRz, g3.off nFR r3.h, ws ++ [.ref rp], ks ++ [row], _, _, rfl, ?_, nodup_snoc knd nin, fun r => ?_, by rw [List.length_append, List.length_singleton]; omega⟩
              · rw [List.map_append]
                exact r3.app hd3 (noList_ints row)
              · rw [mm, List.mem_append, List.mem_singleton, kmem]
                constructor
                · rintro (h | rfl)
                  · exact .inl h
                  · exact .inr ⟨rfl, nz⟩
                · rintro (h | ⟨h, _⟩)
                  · exact .inl h
                  · exact .inr h
        · obtain ⟨n3, e3, g3, ws, ks, v6', v7', rfl, r3, knd, kmem, kl⟩ := q
          obtain ⟨al, so, dp⟩ := sort_rows ks m m1 fun r hr => (rl.pl r (List.mem_of_mem_take ((kmem r).mp hr).1)).1
          dsimp only
          refine sq_go ⟨u, rfl, _, rfl, R, ws, ks.map intsD, rfl, .of r3.h, r3.dp, al, so, dp, fun zs es sp hzs hpe hor hsp => ⟨sp, zs, rfl, .inl ⟨.of upd_same, fun tp htp => ⟨Nat.le_of_ble_eq_true rfl, fun lp hlp => ?_⟩⟩⟩⟩
          obtain ⟨ks2, rfl, pe2⟩ := perm_map rowOf_ints hpe
          have cn : Canon intsD ks ks2 := ⟨(pe2.nodup_iff).mpr knd, hor, fun x => pe2.mem_iff⟩
          have ul : Unl ln.2 ks2 := ⟨cn.asc knd_row, fun r => by rw [cn.mem, kmem, List.take_of_length_le (by omega)]⟩
          have n4 : Same H3 (upd (upd (upd H3 sp (HO.lst zs)) tp (HO.tup zs)) lp (HO.tup [u, .ref tp])) := ((Same.new hsp).then_new htp).then_new hlp
          have e4 := e3.trans n4
          have g4 := g3.same n4
          have hl4 : Dp K (upd (upd (upd H3 sp (HO.lst zs)) tp (HO.tup zs)) lp (HO.tup [u, .ref tp])) (.ref lp) (lineD (ln.1, ks2)) := .tup (.of upd_same) (.cons ((hu.to n3).to n4) (.cons (.tup ((Same.new hlp).seqT (.of upd_same)) (hzs.to n4)) .nil))
          generalize upd (upd (upd H3 sp (HO.lst zs)) tp (HO.tup zs)) lp (HO.tup [u, .ref tp]) = H4 at *
          have tk : raw.take (i + 1) = raw.take i ++ [ln] := take_succ_of hl1
          have cl2 := cl.snoc ul
          rw [← tk] at cl2
          refine ⟨_, rfl, _, rfl, lineD (ln.1, ks2), fs.map lineD, hl4, .lst (.of g4.h) g4.dp, (SN.ln _).shaped (by decide), (SN.list fun d hd => ?_ : SN 4 (.list (fs.map lineD))).shaped (by decide), _, rfl, ?_⟩
          · obtain ⟨l, _, rfl⟩ := List.mem_map.mp hd
            exact .ln l
          cases cnn : ((fs.map lineD).any fun z => PyData.eqv z (lineD (ln.1, ks2))) with
          | true =>
            have hin : (ln.1, ks2) ∈ fs := by
              obtain ⟨d, hd1, hd2⟩ := List.any_eq_true.mp cnn
              obtain ⟨r, hr, rfl⟩ := List.mem_map.mp hd1
              rw [eqv_ln] at hd2
              rw [← of_decide_eq_true hd2]
              exact hr
            refine iteF ⟨e4, ys, fs, _, _, _, _, _, _, rfl, g4, cl2, nd, fun x => ?_, by omega⟩
            rw [mem, List.mem_append, List.mem_singleton]
            constructor
            · exact .inl
            · rintro (h | rfl)
              · exact h
              · exact (mem _).mp hin
          | false =>
            have nin := any_eqv_lns cnn
            have wl := g4.dp.length
            rw [List.length_map] at wl
            have := rs.few
            refine iteT ⟨_, rfl, .inl ⟨rfl, _, .of g4.h⟩, _, rfl, F, ys, .ref lp, rfl, rfl, g4.h, slt (by omega), e4.mut g4.z, ys ++ [.ref lp], fs ++ [(ln.1, ks2)], _, _, _, _, _, _, rfl, ?_, cl2, nodup_snoc nd nin, fun x => ?_, by rw [List.length_append, List.length_singleton]; omega⟩
            · rw [List.map_append]
              exact g4.app hl4 (noList_ln _)
            · rw [List.mem_append, List.mem_append, List.mem_singleton, mem]
      · obtain ⟨e1, ys, fs, cs, v3, v4, v5, v6, v7, rfl, g1, cl, nd, mem, fl⟩ := q
        obtain ⟨al, so, dp⟩ := sort_lns fs
        rw [List.take_of_length_le (by omega)] at cl
        refine ⟨_, rfl, F, ys, fs.map lineD, rfl, .of g1.h, g1.dp, al, so, dp, fun zs' es sp hzs hpe hor hsp => ⟨sp, zs', rfl, .inl ⟨.of upd_same, fun tp htp => ?_⟩⟩⟩
        obtain ⟨ks2, rfl, pe2⟩ := perm_map lnOf_ln hpe
        have cn : Canon lineD cs ks2 := ⟨(pe2.nodup_iff).mpr nd, hor, fun x => (pe2.mem_iff).trans (mem x)⟩
        have n4 : Same H1 (upd (upd H1 sp (HO.lst zs')) tp (HO.tup zs')) := (Same.new hsp).then_new htp
        have hz4 : DpAll K (upd (upd H1 sp (HO.lst zs')) tp (HO.tup zs')) zs' (ks2.map lineD) := hzs.to n4
        have ec : ks2 = cnL raw := by
          obtain rfl := cl.uniq (clean_cl raw)
          exact cn.uniq knd_ln (cnf_canon knd_ln _)
        subst ec
        exact k _ _ (e1.trans n4) (.tup (.of upd_same) hz4)
end
end Ws
/-! ## Q25c -/
namespace Ws
open PySem PySem.Spec PyProof.Rows L2 RZ SD
local macro_rules | `(tactic| walk_at "nf") => `(tactic| dsimp only [tNext, tSeq, tDrop, tRet, tRetN, tIfS, tAsg, gName, gTup, gCons, gNil, tVar, tC, tOp, tUn, rI, rI0, rU, rEq, rNe, tTest, tChain, tAnd, tOr, tNot, tAndV, tOrV, tNotV, tIf, tCB, tCKw, tCons, tNil, tTup, tLst, tCa, tCallS, tB, rIxT, rIxL, rIxS, cxOf, Cx.nox, Cx.wish, Cx.blk, L2.start, tPar, tPar3, tNever, tYes, tBits, tRz, tBM, rAppend, tyV, tXf, suiteEnds, gSub, rSetL, tBreak, rMax, tDGet, sDPut, tSl, tNoPart, tPart, tDisp, tPairs, tDGet2, tDNewK, tAugS, ipI, rGetL, tDIn, tDNotIn, tBM0, rPop])
local macro_rules | `(tactic| walk_at "sx") => `(tactic| simp only [wipe, List.cons.injEq, and_assoc, exists_and_left, and_true, List.map_cons, List.map_nil, List.length_cons, List.length_nil, List.cons_append, List.nil_append, List.append_nil, Nat.reduceAdd, Nat.reduceSub, List.replicate, List.getElem?_cons_zero, List.getElem?_cons_succ, List.set_cons_zero, List.set_cons_succ, Option.some.injEq, V.int.injEq, V.bl.injEq, V.ref.injEq, V.str.injEq, exists_eq_left', exists_eq_left, true_and, Bool.true_eq_false, Bool.false_eq_true, if_true, if_false])

structure SmLn (m r : Nat) (l : Ln) : Prop where
  ok : OkLn m l
  b3 : ∀ x ∈ l.1, x < 3
  p3 : ∀ p ∈ l.2, ∀ x ∈ p, x < 3
  asc : Asc intsD l.2
  nz : ∀ p ∈ l.2, nzR p = true
  n : l.2.length ≤ r
structure LsOk (m : Nat) (ls : List Ln) : Prop where
  m1 : 1 ≤ m
  m4 : m ≤ 4
  ln : ∃ r, r ≤ 2 ∧ (∀ l ∈ ls, SmLn m r l) ∧ ls.length * (r + 1) ≤ 6
  asc : Asc lineD ls
  n : ls.length ≤ 3
def spLines (K : PySem.W.Frag) : Sp := fun vs H Q _ => ∃ (a l c : Addr) (n m : Nat), vs = [.ref a, .int (m : Nat)] ∧ LSt H a l c n ∧ n ≤ 800000 ∧ 1 ≤ m ∧ m ≤ 4 ∧
  ∀ H' u ls, Sbt a l H H' → LSt H' a l c (n + 60) → Dp K H' u (setD m ls) → LsOk m ls → Q u H'
abbrev s__law_lines : Stmt := top 39
abbrev nm__law_lines : List Str := ["state", "many_so", "found", "many_lines", "k", "rows", "j", "row", "line"]
abbrev pr__law_lines : List Str := ["state", "many_so"]
theorem sc__law_lines : FnScope nm__law_lines pr__law_lines (defScope s__law_lines) := ⟨rfl, rfl, rfl, by decide +kernel, rfl, by decide +kernel, by decide +kernel⟩
theorem sp_if {sp : Sp} {b : Bool} {v : V} {i j : Int} {t : TT} {σ : L2.St} {H : Hp} {Q : VK} {E : XK} (hv : σ[0]? = some (some v)) (ht : ∀ R : Bool → Hp → Prop, R b H → t σ H R) (h : sp [v, .int (if b = true then i else j)] H Q E) : tCa sp E (tCons (tVar 0) (tCons (tIf t (tC (.int i)) (tC (.int j))) tNil)) σ H Q :=
  ⟨v, hv, ht _ (by
    cases b
    · exact h
    · exact h)⟩
section
variable {P : Program} {w : World} {K : PySem.W.Frag} {mg : Str → Option Value} {base : Heap}
theorem ok_lines (B : Bl mg) (F1 : Df P w K mg base CX0 2 "_law_draw" pr__law_draw spDrawW) (F2 : Df P w K mg base CX0 3 "_law_row" pr__law_row (spRowL K)) (D : Dt K mg "_law_lines" s__law_lines pr__law_lines) : Df P w K mg base CX0 4 "_law_lines" pr__law_lines (spLines K) := by
  refine D.ok sc__law_lines (fun vs H Q E h => ?_) (fun f cdv A outer s H vs Q E hr h => ?_)
  · obtain ⟨a, l, c, n, m, rfl, _⟩ := h
    rfl
  · obtain ⟨a, l, c, n, m, rfl, hst, hn, m1, m4, k⟩ := h
    refine ⟨_, (pss_cons (ps_par (i := 2) (j := 3) (by rfl) sc__law_lines.nd rfl rfl (by decide) rfl rfl (pa_cons (pe_lst pa_nil) (pa_cons (pe_f F1 (hr.mono (by decide)) pass0 (pa_cons (pv 0) (pa_cons pe_int pa_nil))) pa_nil)) (by rfl)) (pss_cons (ps_for PassesOwn.never rfl (pi_range1 (by rfl) B.range (pa_cons (pv 3) pa_nil)) (pg_name (i := 4) sc__law_lines.nd rfl (Or.inl rfl)) (pss_cons (ps_set (i := 5) sc__law_lines.nd rfl (Or.inl rfl) (pe_lst pa_nil)) (pss_cons (ps_for PassesOwn.never rfl (pi_range1 (by rfl) B.range (pa_cons (pe_f F1 (hr.mono (by decide)) pass0 (pa_cons (pv 0) (pa_cons (pe_ifExp (pt_cmpR op_lt (pv 3) pe_int (nomark _)) pe_int pe_int) pa_nil))) pa_nil)) (pg_name (i := 6) sc__law_lines.nd rfl (Or.inl rfl)) (pss_cons (ps_set (i := 7) sc__law_lines.nd rfl (Or.inl rfl) (pe_f F2 (hr.mono (by decide)) pass0 (pa_cons (pv 0) (pa_cons (pv 1) (pa_cons pe_int pa_nil))))) (pss_one (ps_if (PW.pt (pw_and (pt_cmpR op_gt (pe_callB (cr_maxT rfl (hu65 hr)) (by rfl) B.max boot_max (pa_cons (pv 7) pa_nil)) pe_int (nomark _)) (pw_and1 (pt_cmpR (op_notInD (hu65 hr)) (pv 7) (pv 5) (by rfl))))) (pss_one (ps_expr (pe_bm PySem.F.plainAttrs_list PySem.F.slot_list_append PySem.F.type_list_append mt_append (pv 5) (pa_cons (pv 7) pa_nil)))) pss_nil)))) (pss_cons (ps_set (i := 8) sc__law_lines.nd rfl (Or.inl rfl) (pe_tup (pa_cons (pe_f F2 (hr.mono (by decide)) pass0 (pa_cons (pv 0) (pa_cons (pv 1) (pa_cons pe_int pa_nil)))) (pa_cons (pe_callTy call_tuple_of (by rfl) B.tuple PyProof.Rows.boot_tuple (pa_cons (pe_callB (cr_sortedD (hu65 hr)) (by rfl) B.sorted boot_sorted (pa_cons (pv 5) pa_nil)) pa_nil)) pa_nil)))) (pss_one (ps_if (pt_cmpR (op_notInD (hu65 hr)) (pv 8) (pv 2) (by rfl)) (pss_one (ps_expr (pe_bm PySem.F.plainAttrs_list PySem.F.slot_list_append PySem.F.type_list_append mt_append (pv 2) (pa_cons (pv 8) pa_nil)))) pss_nil)))))) (pss_one (ps_ret (pe_tup (pa_cons (pv 1) (pa_cons (pe_callTy call_tuple_of (by rfl) B.tuple PyProof.Rows.boot_tuple (pa_cons (pe_callB (cr_sortedD (hu65 hr)) (by rfl) B.sorted boot_sorted (pa_cons (pv 2) pa_nil)) pa_nil)) pa_nil))))))), ?_⟩
    dsimp only [cxOf, Cx.nox, L2.start]
    show tPar _ _ _ _ _ _
    refine ⟨Nat.zero_le _, fun F hF => ?_⟩
    obtain ⟨fa, fl, fc⟩ := hst.off hF
    have eF := Same.new (o := HO.lst []) hF
    have s0 := hst.same eF
    have g0 : Grw K H (upd H F (HO.lst [])) a l c F [] [] := ⟨upd_same, .nil, fa, fl, fc, hF, rfl⟩
    have e0 : Sbt a l H (upd H F (HO.lst [])) := Sbt.of eF
    generalize upd H F (HO.lst []) = H0 at *
    refine ⟨_, rfl, a, l, c, _, 4, rfl, s0, by omega, by decide, by decide, fun H1 cnt e1 s1 c0 c1 => ⟨_, _, rfl, ?_⟩⟩
    obtain ⟨cnt, rfl⟩ : ∃ k : Nat, cnt = k := ⟨cnt.toNat, by omega⟩
    have e01 := e0.trans e1
    have g1 := g0.sbt e1 s0
    obtain ⟨r, hr, hr2, hr1⟩ : ∃ r : Nat, (if decide ((cnt : Int) < 3) = true then (3 : Int) else 2) = (r : Int) + 1 ∧ r ≤ 2 ∧ cnt * (r + 1) ≤ 6 := by
      by_cases c3 : cnt < 3
      · refine ⟨2, by rw [if_pos (decide_eq_true (by omega))]; rfl, by decide, by omega⟩
      · refine ⟨1, by rw [if_neg (by rw [decide_eq_true_eq]; omega)]; rfl, by decide, by omega⟩
    dsimp only
    refine sq_fr ⟨_, rfl, (cnt : Int), rfl, by omega, by omega, for_it walk_range (fun i σ H' => Sbt a l H H' ∧ LSt H' a l c (n + 1 + 16 * i) ∧ ∃ (ys : List V) (ls : List Ln) (v4 v5 v6 v7 v8 : Option V), σ = [some (.ref a), some (.int (m : Nat)), some (.ref F), some (.int (cnt : Nat)), v4, v5, v6, v7, v8] ∧ Grw K H H' a l c F ys (ls.map lineD) ∧ (∀ x ∈ ls, SmLn m r x) ∧ ls.Nodup ∧ ls.length ≤ i) ⟨e01, s1, [], [], _, _, _, _, _, rfl, g1, fun x hx => absurd hx List.not_mem_nil, List.nodup_nil, Nat.le_refl _⟩ (fun _ _ _ _ _ => trivial) (fun i x σ Hz H2 hi py y => ?_) (fun σ H2 py => ?_)⟩
    · obtain ⟨e2, s2, ys, ls, v4, v5, v6, v7, v8, rfl, g2, lok, lnd, ll⟩ := py
      obtain ⟨rfl, rfl⟩ := y
      have hi3 : i < cnt := by omega
      dsimp only [gName]
      refine sq_go ⟨Nat.zero_le _, fun R hR => ?_⟩
      obtain ⟨ra, rl', rc⟩ := s2.off hR
      have nR := Same.new (o := HO.lst []) hR
      have hRz : H R = none := by
        cases z : H R with
        | none => rfl
        | some o => have := e2 _ _ z ra rl'; rw [hR] at this; cases this
      have nFR : F ≠ R := ne_of_none g2.h hR
      have g3 := g2.same nR
      have s3 := s2.same nR
      have e3 := e2.same nR
      have r3 : Grw K H (upd H2 R (HO.lst [])) a l c R [] [] := ⟨upd_same, .nil, ra, rl', rc, hRz, rfl⟩
      generalize upd H2 R (HO.lst []) = H3 at *
      refine sq_fr ?_
      refine sp_if (sp := spDrawW) (b := decide ((cnt : Int) < 3)) rfl (fun R r => ⟨_, rfl, _, _, rfl, rfl, _, rfl, r⟩) ?_
      rw [hr]
      refine ⟨a, l, c, _, _, rfl, s3, by omega, by omega, by omega, fun H4 jj e4 s4 j0 j1 => ?_⟩
      have g4 := g3.sbt e4 s3
      have r4 := r3.sbt e4 s3
      have e34 := e3.trans e4
      refine ⟨_, rfl, by omega, by omega, for_it walk_range (fun j σ H' => Sbt a l H H' ∧ LSt H' a l c (n + 1 + 16 * i + 1 + 4 * j) ∧ Grw K H H' a l c F ys (ls.map lineD) ∧ ∃ (zs : List V) (ks : List Sq.Row) (v6 v7 : Option V), σ = [some (.ref a), some (.int (m : Nat)), some (.ref F), some (.int (cnt : Nat)), some (.int (0 + (i : Int))), some (.ref R), v6, v7, v8] ∧ Grw K H H' a l c R zs (ks.map intsD) ∧ ks.Nodup ∧ (∀ p ∈ ks, (p.length = m ∧ ∀ x ∈ p, 0 ≤ x ∧ x < 3) ∧ nzR p = true) ∧ ks.length ≤ j) ⟨e34, s4, g4, [], [], _, _, rfl, r4, List.nodup_nil, fun x hx => absurd hx List.not_mem_nil, Nat.le_refl _⟩ (fun _ _ _ _ _ => trivial) (fun j x σ Hz H5 hj q y => ?_) (fun σ H5 q => ?_)⟩
      · obtain ⟨e5, s5, g5, zs, ks, v6', v7', rfl, r5, knd, kok, kl⟩ := q
        obtain ⟨rfl, rfl⟩ := y
        dsimp only [gName]
        refine sq_go ⟨_, rfl, _, rfl, a, l, c, _, m, 3, rfl, s5, by omega, by omega, by decide, by decide, fun H6 u row e6 s6 hu rlen rb => ?_⟩
        obtain ⟨rp, rfl, hrp⟩ := hu.ints_tup
        have g6 := g5.sbt e6 s5
        have r6 := r5.sbt e6 s5
        have e56 := e5.trans e6
        refine ⟨_, rfl, rp, row, rfl, hrp, by omega, fun mx h1 h2 => ⟨_, _, rfl, rfl, _, rfl, ?_⟩⟩
        rw [nz_max (fun x hx => (rb x hx).1) h1 h2]
        cases nz : nzR row with
        | false => exact iteF ⟨e56, s6.mono (by omega), g6, zs, ks, _, _, rfl, r6, knd, kok, by omega⟩
        | true =>
          refine iteT ⟨_, rfl, _, rfl, intsD row, ks.map intsD, hu, .lst (.of r6.h) r6.dp, (SN.ints row).shaped (by decide), (SN.rowsLi ks).shaped (by decide), _, rfl, ?_⟩
          cases cn : ((ks.map intsD).any fun z => PyData.eqv z (intsD row)) with
          | true => exact iteF ⟨e56, s6.mono (by omega), g6, zs, ks, _, _, rfl, r6, knd, kok, by omega⟩
          | false =>
            have nin := any_eqv_rows cn
            have wl := r6.dp.length
            rw [List.length_map] at wl
            refine iteT ⟨_, rfl, .inl ⟨rfl, _, .of r6.h⟩, _, rfl, R, zs, .ref rp, rfl, rfl, r6.h, slt (by omega), e56.mut hRz, (s6.put ra rl' rc).mono (by omega), g6.off nFR r6.h, zs ++ [.ref rp], ks ++ [row], _, _, rfl, ?_, nodup_snoc knd nin, fun p hp => ?_, by rw [List.length_append, List.length_singleton]; omega⟩
            · rw [List.map_append]
              exact r6.app hu (noList_ints row)
            · rcases List.mem_append.mp hp with h | h
              · exact kok p h
              · rw [List.mem_singleton.mp h]; exact ⟨⟨rlen, rb⟩, nz⟩
      · obtain ⟨e5, s5, g5, zs, ks, v6', v7', rfl, r5, knd, kok, kl⟩ := q
        obtain ⟨al, so, dp⟩ := sort_rows ks m m1 fun p hp => (kok p hp).1.1
        have s5' : LSt H5 a l c (n + 1 + 16 * i + 9) := s5.mono (by omega)
        have kl2 : ks.length ≤ r := by omega
        dsimp only
        refine sq_go ⟨_, rfl, _, rfl, a, l, c, _, m, 3, rfl, s5', by omega, by omega, by decide, by decide, fun H6 u b e6 s6 hu bl bb => ?_⟩
        have r6 := r5.sbt e6 s5
        have g6 := g5.sbt e6 s5
        have e56 := e5.trans e6
        refine ⟨_, rfl, R, zs, ks.map intsD, rfl, .of r6.h, r6.dp, al, so, dp, fun zs' es sp hzs hpe hor hsp => ⟨sp, zs', rfl, .inl ⟨.of upd_same, fun tp htp => ⟨Nat.le_of_ble_eq_true rfl, fun lp hlp => ?_⟩⟩⟩⟩
        obtain ⟨ks2, rfl, pe2⟩ := perm_map rowOf_ints hpe
        have cn : Canon intsD ks ks2 := ⟨(pe2.nodup_iff).mpr knd, hor, fun x => pe2.mem_iff⟩
        have lnok : SmLn m r (b, ks2) := ⟨⟨bl, fun x hx => by have := bb x hx; omega, fun p hp => ⟨(kok p ((cn.mem p).mp hp)).1.1, fun x hx => by have := (kok p ((cn.mem p).mp hp)).1.2 x hx; omega⟩, by show ks2.length ≤ 16; rw [pe2.length_eq]; omega⟩, fun x hx => (bb x hx).2, fun p hp x hx => ((kok p ((cn.mem p).mp hp)).1.2 x hx).2, cn.asc knd_row, fun p hp => (kok p ((cn.mem p).mp hp)).2, by show ks2.length ≤ r; rw [pe2.length_eq]; exact kl2⟩
        have n4 : Same H6 (upd (upd (upd H6 sp (HO.lst zs')) tp (HO.tup zs')) lp (HO.tup [u, .ref tp])) := ((Same.new hsp).then_new htp).then_new hlp
        have e7 := e56.same n4
        have s7 := s6.same n4
        have g7 := g6.same n4
        have hl7 : Dp K (upd (upd (upd H6 sp (HO.lst zs')) tp (HO.tup zs')) lp (HO.tup [u, .ref tp])) (.ref lp) (lineD (b, ks2)) := .tup (.of upd_same) (.cons (hu.to n4) (.cons (.tup ((Same.new hlp).seqT (.of upd_same)) (hzs.to n4)) .nil))
        generalize upd (upd (upd H6 sp (HO.lst zs')) tp (HO.tup zs')) lp (HO.tup [u, .ref tp]) = H7 at *
        refine ⟨_, rfl, _, rfl, lineD (b, ks2), ls.map lineD, hl7, .lst (.of g7.h) g7.dp, (SN.ln _).shaped (by decide), (SN.list fun d hd => ?_ : SN 4 (.list (ls.map lineD))).shaped (by decide), _, rfl, ?_⟩
        · obtain ⟨q, _, rfl⟩ := List.mem_map.mp hd
          exact .ln q
        cases cnn : ((ls.map lineD).any fun z => PyData.eqv z (lineD (b, ks2))) with
        | true => exact iteF ⟨e7, s7.mono (by omega), ys, ls, _, _, _, _, _, rfl, g7, lok, lnd, by omega⟩
        | false =>
          have nin := any_eqv_lns cnn
          have wl := g7.dp.length
          rw [List.length_map] at wl
          refine iteT ⟨_, rfl, .inl ⟨rfl, _, .of g7.h⟩, _, rfl, F, ys, .ref lp, rfl, rfl, g7.h, slt (by omega), e7.mut g7.z, (s7.put fa fl fc).mono (by omega), ys ++ [.ref lp], ls ++ [(b, ks2)], _, _, _, _, _, rfl, ?_, fun x hx => ?_, nodup_snoc lnd nin, by rw [List.length_append, List.length_singleton]; omega⟩
          · rw [List.map_append]
            exact g7.app hl7 (noList_ln _)
          · rcases List.mem_append.mp hx with h | h
            · exact lok x h
            · rw [List.mem_singleton.mp h]; exact lnok
    · obtain ⟨e2, s2, ys, ls, v4, v5, v6, v7, v8, rfl, g2, lok, lnd, ll⟩ := py
      obtain ⟨al, so, dp⟩ := sort_lns ls
      have ll3 : ls.length ≤ cnt := by omega
      dsimp only
      refine ⟨_, rfl, _, rfl, F, ys, ls.map lineD, rfl, .of g2.h, g2.dp, al, so, dp, fun zs' es sp hzs hpe hor hsp => ⟨sp, zs', rfl, .inl ⟨.of upd_same, fun tp htp => ⟨Nat.le_of_ble_eq_true rfl, fun lp hlp => ?_⟩⟩⟩⟩
      obtain ⟨ks2, rfl, pe2⟩ := perm_map lnOf_ln hpe
      have cn : Canon lineD ls ks2 := ⟨(pe2.nodup_iff).mpr lnd, hor, fun x => pe2.mem_iff⟩
      have n4 : Same H2 (upd (upd (upd H2 sp (HO.lst zs')) tp (HO.tup zs')) lp (HO.tup [.int (m : Nat), .ref tp])) := ((Same.new hsp).then_new htp).then_new hlp
      have hz4 : DpAll K (upd (upd (upd H2 sp (HO.lst zs')) tp (HO.tup zs')) lp (HO.tup [.int (m : Nat), .ref tp])) zs' (ks2.map lineD) := hzs.to n4
      refine k _ _ ks2 (e2.same n4) ((s2.same n4).mono (by omega)) (.tup (.of upd_same) (.cons (.int (m : Nat)) (.cons (.tup ((Same.new hlp).seqT (.of upd_same)) hz4) .nil))) ⟨m1, m4, ⟨r, hr2, fun x hx => lok x ((cn.mem x).mp hx), ?_⟩, cn.asc knd_ln, by rw [pe2.length_eq]; omega⟩
      rw [pe2.length_eq]
      exact Nat.le_trans (Nat.mul_le_mul_right _ ll3) hr1
end
end Ws
/-! ## Q25d -/
namespace Ws
open PySem PySem.Spec PyProof.Rows L2 RZ SD
local macro_rules | `(tactic| walk_at "nf") => `(tactic| dsimp only [tNext, tSeq, tDrop, tRet, tRetN, tIfS, tAsg, gName, gTup, gCons, gNil, tVar, tC, tOp, tUn, rI, rI0, rU, rEq, rNe, tTest, tChain, tAnd, tOr, tNot, tAndV, tOrV, tNotV, tIf, tCB, tCKw, tCons, tNil, tTup, tLst, tCa, tCallS, tB, rIxT, rIxL, rIxS, cxOf, Cx.nox, Cx.wish, Cx.blk, L2.start, tPar, tPar3, tNever, tYes, tBits, tRz, tBM, rAppend, tyV, tXf, suiteEnds, gSub, rSetL, tBreak, rMax, tDGet, sDPut, tSl, tNoPart, tPart, tDisp, tPairs, tDGet2, tDNewK, tAugS, ipI, rGetL, tDIn, tDNotIn, tBM0, rPop])
local macro_rules | `(tactic| walk_at "sx") => `(tactic| simp only [wipe, List.cons.injEq, and_assoc, exists_and_left, and_true, List.map_cons, List.map_nil, List.length_cons, List.length_nil, List.cons_append, List.nil_append, List.append_nil, Nat.reduceAdd, Nat.reduceSub, List.replicate, List.getElem?_cons_zero, List.getElem?_cons_succ, List.set_cons_zero, List.set_cons_succ, Option.some.injEq, V.int.injEq, V.bl.injEq, V.ref.injEq, V.str.injEq, exists_eq_left', exists_eq_left, true_and, Bool.true_eq_false, Bool.false_eq_true, if_true, if_false])

/-- [te for x in range(n)]: data -/
theorem comp_lst {K : PySem.W.Frag} {lo : Int} {n j : Nat} {te : TE} {σ : L2.St} {vs : List Nat} {H : Hp} {Q : VK} {wi : L2.TI} (f : Nat → PyData) (hn : n ≤ 1000) (nl : ∀ k, noList (f k) = true)
    (hi : ∀ R : It → Hp → Prop, R (Itr lo n) H → wi σ H R) (hw : ∀ x : V, wipe ((wipe σ vs).set j (some x)) vs = wipe σ vs)
    (h : ∀ k H1, k < n → Same H H1 → Lit K H1 te ((wipe σ vs).set j (some (.int (lo + (k : Nat))))) (f k))
    (q : ∀ H' p ys, Same H H' → H p = none → H' p = some (.lst ys) → DpAll K H' ys ((List.range n).map f) → Q (.ref p) H') : tLc wi (gName j) tYes te vs σ H Q := by
  refine hi _ fun D hD => lcF (walk_range (lo := lo) (n := n)) hD (by rw [sizeLine_eq]; omega) (fun _ => true) (fun i y H => Dp K H y (f i)) (fun i y H H' e n q => keepN e n n _ _ (nl i) q) (fun _ _ => trivial) (fun i x H2 H3 Q1 Q0 hi e2 y q1 q0 => ?_) (fun H2 ys e2 hy g => ?_)
  · obtain ⟨rfl, rfl⟩ := y
    exact ⟨hw _, iteT (B := Q0 H3) (h i _ hi e2 _ _ (Same.refl _) fun H4 v e4 hv => q1 rfl _ _ hv e4)⟩
  · have hd := g.dp (fun i => f i) fun i y q => q
    rw [all_kept] at hd
    exact q _ _ ys e2 hD hy hd
def gridR (b : Nat) : Nat → List Sq.Row
  | 0 => [[]]
  | m + 1 => (gridR b m).flatMap fun row => (List.range b).map fun (k : Nat) => row ++ [(k : Int)]
def extR (b : Nat) (row : Sq.Row) : List Sq.Row := (List.range b).map fun (k : Nat) => row ++ [(k : Int)]
theorem gridR_succ (b m : Nat) : gridR b (m + 1) = (gridR b m).flatMap (extR b) := rfl
theorem flat_len (rows : List Sq.Row) : (rows.flatMap (extR 7)).length = rows.length * 7 := by
  induction rows with
  | nil => rfl
  | cons x xs ih => rw [List.flatMap_cons, List.length_append, ih, List.length_cons]; simp [extR]; omega
theorem gridR_len (m : Nat) : (gridR 7 m).length = 7 ^ m := by
  induction m with
  | zero => rfl
  | succ m ih => rw [gridR_succ, flat_len, ih, Nat.pow_succ]
theorem gridR_row (b : Nat) : ∀ (m : Nat) (row : Sq.Row), row ∈ gridR b m → row.length = m ∧ ∀ x ∈ row, 0 ≤ x ∧ x < (b : Int)
  | 0, row, h => by
    rw [List.mem_singleton.mp h]
    exact ⟨rfl, fun x hx => absurd hx List.not_mem_nil⟩
  | m + 1, row, h => by
    obtain ⟨r, hr, h⟩ := List.mem_flatMap.mp h
    obtain ⟨k, hk, rfl⟩ := List.mem_map.mp h
    obtain ⟨h1, h2⟩ := gridR_row b m r hr
    have := List.mem_range.mp hk
    refine ⟨by rw [List.length_append, h1]; rfl, fun x hx => ?_⟩
    rcases List.mem_append.mp hx with h | h
    · exact h2 x h
    · rw [List.mem_singleton.mp h]; omega
def spGrid (K : PySem.W.Frag) : Sp := fun vs H Q _ => ∃ (m : Nat), vs = [.int (m : Nat), .int 7] ∧ m ≤ 3 ∧ ∀ H' p ys, Same H H' → H p = none → H' p = some (.lst ys) → DpAll K H' ys ((gridR 7 m).map intsD) → Q (.ref p) H'
abbrev s__law_grid : Stmt := top 34
abbrev nm__law_grid : List Str := ["many_so", "bound", "found", "step", "more", "row", "number"]
abbrev pr__law_grid : List Str := ["many_so", "bound"]
theorem sc__law_grid : FnScope nm__law_grid pr__law_grid (defScope s__law_grid) := ⟨rfl, rfl, rfl, by decide +kernel, rfl, by decide +kernel, by decide +kernel⟩
section
variable {P : Program} {w : World} {K : PySem.W.Frag} {mg : Str → Option Value} {base : Heap}
theorem ok_grid (B : Bl mg) (D : Dt K mg "_law_grid" s__law_grid pr__law_grid) : Df P w K mg base CX0 1 "_law_grid" pr__law_grid (spGrid K) := by
  refine D.ok sc__law_grid (fun vs H Q E h => ?_) (fun f cdv A outer s H vs Q E hr h => ?_)
  · obtain ⟨m, rfl, _⟩ := h
    rfl
  · obtain ⟨m, rfl, m3, k⟩ := h
    refine ⟨_, (pss_cons (ps_set (i := 2) sc__law_grid.nd rfl (Or.inl rfl) (pe_lst (pa_cons (pe_tup pa_nil) pa_nil))) (pss_cons (ps_for PassesOwn.never rfl (pi_range1 (by rfl) B.range (pa_cons (pv 0) pa_nil)) (pg_name (i := 3) sc__law_grid.nd rfl (Or.inl rfl)) (pss_cons (ps_set (i := 4) sc__law_grid.nd rfl (Or.inl rfl) (pe_lst pa_nil)) (pss_cons (ps_for PassesOwn.never rfl (pi_list (pv 2)) (pg_name (i := 5) sc__law_grid.nd rfl (Or.inr rfl)) (pss_one (ps_set (i := 4) sc__law_grid.nd rfl (Or.inl rfl) (pe_op op_cat (pv 4) (pe_lc (own := [("number", 6)]) (g := gName 6) (tt := tYes) (te := tOp (rCatZ K) (tVar 5) (tTup (tCons (tVar 6) tNil))) (by rfl) sc__law_grid.nd (pi_range1 (by rfl) B.range (pa_cons (pv 1) pa_nil)) (blkOk_by (own := [("number", 6)]) (N := nm__law_grid) (sc := defScope s__law_grid) (by decide +kernel)) (fun _ _ _ _ _ => pg_name (i := 6) sc__law_grid.nd rfl (Or.inl rfl)) (fun _ _ _ _ _ => pts_nil) (fun _ _ _ _ _ => (pe_op (show OpR _ _ (rCatZ K) from op_catZ) (pv 5) (pe_tup (pa_cons (pv 6) pa_nil))))))))) (pss_one (ps_set (i := 2) sc__law_grid.nd rfl (Or.inl rfl) (pe_callTy call_list_of (by rfl) B.list PyProof.Rows.boot_list (pa_cons (pv 4) pa_nil))))))) (pss_one (ps_ret (pv 2))))), ?_⟩
    dsimp only [cxOf, Cx.nox, L2.start]
    refine sq_go (Lits.mk (K := K) (H0 := H) (ds := [intsD []]) (Lits.cons (Lit.tup Lits.nil (Nat.zero_le _)) Lits.nil) (Same.refl _) (fun H1 p1 ys1 e1 n1 h1 a1 => ?_) (by decide))
    refine sq_fr ⟨_, rfl, (m : Int), rfl, by omega, by omega, for_it walk_range (fun i σ H' => Same H H' ∧ ∃ (p : Addr) (ys : List V) (v3 v4 v5 v6 : Option V), σ = [some (.int (m : Nat)), some (.int 7), some (.ref p), v3, v4, v5, v6] ∧ H p = none ∧ H' p = some (.lst ys) ∧ DpAll K H' ys ((gridR 7 i).map intsD)) ⟨e1, p1, ys1, _, _, _, _, rfl, n1, h1, a1⟩ (fun _ _ _ _ _ => trivial) (fun i x σ Hz H2 hi q y => ?_) (fun σ H2 q => ?_)⟩
    · obtain ⟨e2, p2, ys2, v3, v4, v5, v6, rfl, n2, h2, a2⟩ := q
      obtain ⟨rfl, rfl⟩ := y
      have hi3 : i < m := by omega
      have yl := a2.length
      rw [List.length_map, gridR_len] at yl
      have p7 : 7 ^ i ≤ 49 := Nat.le_trans (Nat.pow_le_pow_right (by decide) (show i ≤ 2 by omega)) (by decide)
      dsimp only [gName]
      refine sq_go ⟨Nat.zero_le _, fun q0 hq0 => ?_⟩
      have n3 := Same.new (o := HO.lst []) hq0
      have hq : (upd H2 q0 (HO.lst [])) q0 = some (.lst []) := upd_same
      have hz0 : H q0 = none := by
        cases z : H q0 with
        | none => rfl
        | some o => rw [e2 _ _ z] at hq0; cases hq0
      have e3 := e2.trans n3
      have h3 := n3 _ _ h2
      have a3 := a2.to n3
      generalize upd H2 q0 (HO.lst []) = H3 at *
      refine sq_fr ⟨_, rfl, p2, rfl, ⟨ys2, .of h3⟩, for_it (walk_list (K := K) (a := p2) (xs := ys2)) (fun j σ H' => Same H3 H' ∧ ∃ (q : Addr) (zs : List V) (v5 v6 : Option V), σ = [some (.int (m : Nat)), some (.int 7), some (.ref p2), some (.int (0 + (i : Int))), some (.ref q), v5, v6] ∧ H' q = some (.lst zs) ∧ DpAll K H' zs ((((gridR 7 i).take j).flatMap (extR 7)).map intsD)) ⟨Same.refl _, q0, [], _, _, rfl, hq, .nil⟩ (fun i σ H' _ q => .of (q.1 _ _ h3)) (fun j x σ Hz H4 hj q y => ?_) (fun σ H4 q => ?_)⟩
      · obtain ⟨e4, q4, zs, v5', v6', rfl, hq4, hzs⟩ := q
        obtain ⟨rfl, hx⟩ := y
        obtain ⟨d, hd1, hd2⟩ := a3.getV hx
        rw [List.getElem?_map] at hd1
        obtain ⟨row, hr1, rfl⟩ := Option.map_eq_some_iff.mp hd1
        have zl := hzs.length
        rw [List.length_map, flat_len, List.length_take] at zl
        dsimp only [gName]
        refine ⟨_, rfl, comp_lst (K := K) (lo := 0) (n := 7) (j := 6) (fun k => intsD (row ++ [(k : Int)])) (by decide) (fun k => noList_ints _) (fun R r => ⟨_, rfl, (7 : Int), rfl, by decide, by decide, r⟩) (fun x => rfl) (fun k H1 hk e => by
          simp only [Int.zero_add]
          have e2 : intsD (row ++ [(k : Int)]) = .tuple (row.map PyData.int ++ [.int (k : Int)]) := by
            unfold intsD
            rw [List.map_append]
            rfl
          rw [e2]
          have rl := (gridR_row 7 i row (List.mem_of_getElem? hr1)).1
          exact Lit.cat (Lit.var rfl ((hd2.to e4).to e)) (Lit.tup (Lits.cons (Lit.var rfl (.int _)) Lits.nil) (Nat.le_of_ble_eq_true rfl)) (by rw [List.length_map, rl, List.length_singleton]; omega)) fun H5 p5 ys5 e5 n5 h5 a5 => ⟨q4, p5, zs, ys5, rfl, rfl, e5 _ _ hq4, h5, ?_, fun r hr => ?_⟩⟩
        · have := a5.length
          rw [List.length_map, List.length_range] at this
          rw [this, sizeLine_eq]
          omega
        · have n6 := e5.then_new (o := HO.lst (zs ++ ys5)) hr
          refine ⟨e4.trans n6, r, zs ++ ys5, _, _, rfl, upd_same, ?_⟩
          rw [take_succ_of hr1, List.flatMap_append, List.map_append]
          refine (hzs.to n6).append ?_
          have : (List.flatMap (extR 7) [row]).map intsD = (List.range 7).map fun (k : Nat) => intsD (row ++ [(k : Int)]) := by
            rw [List.flatMap_cons, List.flatMap_nil, List.append_nil]
            unfold extR
            rw [List.map_map]
            rfl
          rw [this]
          exact a5.to (Same.new hr)
      · obtain ⟨e4, q4, zs, v5', v6', rfl, hq4, hzs⟩ := q
        rw [yl, ← gridR_len, List.take_length, ← gridR_succ] at hzs
        dsimp only
        refine ⟨_, rfl, q4, zs, rfl, .inl (.of hq4), fun r hr => ?_⟩
        have n5 := e4.then_new (o := HO.lst zs) hr
        have hr0 : H r = none := by
          cases z : H r with
          | none => rfl
          | some o => rw [(e3.trans e4) _ _ z] at hr; cases hr
        exact ⟨e3.trans n5, r, zs, _, _, _, _, rfl, hr0, upd_same, hzs.to (Same.new hr)⟩
    · obtain ⟨e2, p2, ys2, v3, v4, v5, v6, rfl, n2, h2, a2⟩ := q
      rw [show ((m : Int)).toNat = m by omega] at a2
      exact ⟨_, rfl, k _ p2 ys2 e2 n2 h2 a2⟩
end
end Ws
/-! ## Q25e -/
namespace Ws
open PySem PySem.Spec PyProof.Rows L2 RZ SD
local macro_rules | `(tactic| walk_at "nf") => `(tactic| dsimp only [tNext, tSeq, tDrop, tRet, tRetN, tIfS, tAsg, gName, gTup, gCons, gNil, tVar, tC, tOp, tUn, rI, rI0, rU, rEq, rNe, tTest, tChain, tAnd, tOr, tNot, tAndV, tOrV, tNotV, tIf, tCB, tCKw, tCons, tNil, tTup, tLst, tCa, tCallS, tB, rIxT, rIxL, rIxS, cxOf, Cx.nox, Cx.wish, Cx.blk, L2.start, tPar, tPar3, tNever, tYes, tBits, tRz, tBM, rAppend, tyV, tXf, suiteEnds, gSub, rSetL, tBreak, rMax, tDGet, sDPut, tSl, tNoPart, tPart, tDisp, tPairs, tDGet2, tDNewK, tAugS, ipI, rGetL, tDIn, tDNotIn, tBM0, rPop])
local macro_rules | `(tactic| walk_at "sx") => `(tactic| simp only [wipe, List.cons.injEq, and_assoc, exists_and_left, and_true, List.map_cons, List.map_nil, List.length_cons, List.length_nil, List.cons_append, List.nil_append, List.append_nil, Nat.reduceAdd, Nat.reduceSub, List.replicate, List.getElem?_cons_zero, List.getElem?_cons_succ, List.set_cons_zero, List.set_cons_succ, Option.some.injEq, V.int.injEq, V.bl.injEq, V.ref.injEq, V.str.injEq, exists_eq_left', exists_eq_left, true_and, Bool.true_eq_false, Bool.false_eq_true, if_true, if_false])

def allU : Nat → List (List Int)
  | 0 => [[]]
  | n + 1 => allU n ++ (allU n).map fun c => c ++ [(n : Int)]
def chcU (n : Nat) : List (List Int) := (allU n).drop 1
/-- lists of lists of numbers, all new since H0 -/
structure LA (H0 H : Hp) (ys : List V) (cs : List (List Int)) : Prop where
  len : ys.length = cs.length
  at_ : ∀ (i : Nat) (y : V), ys[i]? = some y → ∃ c q, cs[i]? = some c ∧ y = .ref q ∧ H0 q = none ∧ H q = some (.lst (c.map V.int))
theorem LA.to {H0 H H' : Hp} {ys : List V} {cs : List (List Int)} (h : LA H0 H ys cs) (e : Same H H') : LA H0 H' ys cs := ⟨h.len, fun i y hy => by
  obtain ⟨c, q, h1, h2, h3, h4⟩ := h.at_ i y hy
  exact ⟨c, q, h1, h2, h3, e _ _ h4⟩⟩
theorem LA.app {H0 H : Hp} {ys zs : List V} {cs ds : List (List Int)} (h : LA H0 H ys cs) (g : LA H0 H zs ds) : LA H0 H (ys ++ zs) (cs ++ ds) := ⟨by rw [List.length_append, List.length_append, h.len, g.len], fun i y hy => by
  by_cases c : i < ys.length
  · rw [List.getElem?_append_left c] at hy
    obtain ⟨d, q, h1, h2, h3, h4⟩ := h.at_ i y hy
    exact ⟨d, q, by rw [List.getElem?_append_left (by rw [← h.len]; exact c)]; exact h1, h2, h3, h4⟩
  · rw [List.getElem?_append_right (by omega)] at hy
    obtain ⟨d, q, h1, h2, h3, h4⟩ := g.at_ _ y hy
    exact ⟨d, q, by rw [List.getElem?_append_right (by rw [← h.len]; omega), ← h.len]; exact h1, h2, h3, h4⟩⟩
theorem LA.drop {H0 H : Hp} {ys : List V} {cs : List (List Int)} (h : LA H0 H ys cs) (n : Nat) : LA H0 H (ys.drop n) (cs.drop n) := ⟨by rw [List.length_drop, List.length_drop, h.len], fun i y hy => by
  rw [List.getElem?_drop] at hy ⊢
  exact h.at_ _ y hy⟩
theorem allU_len (n : Nat) : (allU n).length = 2 ^ n := by
  induction n with
  | zero => rfl
  | succ n ih =>
    show (allU n ++ (allU n).map _).length = _
    rw [List.length_append, List.length_map, ih, Nat.pow_succ]
    omega
theorem allU_in : ∀ (n : Nat) (c : List Int), c ∈ allU n → c.length ≤ n ∧ ∀ k ∈ c, ∃ j : Nat, j < n ∧ k = (j : Int)
  | 0, c, h => by
    rw [List.mem_singleton.mp h]
    exact ⟨Nat.le_refl _, fun k hk => absurd hk List.not_mem_nil⟩
  | n + 1, c, h => by
    rcases List.mem_append.mp h with h | h
    · obtain ⟨h1, h2⟩ := allU_in n c h
      exact ⟨by omega, fun k hk => by obtain ⟨j, hj, e⟩ := h2 k hk; exact ⟨j, by omega, e⟩⟩
    · obtain ⟨d, hd, rfl⟩ := List.mem_map.mp h
      obtain ⟨h1, h2⟩ := allU_in n d hd
      refine ⟨by rw [List.length_append, List.length_singleton]; omega, fun k hk => ?_⟩
      rcases List.mem_append.mp hk with hk | hk
      · obtain ⟨j, hj, e⟩ := h2 k hk
        exact ⟨j, by omega, e⟩
      · exact ⟨n, by omega, List.mem_singleton.mp hk⟩
/-- as lcF; that the list under way is there is told, too -/
theorem lcG {J : It} {n : Nat} {G : Hp → Prop} {Y : Nat → Hp → V → Hp → Prop} (w : Walk J n G Y) {g : TG} {tt : TT} {te : TE} {vs : List Nat} {σ : L2.St} {H1 : Hp} {D : Addr} {Qd : Hp → Prop} (hD : H1 D = none) (hn : n < sizeLine) (keep : Nat → Bool) (R : Nat → V → Hp → Prop)
    (hR : ∀ i y H H', Sbt D D H H' → NoT H D → R i y H → R i y H') (hG : ∀ H, Same H1 H → G H)
    (hs : ∀ i x H H' (Q1 : VK) (Q0 : Hp → Prop), i < n → Same H1 H → H D ≠ none → Y i H x H' → (keep i = true → ∀ y H4, R i y H4 → Same H H4 → Q1 y H4) → (keep i = false → ∀ H4, Same H H4 → Q0 H4) →
      g x (wipe σ vs) H' fun σ2 H2 => wipe σ2 vs = wipe σ vs ∧ tt σ2 H2 fun b H3 => if b = true then te σ2 H3 Q1 else Q0 H3)
    (hd : ∀ H ys, Same H1 H → H D = some (.lst ys) → Got R keep n H ys → Qd H) :
    ∃ W : Nat → Nat → Hp → Prop, (∃ m, W 0 m (upd H1 D (.lst []))) ∧ ∀ i m H, W i m H →
      (J.stop i H ∧ Qd H) ∨ (J.go i H ∧ ∃ Nx : Hp → Prop, (∀ H', Nx H' → ∃ m', m' < m ∧ W (i + 1) m' H') ∧ ∀ x H', J.yld i H x H' → g x (wipe σ vs) H' fun σ2 H2 => wipe σ2 vs = wipe σ vs ∧ tt σ2 H2 fun b H3 =>
        if b = true then te σ2 H3 fun y H4 => ∃ acc, H4 D = some (.lst acc) ∧ acc.length < sizeLine ∧ Nx (upd H4 D (.lst (acc ++ [y]))) else Nx H3) := by
  have short : ∀ i, ((List.range i).filter keep).length ≤ i := fun i => by
    have := List.length_filter_le keep (List.range i)
    simpa using this
  refine lc_it w (fun i H => Same H1 H ∧ ∃ ys, H D = some (.lst ys) ∧ Got R keep i H ys) ⟨Same.new hD, [], upd_same, rfl, fun j i y h _ => by simp at h⟩ (fun i H _ p => hG H p.1) (fun i x H H' hi p y => ?_) (fun H p => ?_)
  · obtain ⟨s, ys, hy, hg⟩ := p
    refine hs i x H H' _ _ hi s (by rw [hy]; exact fun z => by cases z) y (fun k z H4 r s4 => ?_) (fun k H4 s4 => ?_)
    · have hy4 := s4 _ _ hy
      have no : NoT H4 D := .lst hy4
      have sb : Sbt D D H4 (upd H4 D (.lst (ys ++ [z]))) := (Sbt.refl H4).a
      have sb0 : Sbt D D H (upd H4 D (.lst (ys ++ [z]))) := (Sbt.of s4).trans sb
      exact ⟨ys, hy4, by have := short i; rw [hg.len]; omega, (Same.trans s s4).mut hD, _, upd_same, (hg.map fun i y q => hR i y _ _ sb0 (.lst hy) q).add k (hR i z _ _ sb no r)⟩
    · exact ⟨Same.trans s s4, ys, s4 _ _ hy, (hg.map fun i y q => hR i y _ _ (Sbt.of s4) (.lst hy) q).skip k⟩
  · obtain ⟨s, ys, hy, hg⟩ := p
    exact hd H ys s hy hg
def spChoices (K : PySem.W.Frag) : Sp := fun vs H Q _ => ∃ (n : Nat), vs = [.int (n : Nat)] ∧ n ≤ 8 ∧ ∀ H' p ys, Same H H' → H p = none → H' p = some (.lst ys) → LA H H' ys (chcU n) → Q (.ref p) H'
abbrev s__law_choices : Stmt := top 42
abbrev nm__law_choices : List Str := ["many_so", "found", "k", "row"]
abbrev pr__law_choices : List Str := ["many_so"]
theorem sc__law_choices : FnScope nm__law_choices pr__law_choices (defScope s__law_choices) := ⟨rfl, rfl, rfl, by decide +kernel, rfl, by decide +kernel, by decide +kernel⟩
section
variable {P : Program} {w : World} {K : PySem.W.Frag} {mg : Str → Option Value} {base : Heap}
theorem ok_choices (B : Bl mg) (D : Dt K mg "_law_choices" s__law_choices pr__law_choices) : Df P w K mg base CX0 1 "_law_choices" pr__law_choices (spChoices K) := by
  refine D.ok sc__law_choices (fun vs H Q E h => ?_) (fun f cdv A outer s H vs Q E hr h => ?_)
  · obtain ⟨n, rfl, _⟩ := h
    rfl
  · obtain ⟨n, rfl, n8, k⟩ := h
    refine ⟨_, (pss_cons (ps_set (i := 1) sc__law_choices.nd rfl (Or.inl rfl) (pe_lst (pa_cons (pe_lst pa_nil) pa_nil))) (pss_cons (ps_for PassesOwn.never rfl (pi_range1 (by rfl) B.range (pa_cons (pv 0) pa_nil)) (pg_name (i := 2) sc__law_choices.nd rfl (Or.inr rfl)) (pss_one (ps_set (i := 1) sc__law_choices.nd rfl (Or.inl rfl) (pe_op op_cat (pv 1) (pe_lc (own := [("row", 3)]) (g := gName 3) (tt := tYes) (te := tOp rCat (tVar 3) (tLst (tCons (tVar 2) tNil))) (by rfl) sc__law_choices.nd (pi_list (pv 1)) (blkOk_by (own := [("row", 3)]) (N := nm__law_choices) (sc := defScope s__law_choices) (by decide +kernel)) (fun _ _ _ _ _ => pg_name (i := 3) sc__law_choices.nd rfl (Or.inl rfl)) (fun _ _ _ _ _ => pts_nil) (fun _ _ _ _ _ => (pe_op op_cat (pv 3) (pe_lst (pa_cons (pv 2) pa_nil))))))))) (pss_one (ps_ret (pe_slice sl_list (pv 1) (po_some pe_int) po_none))))), ?_⟩
    dsimp only [cxOf, Cx.nox, L2.start]
    refine sq_go ⟨Nat.zero_le _, fun c0 hc0 => ⟨Nat.le_of_ble_eq_true rfl, fun p0 hp0 => ?_⟩⟩
    have n0 := Same.new (o := HO.lst []) hc0
    have e0 := n0.then_new (o := HO.lst [V.ref c0]) hp0
    have pz0 : H p0 = none := by
      cases z : H p0 with
      | none => rfl
      | some o => rw [n0 _ _ z] at hp0; cases hp0
    have la0 : LA H (upd (upd H c0 (HO.lst [])) p0 (HO.lst [V.ref c0])) [V.ref c0] (allU 0) := ⟨rfl, fun i y hy => by
      cases i with
      | zero =>
        obtain rfl := Option.some.inj hy
        exact ⟨[], c0, rfl, rfl, hc0, (Same.new hp0) _ _ upd_same⟩
      | succ i => simp at hy⟩
    have h0 : (upd (upd H c0 (HO.lst [])) p0 (HO.lst [V.ref c0])) p0 = some (.lst [V.ref c0]) := upd_same
    generalize upd (upd H c0 (HO.lst [])) p0 (HO.lst [V.ref c0]) = H0 at *
    refine sq_fr ⟨_, rfl, (n : Int), rfl, by omega, by omega, for_it walk_range (fun i σ H' => Same H H' ∧ ∃ (p : Addr) (ys : List V) (v2 v3 : Option V), σ = [some (.int (n : Nat)), some (.ref p), v2, v3] ∧ H p = none ∧ H' p = some (.lst ys) ∧ LA H H' ys (allU i)) ⟨e0, p0, _, _, _, rfl, pz0, h0, la0⟩ (fun _ _ _ _ _ => trivial) (fun i x σ Hz H2 hi q y => ?_) (fun σ H2 q => ?_)⟩
    · obtain ⟨e2, p2, ys2, v2, v3, rfl, n2, h2, la⟩ := q
      obtain ⟨rfl, rfl⟩ := y
      have hi3 : i < n := by omega
      have p8 : 2 ^ i ≤ 256 := Nat.le_trans (Nat.pow_le_pow_right (by decide) (show i ≤ 8 by omega)) (by decide)
      have yl : ys2.length = 2 ^ i := by rw [la.len, allU_len]
      dsimp only [gName]
      have si : (0 : Int) + (i : Int) = i := Int.zero_add _
      rw [si]
      refine ⟨_, rfl, _, rfl, p2, rfl, ⟨ys2, .of h2⟩, fun D hD => lcG (walk_list (K := K) (a := p2) (xs := ys2)) hD (by rw [yl, sizeLine_eq]; omega) (fun _ => true) (fun a y H' => ∃ q, y = .ref q ∧ H q = none ∧ q ≠ D ∧ H' q = some (.lst (((allU i).getD a [] ++ [(i : Int)]).map V.int))) (fun a y H3 H4 e nt q => ?_) (fun H3 e => .of (e _ _ h2)) (fun a x Hz2 H3 Q1 Q0 ha e3 hDs y q1 q0 => ?_) (fun H3 zs e3 hz g => ?_)⟩
      · obtain ⟨q, h1, h2, h3, h4⟩ := q
        exact ⟨q, h1, h2, h3, e _ _ h4 h3 h3⟩
      · obtain ⟨rfl, hx⟩ := y
        obtain ⟨c, q, hc, rfl, hq0, hq⟩ := (la.to e3).at_ a x hx
        have ec : (allU i).getD a [] = c := by rw [List.getD_eq_getElem?_getD, hc]; rfl
        rw [ec] at q1
        have cl := (allU_in i c (List.mem_of_getElem? hc)).1
        refine ⟨rfl, iteT (B := Q0 H3) ⟨_, rfl, _, rfl, Nat.le_of_ble_eq_true rfl, fun t ht => ⟨q, t, _, _, rfl, rfl, (Same.new ht) _ _ hq, upd_same, ?_, fun r hr => ?_⟩⟩⟩
        · rw [List.length_map, List.length_singleton, sizeLine_eq]; omega
        · have n1 := Same.new (o := HO.lst [V.int (i : Int)]) ht
          have n2 := n1.then_new (o := HO.lst (c.map V.int ++ [V.int (i : Int)])) hr
          refine q1 rfl _ _ ⟨r, rfl, ?_, ?_, ?_⟩ n2
          · cases z : H r with
            | none => rfl
            | some o => rw [n1 _ _ ((e2.trans e3) _ _ z)] at hr; cases hr
          · rintro rfl
            cases z : H3 r with
            | none => exact hDs z
            | some o => rw [n1 _ _ z] at hr; cases hr
          · rw [upd_same, List.map_append]
            rfl
      · have gl := g.len
        rw [all_kept, List.length_range, yl] at gl
        have la2 : LA H H3 zs ((allU i).map fun c => c ++ [(i : Int)]) := ⟨by rw [List.length_map, allU_len, gl], fun j y hy => by
          have hj : j < 2 ^ i := by rw [← gl]; exact (List.getElem?_eq_some_iff.mp hy).1
          obtain ⟨q, h1, h2, _, h4⟩ := g.at_ j j y hy (by rw [all_kept, List.getElem?_range (by rw [yl]; exact hj)])
          have hj2 : j < (allU i).length := by rw [allU_len]; exact hj
          have e1 : (allU i).getD j [] = (allU i)[j] := by rw [List.getD_eq_getElem?_getD, List.getElem?_eq_getElem hj2]; rfl
          rw [e1] at h4
          exact ⟨(allU i)[j] ++ [(i : Int)], q, by rw [List.getElem?_map, List.getElem?_eq_getElem hj2]; rfl, h1, h2, h4⟩⟩
        refine ⟨p2, D, ys2, zs, rfl, rfl, e3 _ _ h2, hz, by rw [yl, gl, sizeLine_eq]; omega, fun r hr => ?_⟩
        have n4 := Same.new (o := HO.lst (ys2 ++ zs)) hr
        have e4 := e3.trans n4
        refine ⟨e2.trans e4, r, ys2 ++ zs, _, _, rfl, ?_, upd_same, (la.to e4).app (la2.to n4)⟩
        cases z : H r with
        | none => rfl
        | some o => rw [(e2.trans e3) _ _ z] at hr; cases hr
    · obtain ⟨e2, p2, ys2, v2, v3, rfl, n2, h2, la⟩ := q
      rw [show ((n : Int)).toNat = n by omega] at la
      dsimp only
      refine ⟨_, rfl, 1, rfl, p2, ys2, rfl, .of h2, fun r hr => ?_⟩
      have ec : cutV ys2 (some 1) none = ys2.drop 1 := cut_from ys2 1
      rw [ec]
      have n4 := Same.new (o := HO.lst (ys2.drop 1)) hr
      refine k _ r _ (e2.trans n4) ?_ upd_same ((la.drop 1).to n4)
      cases z : H r with
      | none => rfl
      | some o => rw [e2 _ _ z] at hr; cases hr
end
end Ws
/-! ## Q25f -/
namespace Ws
open PySem PySem.Spec PyProof.Rows L2 RZ SD
local macro_rules | `(tactic| walk_at "nf") => `(tactic| dsimp only [tNext, tSeq, tDrop, tRet, tRetN, tIfS, tAsg, gName, gTup, gCons, gNil, tVar, tC, tOp, tUn, rI, rI0, rU, rEq, rNe, tTest, tChain, tAnd, tOr, tNot, tAndV, tOrV, tNotV, tIf, tCB, tCKw, tCons, tNil, tTup, tLst, tCa, tCallS, tB, rIxT, rIxL, rIxS, cxOf, Cx.nox, Cx.wish, Cx.blk, L2.start, tPar, tPar3, tNever, tYes, tBits, tRz, tBM, rAppend, tyV, tXf, suiteEnds, gSub, rSetL, tBreak, rMax, tDGet, sDPut, tSl, tNoPart, tPart, tDisp, tPairs, tDGet2, tDNewK, tAugS, ipI, rGetL, tDIn, tDNotIn, tBM0, rPop])
local macro_rules | `(tactic| walk_at "sx") => `(tactic| simp only [wipe, List.cons.injEq, and_assoc, exists_and_left, and_true, List.map_cons, List.map_nil, List.length_cons, List.length_nil, List.cons_append, List.nil_append, List.append_nil, Nat.reduceAdd, Nat.reduceSub, List.replicate, List.getElem?_cons_zero, List.getElem?_cons_succ, List.set_cons_zero, List.set_cons_succ, Option.some.injEq, V.int.injEq, V.bl.injEq, V.ref.injEq, V.str.injEq, exists_eq_left', exists_eq_left, true_and, Bool.true_eq_false, Bool.false_eq_true, if_true, if_false])

def stV (ls : List Ln) (acc : Ln) (k : Int) : Ln := (Sq.addk acc.1 (ls.getD k.toNat ([], [])).1 1, acc.2 ++ [(ls.getD k.toNat ([], [])).1] ++ (ls.getD k.toNat ([], [])).2)
def starV (m : Nat) (ls : List Ln) (c : List Int) : Ln := c.foldl (stV ls) (List.replicate m 0, [])
def starU (m : Nat) (ls : List Ln) : List Ln := (List.replicate m 0, []) :: (chcU ls.length).map (starV m ls)
structure AccV (m t : Nat) (acc : Ln) : Prop where
  l : acc.1.length = m
  r : ∀ r ∈ acc.2, r.length = m ∧ ∀ x ∈ r, 0 ≤ x
  n : acc.2.length ≤ 13 * t
theorem AccV.step {m t : Nat} {ls : List Ln} {acc : Ln} (h : AccV m t acc) (o : SetOk m ls) {j : Nat} (hj : j < ls.length) : AccV m (t + 1) (stV ls acc (j : Int)) := by
  have e : ls.getD ((j : Int)).toNat ([], []) = ls[j] := by rw [Int.toNat_natCast, List.getD_eq_getElem?_getD, List.getElem?_eq_getElem hj]; rfl
  have ol := o.ln _ (List.getElem_mem hj)
  have o12 := o.p12 _ (List.getElem_mem hj)
  unfold stV
  rw [e]
  refine ⟨?_, fun r hr => ?_, ?_⟩
  · show (List.zipWith _ acc.1 (ls[j]).1).length = m
    rw [List.length_zipWith, h.l, ol.bl, Nat.min_self]
  · rcases List.mem_append.mp hr with h1 | h1
    · rcases List.mem_append.mp h1 with h2 | h2
      · exact h.r r h2
      · rw [List.mem_singleton.mp h2]; exact ⟨ol.bl, fun x hx => (ol.bb x hx).1⟩
    · exact ⟨(ol.pl r h1).1, fun x hx => ((ol.pl r h1).2 x hx).1⟩
  · show (acc.2 ++ [(ls[j]).1] ++ (ls[j]).2).length ≤ 13 * (t + 1)
    rw [List.length_append, List.length_append, List.length_singleton]
    have := h.n
    omega
theorem foldV_ok {m : Nat} {ls : List Ln} (o : SetOk m ls) : ∀ (c : List Int) (t : Nat) (acc : Ln), AccV m t acc → (∀ k ∈ c, ∃ j : Nat, j < ls.length ∧ k = (j : Int)) → AccV m (t + c.length) (c.foldl (stV ls) acc)
  | [], t, acc, h, _ => h
  | k :: c, t, acc, h, hk => by
    obtain ⟨j, hj, rfl⟩ := hk k List.mem_cons_self
    have := foldV_ok o c (t + 1) _ (h.step o hj) fun k hk' => hk k (List.mem_cons_of_mem _ hk')
    rw [List.length_cons, Nat.add_comm c.length 1, ← Nat.add_assoc]
    exact this
theorem starV_ok {m : Nat} {ls : List Ln} (o : SetOk m ls) {c : List Int} (hc : c ∈ chcU ls.length) : AccV m c.length (starV m ls c) := by
  have := foldV_ok o c 0 (List.replicate m 0, []) ⟨List.length_replicate, fun r hr => absurd hr List.not_mem_nil, Nat.zero_le _⟩ (allU_in _ c (List.mem_of_mem_drop hc)).2
  rw [Nat.zero_add] at this
  exact this
theorem LA.off {H0 H : Hp} {F : Addr} {o : HO} {ys : List V} {cs : List (List Int)} (h : LA H0 H ys cs) (hF : H0 F ≠ none) : LA H0 (upd H F o) ys cs := ⟨h.len, fun i y hy => by
  obtain ⟨c, q, h1, h2, h3, h4⟩ := h.at_ i y hy
  exact ⟨c, q, h1, h2, h3, by rw [upd_ne (show q ≠ F from fun e => hF (by rw [← e]; exact h3))]; exact h4⟩⟩
def spStarLines (K : PySem.W.Frag) : Sp := fun vs H Q _ => ∃ (m : Nat) (v : V) (ls : List Ln), vs = [v] ∧ Dp K H v (setD m ls) ∧ SetOk m ls ∧ ls.length ≤ 8 ∧ ∀ H' u, Same H H' → Dp K H' u (linesD (cnL (starU m ls))) → Q u H'
abbrev s__law_star_lines : Stmt := top 43
abbrev nm__law_star_lines : List Str := ["value", "zeros", "found", "choice", "base", "rows", "k", "line"]
abbrev pr__law_star_lines : List Str := ["value"]
theorem sc__law_star_lines : FnScope nm__law_star_lines pr__law_star_lines (defScope s__law_star_lines) := ⟨rfl, rfl, rfl, by decide +kernel, rfl, by decide +kernel, by decide +kernel⟩
section
variable {P : Program} {w : World} {K : PySem.W.Frag} {mg : Str → Option Value} {base : Heap}
theorem ok_star_lines (B : Bl mg) (F1 : Df P w K mg base CX0 1 "_law_choices" pr__law_choices (spChoices K)) (F2 : Df P w K mg base CX0 1 "_law_plus" pr__law_plus (spPlus K)) (F3 : Df P w K mg base CX0 1 "_law_clean" pr__law_clean (spClean K)) (D : Dt K mg "_law_star_lines" s__law_star_lines pr__law_star_lines) : Df P w K mg base CX0 2 "_law_star_lines" pr__law_star_lines (spStarLines K) := by
  refine D.ok sc__law_star_lines (fun vs H Q E h => ?_) (fun f cdv A outer s H vs Q E hr h => ?_)
  · obtain ⟨m, v, ls, rfl, _⟩ := h
    rfl
  · obtain ⟨m, v, ls, rfl, hd, ha, l8, k⟩ := h
    obtain ⟨p1, u1, rfl, hp1, hu1⟩ := set_view hd
    obtain ⟨q1, z1, rfl, hq1, hz1l, hz1at, hz1⟩ := tup_view hu1
    have m1 := ha.m1
    have m4 := ha.m4
    refine ⟨_, (pss_cons (ps_set (i := 1) sc__law_star_lines.nd rfl (Or.inl rfl) (pe_op (show OpR _ _ (rRepZ K) from op_repZ) (pe_tup (pa_cons pe_int pa_nil)) (pe_ix ix_tup (pv 0) pe_int (fun _ _ => rfl)))) (pss_cons (ps_set (i := 2) sc__law_star_lines.nd rfl (Or.inl rfl) (pe_lst (pa_cons (pe_tup (pa_cons (pv 1) (pa_cons (pe_tup pa_nil) pa_nil))) pa_nil))) (pss_cons (ps_for PassesOwn.never rfl (pi_list (pe_f F1 (hr.mono (by decide)) pass0 (pa_cons (pe_callB call_len_seq (by rfl) B.len PySem.boot_len (pa_cons (pe_ix ix_tup (pv 0) pe_int (fun _ _ => rfl)) pa_nil)) pa_nil))) (pg_name (i := 3) sc__law_star_lines.nd rfl (Or.inl rfl)) (pss_cons (ps_par (i := 4) (j := 5) (by rfl) sc__law_star_lines.nd rfl rfl (by decide) rfl rfl (pa_cons (pv 1) (pa_cons (pe_tup pa_nil) pa_nil)) (by rfl)) (pss_cons (ps_for PassesOwn.never rfl (pi_list (pv 3)) (pg_name (i := 6) sc__law_star_lines.nd rfl (Or.inl rfl)) (pss_cons (ps_set (i := 7) sc__law_star_lines.nd rfl (Or.inl rfl) (pe_ix ix_tup (pe_ix ix_tup (pv 0) pe_int (fun _ _ => rfl)) (pv 6) (fun _ _ => rfl))) (pss_one (ps_par (i := 4) (j := 5) (by rfl) sc__law_star_lines.nd rfl rfl (by decide) rfl rfl (pa_cons (pe_f F2 (hr.mono (by decide)) pass0 (pa_cons (pv 4) (pa_cons (pe_ix ix_tup (pv 7) pe_int (fun _ _ => rfl)) pa_nil))) (pa_cons (pe_op (show OpR _ _ (rCatZ K) from op_catZ) (pe_op (show OpR _ _ (rCatZ K) from op_catZ) (pv 5) (pe_tup (pa_cons (pe_ix ix_tup (pv 7) pe_int (fun _ _ => rfl)) pa_nil))) (pe_ix ix_tup (pv 7) pe_int (fun _ _ => rfl))) pa_nil)) (by rfl))))) (pss_one (ps_expr (pe_bm PySem.F.plainAttrs_list PySem.F.slot_list_append PySem.F.type_list_append mt_append (pv 2) (pa_cons (pe_tup (pa_cons (pv 4) (pa_cons (pv 5) pa_nil))) pa_nil))))))) (pss_one (ps_ret (pe_f F3 (hr.mono (by decide)) pass0 (pa_cons (pv 2) pa_nil))))))), ?_⟩
    dsimp only [cxOf, Cx.nox, L2.start]
    refine sq_go ⟨Nat.le_of_ble_eq_true rfl, fun t ht => ⟨_, rfl, p1, _, 0, _, rfl, rfl, (Same.new ht).seqT hp1, rfl, t, m, _, rfl, rfl, .of upd_same, by omega, by decide, fun H2 zr e2 hz => ?_⟩⟩
    rw [rep_one] at hz
    have e2 := (Same.new ht).trans e2
    have hz0 : Dp K H2 (.ref zr) (intsD (List.replicate m 0)) := Dp.tup_ints (by rw [List.map_replicate]; exact hz)
    refine sq_go (Lits.mk (K := K) (H0 := H2) (ds := [lineD (List.replicate m 0, [])]) (Lits.cons (Lit.tup (Lits.cons (Lit.var rfl hz0) (Lits.cons (Lit.tup Lits.nil (Nat.zero_le _)) Lits.nil)) (Nat.le_of_ble_eq_true rfl)) Lits.nil) (Same.refl _) (fun H3 F ys e3 nF hF hFa => ?_) (Nat.le_of_ble_eq_true rfl))
    have gF : Gro K H2 H3 F ys [lineD (List.replicate m 0, [])] := ⟨hF, hFa, nF, by
      show (noList (lineD _) && true) = true
      rw [noList_ln]
      rfl⟩
    have hF3 : H3 F ≠ none := by rw [hF]; exact fun z => by cases z
    refine sq_fr ⟨_, rfl, p1, _, 1, _, rfl, rfl, (e2.trans e3).seqT hp1, rfl, q1, z1, rfl, .inr ((e2.trans e3).seqT hq1), ?_⟩
    rw [hz1l]
    refine ⟨ls.length, rfl, l8, fun H4 pc cs e4 npc hpc la => ?_⟩
    have gF4 := gF.same e4
    have e24 := e3.trans e4
    have nFP : F ≠ pc := ne_of_none gF.h npc
    have chl : (chcU ls.length).length ≤ 256 := by
      unfold chcU
      rw [List.length_drop, allU_len]
      have : 2 ^ ls.length ≤ 2 ^ 8 := Nat.pow_le_pow_right (by decide) l8
      omega
    refine ⟨pc, rfl, ⟨cs, .of hpc⟩, for_it (walk_list (K := K) (a := pc) (xs := cs)) (fun i σ H' => Same H2 H' ∧ H' pc = some (.lst cs) ∧ LA H3 H' cs (chcU ls.length) ∧ ∃ (ys : List V) (v3 v4 v5 v6 v7 : Option V), σ = [some (.ref p1), some (.ref zr), some (.ref F), v3, v4, v5, v6, v7] ∧ Gro K H2 H' F ys (((List.replicate m 0, []) :: ((chcU ls.length).take i).map (starV m ls)).map lineD)) ⟨e24, hpc, la, ys, _, _, _, _, _, rfl, gF4⟩ (fun i σ H' _ q => .of q.2.1) (fun i x σ Hz H5 hi q y => ?_) (fun σ H5 q => ?_)⟩
    · obtain ⟨e5, hpc5, la5, ys, v3, v4, v5, v6, v7, rfl, g5⟩ := q
      obtain ⟨rfl, hx⟩ := y
      obtain ⟨c, qc, hc, rfl, hqc0, hqc⟩ := la5.at_ i _ hx
      obtain ⟨cln, cm⟩ := allU_in _ c (List.mem_of_mem_drop (List.mem_of_getElem? hc))
      dsimp only [gName]
      show tPar _ _ _ _ _ _
      refine ⟨_, rfl, Nat.zero_le _, fun t0 ht0 => ⟨_, _, rfl, ?_⟩⟩
      have n6 := Same.new (o := HO.tup []) ht0
      have d0 : Dp K (upd H5 t0 (HO.tup [])) (.ref t0) (rowsD []) := .tup (.of upd_same) .nil
      have e6 := e5.trans n6
      have g6 := g5.same n6
      have la6 := la5.to n6
      have hpc6 := n6 _ _ hpc5
      have hqc6 := n6 _ _ hqc
      have hz6 := (hz0.to e5).to n6
      generalize upd H5 t0 (HO.tup []) = H6 at *
      have tk : ((chcU ls.length).take (i + 1)).map (starV m ls) = ((chcU ls.length).take i).map (starV m ls) ++ [starV m ls c] := by rw [take_succ_of hc, List.map_append]; rfl
      dsimp only
      refine sq_fr ⟨_, rfl, qc, rfl, ⟨_, .of hqc6⟩, for_it (walk_list (K := K) (a := qc) (xs := c.map V.int)) (fun j σ H' => Same H6 H' ∧ ∃ (bv rv : V) (v6 v7 : Option V), σ = [some (.ref p1), some (.ref zr), some (.ref F), some (.ref qc), some bv, some rv, v6, v7] ∧ Dp K H' bv (intsD ((c.take j).foldl (stV ls) (List.replicate m 0, [])).1) ∧ Dp K H' rv (rowsD ((c.take j).foldl (stV ls) (List.replicate m 0, [])).2) ∧ AccV m j ((c.take j).foldl (stV ls) (List.replicate m 0, []))) ⟨Same.refl _, .ref zr, .ref t0, _, _, rfl, hz6, d0, ⟨List.length_replicate, fun r hr => absurd hr List.not_mem_nil, Nat.zero_le _⟩⟩ (fun i σ H' _ q => .of (q.1 _ _ hqc6)) (fun j x σ Hz H7 hj q y => ?_) (fun σ H7 q => ?_)⟩
      · obtain ⟨e7, bv, rv, v6', v7', rfl, hbv, hrv, ok⟩ := q
        obtain ⟨rfl, hx2⟩ := y
        obtain ⟨kk, hk1, rfl⟩ := ints_get hx2
        obtain ⟨jj, hjj, rfl⟩ := cm kk (List.mem_of_getElem? hk1)
        have e27 := (e2.trans e6).trans e7
        obtain ⟨zl, hzl⟩ : ∃ z, z1[jj]? = some z := ⟨_, List.getElem?_eq_getElem (by omega)⟩
        obtain ⟨l, hl1, hdl⟩ := hz1at jj zl hzl
        obtain ⟨pl, b, u, rfl, hb, hu, hv⟩ := ln_v (hdl.to e27)
        obtain ⟨pr, zr', rfl, hzr, hzrl, -, hzra⟩ := tup_view hv
        have hp7 := e27.seqT hp1
        have hq7 := e27.seqT hq1
        have ol := ha.ln l (List.mem_of_getElem? hl1)
        have o12 := ha.p12 l (List.mem_of_getElem? hl1)
        have st := ok.step ha hjj
        have el : ls.getD ((jj : Int)).toNat ([], []) = l := by rw [Int.toNat_natCast, List.getD_eq_getElem?_getD, hl1]; rfl
        have fold : (c.take (j + 1)).foldl (stV ls) (List.replicate m 0, []) = stV ls ((c.take j).foldl (stV ls) (List.replicate m 0, [])) (jj : Int) := by
          rw [take_succ_of hk1, List.foldl_append]
          rfl
        have jl : j < c.length := (List.getElem?_eq_some_iff.mp hk1).1
        have okn := ok.n
        have okl := ok.l
        rw [fold]
        clear fold
        generalize (c.take j).foldl (stV ls) (List.replicate m 0, []) = acc at *
        obtain ⟨pq, zq, rfl, hzq, hzqa⟩ := hrv.tup_inv
        have lq := hzqa.length
        rw [List.length_map] at lq
        dsimp only [gName]
        refine sq_go ⟨_, rfl, p1, _, 1, _, rfl, rfl, hp7, rfl, _, rfl, q1, z1, (jj : Int), .ref pl, rfl, rfl, hq7, atI_nat hzl, ?_⟩
        refine ⟨_, rfl, _, rfl, pl, [b, .ref pr], 0, b, rfl, rfl, hb, rfl, bv, b, acc.1, l.1, rfl, hbv, hu, by rw [okl]; omega, fun H8 r8 e8 hr8 => ?_⟩
        refine ⟨_, rfl, _, rfl, pl, [b, .ref pr], 0, b, rfl, rfl, e8.seqT hb, rfl, Nat.le_of_ble_eq_true rfl, fun tA htA => ⟨pq, tA, _, _, rfl, rfl, (Same.new htA).seqT (e8.seqT hzq), .of upd_same, ?_, fun H9 r9 e9 h9 => ⟨_, rfl, pl, [b, .ref pr], 1, .ref pr, rfl, rfl, (((e8.then_new htA).trans e9)).seqT hb, rfl, r9, pr, _, zr', rfl, rfl, h9, (((e8.then_new htA).trans e9)).seqT hzr, ?_, fun HB rB eB hB => ⟨_, _, rfl, ?_⟩⟩⟩⟩
        · rw [List.length_singleton]; omega
        · rw [List.length_append, List.length_singleton]; omega
        · have eX := ((Same.new (o := HO.tup [b]) htA).trans e9).trans eB
          have eY := e8.trans eX
          refine ⟨e7.trans eY, r8, .ref rB, _, _, rfl, ?_, ?_, st⟩
          · unfold stV
            rw [el]
            exact hr8.to eX
          · unfold stV
            rw [el]
            show Dp K HB (.ref rB) (.tuple ((acc.2 ++ [l.1] ++ l.2).map intsD))
            rw [List.map_append, List.map_append]
            exact .tup hB (((hzqa.to eY).append (.cons (hu.to eY) .nil)).append (hzra.to eY))
      · obtain ⟨e7, bv, rv, v6', v7', rfl, hbv, hrv, ok⟩ := q
        rw [List.length_map, List.take_length] at hbv hrv
        rw [show c.foldl (stV ls) (List.replicate m 0, []) = starV m ls c from rfl] at hbv hrv
        have g7 := g6.same e7
        have yl := g7.dp.length
        rw [List.length_map, List.length_cons, List.length_map, List.length_take] at yl
        dsimp only
        refine ⟨_, rfl, .inl ⟨rfl, _, .of g7.h⟩, _, rfl, _, rfl, Nat.le_of_ble_eq_true rfl, fun tA htA => ?_⟩
        have n8 := Same.new (o := HO.tup [bv, rv]) htA
        have g8 := g7.same n8
        have dl : Dp K (upd H7 tA (HO.tup [bv, rv])) (.ref tA) (lineD (starV m ls c)) := .tup (.of upd_same) (.cons (hbv.to n8) (.cons (hrv.to n8) .nil))
        have e8 := (e6.trans e7).trans n8
        have la8 := (la6.to e7).to n8
        have hpc8 := n8 _ _ (e7 _ _ hpc6)
        generalize upd H7 tA (HO.tup [bv, rv]) = H8 at *
        refine ⟨F, ys, .ref tA, rfl, rfl, g8.h, slt (by omega), e8.mut g8.z, by rw [upd_ne (fun h => nFP h.symm)]; exact hpc8, la8.off hF3, ys ++ [.ref tA], _, _, _, _, _, rfl, ?_⟩
        rw [tk, ← List.cons_append, List.map_append]
        exact g8.app dl (noList_ln _)
    · obtain ⟨e5, hpc5, la5, ys, v3, v4, v5, v6, v7, rfl, g5⟩ := q
      rw [la5.len, List.take_length] at g5
      dsimp only
      refine ⟨_, rfl, m, .ref F, starU m ls, rfl, .inr (.lst (.of g5.h) g5.dp), ⟨m1, fun l hl => ?_, ?_⟩, fun H' u e hu => k _ _ ((e2.trans e5).trans e) hu⟩
      · rcases List.mem_cons.mp hl with rfl | hl
        · exact ⟨fun r hr => absurd hr List.not_mem_nil, Nat.zero_le _⟩
        · obtain ⟨c, hc, rfl⟩ := List.mem_map.mp hl
          have ok := starV_ok ha hc
          have okn := ok.n
          obtain ⟨cln, _⟩ := allU_in _ c (List.mem_of_mem_drop hc)
          exact ⟨ok.r, by omega⟩
      · show (_ :: _).length ≤ 1000
        rw [List.length_cons, List.length_map]
        omega
end
end Ws
/-! ## Q25g -/
namespace Ws
open PySem PySem.Spec PyProof.Rows L2 RZ SD
local macro_rules | `(tactic| walk_at "nf") => `(tactic| dsimp only [tNext, tSeq, tDrop, tRet, tRetN, tIfS, tAsg, gName, gTup, gCons, gNil, tVar, tC, tOp, tUn, rI, rI0, rU, rEq, rNe, tTest, tChain, tAnd, tOr, tNot, tAndV, tOrV, tNotV, tIf, tCB, tCKw, tCons, tNil, tTup, tLst, tCa, tCallS, tB, rIxT, rIxL, rIxS, cxOf, Cx.nox, Cx.wish, Cx.blk, L2.start, tPar, tPar3, tNever, tYes, tBits, tRz, tBM, rAppend, tyV, tXf, suiteEnds, gSub, rSetL, tBreak, rMax, tDGet, sDPut, tSl, tNoPart, tPart, tDisp, tPairs, tDGet2, tDNewK, tAugS, ipI, rGetL, tDIn, tDNotIn, tBM0, rPop])
local macro_rules | `(tactic| walk_at "sx") => `(tactic| simp only [wipe, List.cons.injEq, and_assoc, exists_and_left, and_true, List.map_cons, List.map_nil, List.length_cons, List.length_nil, List.cons_append, List.nil_append, List.append_nil, Nat.reduceAdd, Nat.reduceSub, List.replicate, List.getElem?_cons_zero, List.getElem?_cons_succ, List.set_cons_zero, List.set_cons_succ, Option.some.injEq, V.int.injEq, V.bl.injEq, V.ref.injEq, V.str.injEq, exists_eq_left', exists_eq_left, true_and, Bool.true_eq_false, Bool.false_eq_true, if_true, if_false])

def geB (row p : Sq.Row) : Bool := (Sq.subr row p).all fun x => decide (0 ≤ x)
def hitB (one found : List Sq.Row) (row : Sq.Row) : Bool := (one.filter (geB row)).any fun p => found.any fun z => decide (z = Sq.subr row p)
def sumsR (one other grid : List Sq.Row) : List Sq.Row := grid.filter (hitB one other)
def starRowsR (one : List Sq.Row) (z : Sq.Row) (rest : List Sq.Row) : List Sq.Row := rest.foldl (fun found row => if hitB (one.filter fun p => !decide (p = z)) found row = true then found ++ [row] else found) [z]
def RowsM (m : Nat) (rows : List Sq.Row) : Prop := ∀ r ∈ rows, r.length = m
def spSums (K : PySem.W.Frag) : Sp := fun vs H Q _ => ∃ (m : Nat) (v1 v2 v3 : V) (one other grid : List Sq.Row), vs = [v1, v2, v3] ∧ Dp K H v1 (.list (one.map intsD)) ∧ Dp K H v2 (.list (other.map intsD)) ∧ Dp K H v3 (.list (grid.map intsD)) ∧ 1 ≤ m ∧ m ≤ 10 ∧ RowsM m one ∧ RowsM m other ∧ RowsM m grid ∧ one.length ≤ 1000 ∧ grid.length ≤ 1000 ∧
  ∀ H' p ys, Same H H' → H p = none → H' p = some (.lst ys) → DpAll K H' ys ((sumsR one other grid).map intsD) → Q (.ref p) H'
def spStarRows (K : PySem.W.Frag) : Sp := fun vs H Q _ => ∃ (m : Nat) (v1 v3 : V) (one rest : List Sq.Row) (z : Sq.Row), vs = [v1, v3] ∧ Dp K H v1 (.list (one.map intsD)) ∧ Dp K H v3 (.list ((z :: rest).map intsD)) ∧ 1 ≤ m ∧ m ≤ 10 ∧ RowsM m one ∧ RowsM m (z :: rest) ∧ one.length ≤ 1000 ∧ rest.length ≤ 1000 ∧
  ∀ H' p ys, Same H H' → H p = none → H' p = some (.lst ys) → DpAll K H' ys ((starRowsR one z rest).map intsD) → Q (.ref p) H'
section
variable {K : PySem.W.Frag}
theorem subr_len {m : Nat} {r p : Sq.Row} (h1 : r.length = m) (h2 : p.length = m) : (Sq.subr r p).length = m := by
  show (List.zipWith _ r p).length = m
  rw [List.length_zipWith, h1, h2, Nat.min_self]
theorem ge_test {σ : L2.St} {H : Hp} {R : Bool → Hp → Prop} {ir jp m : Nat} {row part : Sq.Row} {rv pv' : V} (h1 : σ[ir]? = some (some rv)) (h2 : σ[jp]? = some (some pv')) (d1 : Dp K H rv (intsD row)) (d2 : Dp K H pv' (intsD part)) (m1 : 1 ≤ m) (m10 : m ≤ 10) (l1 : row.length = m) (l2 : part.length = m)
    (k : ∀ H', Same H H' → R (geB row part) H') : tTest (tOp (rI0 fun i j => V.bl (decide (j ≤ i))) (tCB (rMinTI K) (tCons (tCa (spMinus K) E0 (tCons (tVar ir) (tCons (tVar jp) tNil))) tNil)) (tC (V.int 0))) σ H R := by
  refine ⟨_, h1, _, h2, rv, pv', row, part, rfl, d1, d2, by omega, fun H' u e hu => ?_⟩
  obtain ⟨q, rfl, hq⟩ := hu.ints_tup
  have sl := subr_len l1 l2
  refine ⟨q, _, rfl, hq, by omega, fun mn h3 h4 => ⟨_, _, rfl, rfl, _, rfl, ?_⟩⟩
  have eb : decide (0 ≤ mn) = geB row part := by
    unfold geB
    rw [Bool.eq_iff_iff, decide_eq_true_eq, List.all_eq_true]
    constructor
    · exact fun h x hx => decide_eq_true (Int.le_trans h (h4 x hx))
    · exact fun h => of_decide_eq_true (h mn h3)
  rw [eb]
  exact k _ e
theorem parts_comp {f : Sq.Row → Bool} {tt : TT} {σ : L2.St} {H : Hp} {Q : VK} {io jp : Nat} {vs : List Nat} {po : Addr} {os : List V} {one : List Sq.Row} (ho : σ[io]? = some (some (.ref po))) (hpo : SqL K H po os) (ha : DpAll K H os (one.map intsD)) (n1 : one.length ≤ 1000)
    (w3 : ∀ y : V, ((wipe σ vs).set jp (some y))[jp]? = some (some y)) (w4 : ∀ y : V, wipe ((wipe σ vs).set jp (some y)) vs = wipe σ vs)
    (ht : ∀ (y : V) (p : Sq.Row) (H1 : Hp) (R : Bool → Hp → Prop), p ∈ one → Same H H1 → Dp K H1 y (intsD p) → (∀ H2, Same H1 H2 → R (f p) H2) → tt ((wipe σ vs).set jp (some y)) H1 R)
    (q : ∀ H' D ys, Same H H' → H D = none → H' D = some (.lst ys) → DpAll K H' ys ((one.filter f).map intsD) → Q (.ref D) H') : tLc (iList K (tVar io)) (gName jp) tt (tVar jp) vs σ H Q := by
  have ol := ha.length
  rw [List.length_map] at ol
  refine ⟨_, ho, po, rfl, ⟨os, hpo⟩, fun D hD => lcF (walk_list (K := K) (a := po) (xs := os)) hD (by rw [ol, sizeLine_eq]; omega) (fun i => f (one.getD i [])) (fun i y H => Dp K H y (intsD (one.getD i []))) (fun i y H H' e n q => keepN e n n _ _ (noList_ints _) q) (fun H1 e => e.seq hpo) (fun i x H2 H3 Q1 Q0 hi e2 y q1 q0 => ?_) (fun H2 ys e2 hy g => ?_)⟩
  · obtain ⟨rfl, hx⟩ := y
    obtain ⟨d, hd1, hd2⟩ := ha.getV hx
    rw [List.getElem?_map] at hd1
    obtain ⟨row, hr1, rfl⟩ := Option.map_eq_some_iff.mp hd1
    have er : one.getD i [] = row := by rw [List.getD_eq_getElem?_getD, hr1]; rfl
    rw [er] at q1 q0
    refine ⟨w4 _, ht x row _ _ (List.mem_of_getElem? hr1) e2 (hd2.to e2) fun H5 e5 => ?_⟩
    show if f row = true then _ else _
    cases z : f row with
    | true => exact iteT ⟨_, w3 _, q1 z _ _ (hd2.to (e2.trans e5)) e5⟩
    | false => exact iteF (q0 z _ e5)
  · have hd := g.dp (fun i => intsD (one.getD i [])) fun i y q => q
    have em : ((List.range os.length).filter fun i => f (one.getD i [])).map (fun i => intsD (one.getD i [])) = (one.filter f).map intsD := by
      rw [ol, ← filter_get one [] f, List.map_map]
      rfl
    rw [em] at hd
    exact q _ _ ys e2 hD hy hd
theorem hit_test {σ : L2.St} {H : Hp} {R : Bool → Hp → Prop} {ip jp ir ix m : Nat} {vs : List Nat} {pp : Addr} {ps : List V} {parts found : List Sq.Row} {row : Sq.Row} {rv xv : V} (hp : σ[ip]? = some (some (.ref pp))) (hpp : SqL K H pp ps) (ha : DpAll K H ps (parts.map intsD))
    (hrow : Dp K H rv (intsD row)) (hx : Dp K H xv (.list (found.map intsD))) (w1 : ∀ y : V, ((wipe σ vs).set jp (some y))[ir]? = some (some rv)) (w2 : ∀ y : V, ((wipe σ vs).set jp (some y))[ix]? = some (some xv)) (w3 : ∀ y : V, ((wipe σ vs).set jp (some y))[jp]? = some (some y)) (w4 : ∀ y : V, wipe ((wipe σ vs).set jp (some y)) vs = wipe σ vs)
    (m10 : m ≤ 10) (rl : row.length = m) (n1 : parts.length ≤ 1000) (k : ∀ H', Same H H' → R (parts.any fun p => found.any fun z => decide (z = Sq.subr row p)) H') :
    tTest (tOp (rNeD K) (tLc (iList K (tVar ip)) (gName jp) (tTest (tOp (rInD K) (tCa (spMinus K) E0 (tCons (tVar ir) (tCons (tVar jp) tNil))) (tVar ix))) (tC (V.int 1)) vs) (tLst tNil)) σ H R := by
  have pl := ha.length
  rw [List.length_map] at pl
  refine ⟨_, hp, pp, rfl, ⟨ps, hpp⟩, fun D hD => lcF (walk_list (K := K) (a := pp) (xs := ps)) hD (by rw [pl, sizeLine_eq]; omega) (fun i => found.any fun z => decide (z = Sq.subr row (parts.getD i []))) (fun i y _ => y = .int 1) (fun i y H H' _ _ q => q) (fun H1 e => e.seq hpp) (fun i x H2 H3 Q1 Q0 hi e2 y q1 q0 => ?_) (fun H2 ys e2 hy g => ?_)⟩
  · obtain ⟨rfl, hxx⟩ := y
    obtain ⟨d, hd1, hd2⟩ := ha.getV hxx
    rw [List.getElem?_map] at hd1
    obtain ⟨part, hr1, rfl⟩ := Option.map_eq_some_iff.mp hd1
    have er : parts.getD i [] = part := by rw [List.getD_eq_getElem?_getD, hr1]; rfl
    rw [er] at q1 q0
    refine ⟨w4 _, _, w1 _, _, w3 _, rv, x, row, part, rfl, hrow.to e2, hd2.to e2, by omega, fun H5 u e5 hu => ⟨_, w2 _, intsD (Sq.subr row part), found.map intsD, hu, (hx.to e2).to e5, (SN.ints _).shaped (by decide), (SN.rowsLi found).shaped (by decide), _, rfl, ?_⟩⟩
    have ea : ((found.map intsD).any fun z => PyData.eqv z (intsD (Sq.subr row part))) = found.any fun z => decide (z = Sq.subr row part) := by
      rw [List.any_map]
      congr 1
      funext z
      exact eqv_ints z _
    rw [ea]
    cases z : found.any fun z => decide (z = Sq.subr row part) with
    | true => exact iteT (q1 z _ _ rfl e5)
    | false => exact iteF (q0 z _ e5)
  · have hv := g.vals (fun _ => V.int 1) fun i y q => q
    refine ⟨Nat.zero_le _, fun t ht => ⟨.list (ys.map fun _ => .int 1), .list [], .lst (.of ((Same.new ht) _ _ hy)) ?_, .lst (.of upd_same) .nil, ?_, rfl, _, rfl, ?_⟩⟩
    · have : ∀ l : List Nat, DpAll K (upd H2 t (HO.lst [])) (l.map fun _ => V.int 1) ((l.map fun _ => V.int 1).map fun _ => PyData.int 1) := fun l => by
        induction l with
        | nil => exact .nil
        | cons a l ih => exact .cons (.int 1) ih
      rw [hv]
      exact this _
    · exact (SN.list fun d hd => by
        obtain ⟨_, _, rfl⟩ := List.mem_map.mp hd
        exact SN.int 1 : SN 1 (.list (ys.map fun _ => .int 1))).shaped (by decide)
    · rw [eqv_nil_l]
      have eb : (!(ys.map fun _ => PyData.int 1).isEmpty) = parts.any fun p => found.any fun z => decide (z = Sq.subr row p) := by
        have em : ((List.range ps.length).filter fun i => found.any fun z => decide (z = Sq.subr row (parts.getD i []))).length = (parts.filter fun p => found.any fun z => decide (z = Sq.subr row p)).length := by
          rw [pl]
          have := congrArg List.length (filter_get parts [] fun p => found.any fun z => decide (z = Sq.subr row p))
          rw [List.length_map] at this
          exact this
        have yl : ys.length = (parts.filter fun p => found.any fun z => decide (z = Sq.subr row p)).length := by
          rw [hv, List.length_map, em]
        rw [Bool.eq_iff_iff, List.any_eq_true]
        constructor
        · intro h
          have : 0 < ys.length := by
            cases ys with
            | nil => simp at h
            | cons _ _ => simp
          obtain ⟨p, hp⟩ := List.exists_mem_of_length_pos (yl ▸ this)
          obtain ⟨h1, h2⟩ := List.mem_filter.mp hp
          exact ⟨p, h1, h2⟩
        · rintro ⟨p, h1, h2⟩
          have : 0 < (parts.filter fun p => found.any fun z => decide (z = Sq.subr row p)).length := List.length_pos_of_mem (List.mem_filter.mpr ⟨h1, h2⟩)
          cases ys with
          | nil => rw [List.length_nil] at yl; omega
          | cons _ _ => rfl
      rw [eb]
      exact k _ (e2.then_new ht)
end
abbrev s__law_sums : Stmt := top 44
abbrev nm__law_sums : List Str := ["one", "other", "grid", "found", "row", "parts", "part"]
abbrev pr__law_sums : List Str := ["one", "other", "grid"]
theorem sc__law_sums : FnScope nm__law_sums pr__law_sums (defScope s__law_sums) := ⟨rfl, rfl, rfl, by decide +kernel, rfl, by decide +kernel, by decide +kernel⟩
abbrev s__law_star_rows : Stmt := top 45
abbrev nm__law_star_rows : List Str := ["one", "grid", "found", "zeros", "row", "parts", "part"]
abbrev pr__law_star_rows : List Str := ["one", "grid"]
theorem sc__law_star_rows : FnScope nm__law_star_rows pr__law_star_rows (defScope s__law_star_rows) := ⟨rfl, rfl, rfl, by decide +kernel, rfl, by decide +kernel, by decide +kernel⟩
section
variable {P : Program} {w : World} {K : PySem.W.Frag} {mg : Str → Option Value} {base : Heap}
theorem ok_sums (B : Bl mg) (F1 : Df P w K mg base CX0 1 "_law_minus" pr__law_minus (spMinus K)) (D : Dt K mg "_law_sums" s__law_sums pr__law_sums) : Df P w K mg base CX0 2 "_law_sums" pr__law_sums (spSums K) := by
  refine D.ok sc__law_sums (fun vs H Q E h => ?_) (fun f cdv A outer s H vs Q E hr h => ?_)
  · obtain ⟨m, v1, v2, v3, one, other, grid, rfl, _⟩ := h
    rfl
  · obtain ⟨m, v1, v2, v3, one, other, grid, rfl, hd1, hd2, hd3, m1, m10, l1, l2, l3, n1, n3, k⟩ := h
    refine ⟨_, (pss_cons (ps_set (i := 3) sc__law_sums.nd rfl (Or.inl rfl) (pe_lst pa_nil)) (pss_cons (ps_for PassesOwn.never rfl (pi_list (pv 2)) (pg_name (i := 4) sc__law_sums.nd rfl (Or.inr rfl)) (pss_cons (ps_setLc (i := 5) (own := [("part", 6)]) (g := gName 6) (tt := (tTest (tOp (rI0 fun i j => V.bl (decide (j ≤ i))) (tCB (rMinTI K) (tCons (tCa (spMinus K) E0 (tCons (tVar 4) (tCons (tVar 6) tNil))) tNil)) (tC (V.int 0))))) rfl sc__law_sums.nd rfl rfl (sw_true rfl rfl rfl (by decide +kernel)) (pi_list (pv 0)) (blkOk_by (own := [("part", 6)]) (N := nm__law_sums) (sc := defScope s__law_sums) (by decide +kernel)) (fun _ _ _ _ _ => pg_name (i := 6) sc__law_sums.nd rfl (Or.inl rfl)) (fun _ _ _ _ _ => (pts_one (pt_cmpR op_ge (pe_callB (cr_minT rfl (hu65 hr)) (by rfl) B.min boot_min (pa_cons (pe_f F1 (hr.mono (by decide)) pass0 (pa_cons (pv 4) (pa_cons (pv 6) pa_nil))) pa_nil)) pe_int (nomark _)))) (fun _ _ _ _ _ => (pv 6))) (pss_one (ps_if (pt_cmpR (op_neD hr.units) (pe_lc (own := [("part", 6)]) (g := gName 6) (tt := (tTest (tOp (rInD K) (tCa (spMinus K) E0 (tCons (tVar 4) (tCons (tVar 6) tNil))) (tVar 1)))) (by rfl) sc__law_sums.nd (pi_list (pv 5)) (blkOk_by (own := [("part", 6)]) (N := nm__law_sums) (sc := defScope s__law_sums) (by decide +kernel)) (fun _ _ _ _ _ => pg_name (i := 6) sc__law_sums.nd rfl (Or.inl rfl)) (fun _ _ _ _ _ => (pts_one (pt_cmpR (op_inD (hu65 hr)) (pe_f F1 (hr.mono (by decide)) pass0 (pa_cons (pv 4) (pa_cons (pv 6) pa_nil))) (pv 1) (by rfl)))) (fun _ _ _ _ _ => pe_int)) (pe_lst pa_nil) (nomark _)) (pss_one (ps_expr (pe_bm PySem.F.plainAttrs_list PySem.F.slot_list_append PySem.F.type_list_append mt_append (pv 3) (pa_cons (pv 4) pa_nil)))) pss_nil)))) (pss_one (ps_ret (pv 3))))), ?_⟩
    dsimp only [cxOf, Cx.nox, L2.start]
    obtain ⟨p1, z1, rfl, hz1, -, -, hza1⟩ := lst_view hd1
    obtain ⟨p3, z3, rfl, hz3, hz3l, hz3at, hza3⟩ := lst_view hd3
    refine sq_go ⟨Nat.zero_le _, fun F hF => ?_⟩
    have e0 := Same.new (o := HO.lst []) hF
    have g0 : Gro K H (upd H F (HO.lst [])) F [] [] := ⟨upd_same, .nil, hF, rfl⟩
    generalize upd H F (HO.lst []) = H0 at *
    refine sq_fr ⟨_, rfl, p3, rfl, ⟨z3, e0.seq hz3⟩, for_it (walk_list (K := K) (a := p3) (xs := z3)) (fun i σ H' => Same H H' ∧ ∃ (ys : List V) (v4 v5 v6 : Option V), σ = [some (.ref p1), some v2, some (.ref p3), some (.ref F), v4, v5, v6] ∧ Gro K H H' F ys ((sumsR one other (grid.take i)).map intsD)) ⟨e0, [], _, _, _, rfl, g0⟩ (fun i σ H' _ q => q.1.seq hz3) (fun i x σ Hz H1 hi q y => ?_) (fun σ H1 q => ?_)⟩
    · obtain ⟨e1, ys, v4, v5, v6, rfl, g1⟩ := q
      obtain ⟨rfl, hx⟩ := y
      obtain ⟨row, hr1, hdr⟩ := hz3at i x hx
      have rl := l3 row (List.mem_of_getElem? hr1)
      dsimp only [gName]
      refine sq_go (parts_comp (K := K) (f := geB row) (one := one) rfl (e1.seq hz1) (hza1.to e1) n1 (fun y => rfl) (fun y => rfl) (fun y p H2 R hp e2 hy r => ge_test (m := m) rfl rfl (hdr.to (e1.trans e2)) hy m1 m10 rl (l1 p hp) r) fun H2 D ps e2 nD hD hps => ?_)
      have e12 := e1.trans e2
      have pn : (one.filter (geB row)).length ≤ 1000 := Nat.le_trans (List.length_filter_le _ _) n1
      refine hit_test (K := K) (m := m) (jp := 6) rfl (.of hD) hps (hdr.to e12) (hd2.to e12) (fun y => rfl) (fun y => rfl) (fun y => rfl) (fun y => rfl) m10 rl pn fun H3 e3 => ?_
      have e13 := e12.trans e3
      have g3 := (g1.same e2).same e3
      have tk : sumsR one other (grid.take (i + 1)) = sumsR one other (grid.take i) ++ if hitB one other row = true then [row] else [] := by
        rw [take_succ_of hr1]
        unfold sumsR
        rw [List.filter_append]
        congr 1
        rw [List.filter_cons]
        rfl
      have yl := g3.dp.length
      rw [List.length_map] at yl
      have sl : (sumsR one other (grid.take i)).length ≤ 1000 := Nat.le_trans (List.length_filter_le _ _) (by rw [List.length_take]; omega)
      show if hitB one other row = true then _ else _
      cases hb : hitB one other row with
      | true =>
        rw [hb, if_pos rfl] at tk
        have hdr3 := hdr.to e13
        refine iteT ⟨_, rfl, .inl ⟨rfl, _, .of g3.h⟩, _, rfl, F, ys, x, rfl, rfl, g3.h, slt (by omega), e13.mut g3.z, ys ++ [x], _, _, _, rfl, ?_⟩
        rw [tk, List.map_append]
        exact g3.app hdr3 (noList_ints row)
      | false =>
        rw [hb, if_neg Bool.false_ne_true, List.append_nil] at tk
        refine iteF ⟨e13, ys, _, _, _, rfl, ?_⟩
        rw [tk]
        exact g3
    · obtain ⟨e1, ys, v4, v5, v6, rfl, g1⟩ := q
      rw [hz3l, List.take_length] at g1
      exact ⟨_, rfl, k _ F ys e1 g1.z g1.h g1.dp⟩
theorem ok_star_rows (B : Bl mg) (F1 : Df P w K mg base CX0 1 "_law_minus" pr__law_minus (spMinus K)) (D : Dt K mg "_law_star_rows" s__law_star_rows pr__law_star_rows) : Df P w K mg base CX0 2 "_law_star_rows" pr__law_star_rows (spStarRows K) := by
  refine D.ok sc__law_star_rows (fun vs H Q E h => ?_) (fun f cdv A outer s H vs Q E hr h => ?_)
  · obtain ⟨m, v1, v3, one, rest, z, rfl, _⟩ := h
    rfl
  · obtain ⟨m, v1, v3, one, rest, z, rfl, hd1, hd3, m1, m10, l1, l3, n1', n3, k⟩ := h
    refine ⟨_, (pss_cons (ps_asg (pe_tup (pa_cons (pe_lst (pa_cons (pe_ix ix_list (pv 1) pe_int (fun _ _ => rfl)) pa_nil)) (pa_cons (pe_ix ix_list (pv 1) pe_int (fun _ _ => rfl)) pa_nil))) (pg_tup rfl (pgs_cons (pg_name (i := 2) sc__law_star_rows.nd rfl (Or.inr rfl)) (pgs_cons (pg_name (i := 3) sc__law_star_rows.nd rfl (Or.inr rfl)) pgs_nil)))) (pss_cons (ps_for PassesOwn.never rfl (pi_list (pe_slice sl_list (pv 1) (po_some pe_int) po_none)) (pg_name (i := 4) sc__law_star_rows.nd rfl (Or.inr rfl)) (pss_cons (ps_setLc (i := 5) (own := [("part", 6)]) (g := gName 6) (tt := (tAnd (tTest (tOp (rNeD K) (tVar 6) (tVar 3))) (tTest (tOp (rI0 fun i j => V.bl (decide (j ≤ i))) (tCB (rMinTI K) (tCons (tCa (spMinus K) E0 (tCons (tVar 4) (tCons (tVar 6) tNil))) tNil)) (tC (V.int 0)))))) rfl sc__law_star_rows.nd rfl rfl (sw_true rfl rfl rfl (by decide +kernel)) (pi_list (pv 0)) (blkOk_by (own := [("part", 6)]) (N := nm__law_star_rows) (sc := defScope s__law_star_rows) (by decide +kernel)) (fun _ _ _ _ _ => pg_name (i := 6) sc__law_star_rows.nd rfl (Or.inl rfl)) (fun _ _ _ _ _ => (pts_one (PW.pt (pw_and (pt_cmpR (op_neD hr.units) (pv 6) (pv 3) (nomark _)) (pw_and1 (pt_cmpR op_ge (pe_callB (cr_minT rfl (hu65 hr)) (by rfl) B.min boot_min (pa_cons (pe_f F1 (hr.mono (by decide)) pass0 (pa_cons (pv 4) (pa_cons (pv 6) pa_nil))) pa_nil)) pe_int (nomark _))))))) (fun _ _ _ _ _ => (pv 6))) (pss_one (ps_if (pt_cmpR (op_neD hr.units) (pe_lc (own := [("part", 6)]) (g := gName 6) (tt := (tTest (tOp (rInD K) (tCa (spMinus K) E0 (tCons (tVar 4) (tCons (tVar 6) tNil))) (tVar 2)))) (by rfl) sc__law_star_rows.nd (pi_list (pv 5)) (blkOk_by (own := [("part", 6)]) (N := nm__law_star_rows) (sc := defScope s__law_star_rows) (by decide +kernel)) (fun _ _ _ _ _ => pg_name (i := 6) sc__law_star_rows.nd rfl (Or.inl rfl)) (fun _ _ _ _ _ => (pts_one (pt_cmpR (op_inD (hu65 hr)) (pe_f F1 (hr.mono (by decide)) pass0 (pa_cons (pv 4) (pa_cons (pv 6) pa_nil))) (pv 2) (by rfl)))) (fun _ _ _ _ _ => pe_int)) (pe_lst pa_nil) (nomark _)) (pss_one (ps_expr (pe_bm PySem.F.plainAttrs_list PySem.F.slot_list_append PySem.F.type_list_append mt_append (pv 2) (pa_cons (pv 4) pa_nil)))) pss_nil)))) (pss_one (ps_ret (pv 2))))), ?_⟩
    dsimp only [cxOf, Cx.nox, L2.start]
    obtain ⟨p1, z1, rfl, hz1, -, -, hza1⟩ := lst_view hd1
    obtain ⟨p3, z3, rfl, hz3, -, -, hza3⟩ := lst_view hd3
    rw [List.map_cons] at hza3
    obtain ⟨zv, zr, rfl⟩ : ∃ a b, z3 = a :: b := by
      cases z3 with
      | nil => cases hza3
      | cons a b => exact ⟨a, b, rfl⟩
    obtain ⟨hzv, hzr⟩ : Dp K H zv (intsD z) ∧ DpAll K H zr (rest.map intsD) := by
      cases hza3 with
      | cons h1 h2 => exact ⟨h1, h2⟩
    have zl := hzr.length
    rw [List.length_map] at zl
    have hat : atI (zv :: zr) 0 = some zv := atI_nat (xs := zv :: zr) (j := 0) rfl
    refine sq_as ⟨_, rfl, p3, _, 0, zv, rfl, rfl, hz3, hat, Nat.le_of_ble_eq_true rfl, fun F hF => ⟨_, rfl, p3, _, 0, zv, rfl, rfl, (Same.new hF).seq hz3, hat, Nat.le_of_ble_eq_true rfl, fun t ht => ⟨t, _, rfl, .of upd_same, rfl, _, _, rfl, _, _, rfl, rfl, ?_⟩⟩⟩
    have n0 := Same.new (o := HO.tup [V.ref F, zv]) ht
    have e0 := (Same.new (o := HO.lst [zv]) hF).trans n0
    have g0 : Gro K H (upd (upd H F (HO.lst [zv])) t (HO.tup [V.ref F, zv])) F [zv] ([z].map intsD) := ⟨n0 _ _ upd_same, .cons (hzv.to e0) .nil, hF, by
      show (noList (intsD z) && true) = true
      rw [noList_ints]
      rfl⟩
    generalize upd (upd H F (HO.lst [zv])) t (HO.tup [V.ref F, zv]) = H0 at *
    dsimp only
    refine sq_fr ⟨_, rfl, 1, rfl, p3, _, rfl, e0.seq hz3, fun r hr0 => ⟨r, rfl, ⟨_, .of upd_same⟩, ?_⟩⟩
    have ec : cutV (zv :: zr) (some 1) none = zr := cut_from (zv :: zr) 1
    rw [ec]
    have n1 := Same.new (o := HO.lst zr) hr0
    have nFr : F ≠ r := ne_of_none g0.h hr0
    have g1 := g0.same n1
    have e1 := e0.trans n1
    have h1 : (upd H0 r (HO.lst zr)) r = some (.lst zr) := upd_same
    generalize upd H0 r (HO.lst zr) = H1 at *
    refine for_it (walk_list (K := K) (a := r) (xs := zr)) (fun i σ H' => Same H H' ∧ H' r = some (.lst zr) ∧ ∃ (ys : List V) (v4 v5 v6 : Option V), σ = [some (.ref p1), some (.ref p3), some (.ref F), some zv, v4, v5, v6] ∧ Gro K H H' F ys ((starRowsR one z (rest.take i)).map intsD) ∧ (starRowsR one z (rest.take i)).length ≤ i + 1) ⟨e1, h1, [zv], _, _, _, rfl, g1, Nat.le_refl _⟩ (fun i σ H' _ q => .of q.2.1) (fun i x σ Hz H2 hi q y => ?_) (fun σ H2 q => ?_)
    · obtain ⟨e2, hr2, ys, v4, v5, v6, rfl, g2, sl⟩ := q
      obtain ⟨rfl, hx⟩ := y
      obtain ⟨d, hd1', hdr⟩ := hzr.getV hx
      rw [List.getElem?_map] at hd1'
      obtain ⟨row, hr1, rfl⟩ := Option.map_eq_some_iff.mp hd1'
      have rl := l3 row (List.mem_cons_of_mem _ (List.mem_of_getElem? hr1))
      dsimp only [gName]
      refine sq_go (parts_comp (K := K) (f := fun p => !decide (p = z) && geB row p) (one := one) rfl (e2.seq hz1) (hza1.to e2) n1' (fun y => rfl) (fun y => rfl) (fun y p H3 R hp e3 hy rr => ?_) fun H3 D ps e3 nD hD hps => ?_)
      · refine ⟨_, rfl, _, rfl, intsD p, intsD z, hy, hzv.to (e2.trans e3), (SN.ints p).shaped (by decide), (SN.ints z).shaped (by decide), _, rfl, ?_⟩
        rw [eqv_ints]
        cases hz : !decide (p = z) with
        | false => exact iteF (by
            have := rr H3 (Same.refl _)
            rw [hz, Bool.false_and] at this
            exact this)
        | true =>
          refine iteT (ge_test (m := m) rfl rfl (hdr.to (e2.trans e3)) hy m1 m10 rl (l1 p hp) fun H4 e4 => ?_)
          have := rr H4 e4
          rw [hz, Bool.true_and] at this
          exact this
      have e23 := e2.trans e3
      have g3 := g2.same e3
      have pn : (one.filter fun p => !decide (p = z) && geB row p).length ≤ 1000 := Nat.le_trans (List.length_filter_le _ _) n1'
      refine hit_test (K := K) (m := m) (jp := 6) rfl (.of hD) hps (hdr.to e23) (.lst (.of g3.h) g3.dp) (fun y => rfl) (fun y => rfl) (fun y => rfl) (fun y => rfl) m10 rl pn fun H4 e4 => ?_
      have e24 := e23.trans e4
      have g4 := g3.same e4
      have hr4 := e4 _ _ (e3 _ _ hr2)
      have hh : ((one.filter fun p => !decide (p = z) && geB row p).any fun p => (starRowsR one z (rest.take i)).any fun w => decide (w = Sq.subr row p)) = hitB (one.filter fun p => !decide (p = z)) (starRowsR one z (rest.take i)) row := by
        unfold hitB
        rw [List.filter_filter]
        congr 1
        congr 1
        funext p
        exact Bool.and_comm _ _
      rw [hh]
      have tk : starRowsR one z (rest.take (i + 1)) = if hitB (one.filter fun p => !decide (p = z)) (starRowsR one z (rest.take i)) row = true then starRowsR one z (rest.take i) ++ [row] else starRowsR one z (rest.take i) := by
        rw [take_succ_of hr1]
        unfold starRowsR
        rw [List.foldl_append]
        rfl
      have yl := g4.dp.length
      rw [List.length_map] at yl
      have hi2 : i < rest.length := by omega
      show if _ = true then _ else _
      cases hb : hitB (one.filter fun p => !decide (p = z)) (starRowsR one z (rest.take i)) row with
      | true =>
        rw [hb, if_pos rfl] at tk
        refine iteT ⟨_, rfl, .inl ⟨rfl, _, .of g4.h⟩, _, rfl, F, ys, x, rfl, rfl, g4.h, slt (by omega), e24.mut g4.z, by rw [upd_ne (fun h => nFr h.symm)]; exact hr4, ys ++ [x], _, _, _, rfl, ?_, by rw [tk, List.length_append, List.length_singleton]; omega⟩
        rw [tk, List.map_append]
        exact g4.app (hdr.to e24) (noList_ints row)
      | false =>
        rw [hb, if_neg Bool.false_ne_true] at tk
        refine iteF ⟨e24, hr4, ys, _, _, _, rfl, ?_, by rw [tk]; omega⟩
        rw [tk]
        exact g4
    · obtain ⟨e2, hr2, ys, v4, v5, v6, rfl, g2, sl⟩ := q
      rw [zl, List.take_length] at g2
      exact ⟨_, rfl, k _ F ys e2 g2.z g2.h g2.dp⟩
end
end Ws
/-! ## Q25h -/
namespace Ws
open PySem PySem.Spec PyProof.Rows L2 RZ SD
local macro_rules | `(tactic| walk_at "nf") => `(tactic| dsimp only [tNext, tSeq, tDrop, tRet, tRetN, tIfS, tAsg, gName, gTup, gCons, gNil, tVar, tC, tOp, tUn, rI, rI0, rU, rEq, rNe, tTest, tChain, tAnd, tOr, tNot, tAndV, tOrV, tNotV, tIf, tCB, tCKw, tCons, tNil, tTup, tLst, tCa, tCallS, tB, rIxT, rIxL, rIxS, cxOf, Cx.nox, Cx.wish, Cx.blk, L2.start, tPar, tPar3, tNever, tYes, tBits, tRz, tBM, rAppend, tyV, tXf, suiteEnds, gSub, rSetL, tBreak, rMax, tDGet, sDPut, tSl, tNoPart, tPart, tDisp, tPairs, tDGet2, tDNewK, tAugS, ipI, rGetL, tDIn, tDNotIn, tBM0, rPop])
local macro_rules | `(tactic| walk_at "sx") => `(tactic| simp only [wipe, List.cons.injEq, and_assoc, exists_and_left, and_true, List.map_cons, List.map_nil, List.length_cons, List.length_nil, List.cons_append, List.nil_append, List.append_nil, Nat.reduceAdd, Nat.reduceSub, List.replicate, List.getElem?_cons_zero, List.getElem?_cons_succ, List.set_cons_zero, List.set_cons_succ, Option.some.injEq, V.int.injEq, V.bl.injEq, V.ref.injEq, V.str.injEq, exists_eq_left', exists_eq_left, true_and, Bool.true_eq_false, Bool.false_eq_true, if_true, if_false])

structure Ex25 (K : PySem.W.Frag) (mg : Str → Option Value) (SA BS TG BU : Addr) : Prop where
  say : mg "SayError" = some (.ref SA)
  ss : PySem.W.exmOne K (.ref BS) (.ref BS) = some true
  us : PySem.W.exmOne K (.ref BU) (.ref BS) = some false
  uu : PySem.W.exmOne K (.ref BU) (.ref BU) = some true
  gs : PySem.W.exmOne K (.ref TG) (.ref BS) = some false
  gu : PySem.W.exmOne K (.ref TG) (.ref BU) = some false
  gg : PySem.W.exmOne K (.ref TG) (.ref TG) = some true
def refuR : Rf → PyData
  | .ok _ _ => .none
  | .bad n => .list [.str "BadSet", .int (n : Nat)]
  | .unlike d => .list [.str "Unlike", d]
  | .great n => .list [.str "TooGreat", .int (n : Nat)]
def askF (w : Str) (d1 d2 : PyData) : Rf := if w = "union" then unionF d1 d2 else if w = "sum" then sumF d1 d2 else starF d1
def spRefusal (K : PySem.W.Frag) : Sp := fun vs H Q _ => ∃ (w : Str) (v1 v2 : V) (d1 d2 : PyData), vs = [.str w, v1, v2] ∧ Dp K H v1 d1 ∧ Dp K H v2 d2 ∧ ∀ H' u, Same H H' → Dp K H' u (refuR (askF w d1 d2)) → Q u H'
abbrev s__law_refusal : Stmt := top 46
abbrev nm__law_refusal : List Str := ["word", "one", "other", "found", "error"]
abbrev pr__law_refusal : List Str := ["word", "one", "other"]
theorem sc__law_refusal : FnScope nm__law_refusal pr__law_refusal (defScope s__law_refusal) := ⟨rfl, rfl, rfl, by decide +kernel, rfl, by decide +kernel, by decide +kernel⟩
section
variable {P : Program} {w : World} {K : PySem.W.Frag} {mg : Str → Option Value} {base : Heap} {SA BS TG BU : Addr}
theorem refu_out (X : Ex25 K mg SA BS TG BU) {r : Rf} {H : Hp} {Q : VK} {wd : Str} {v1 v2 : V} (k : ∀ H' u, Same H H' → Dp K H' u (refuR r) → Q u H') :
    OutR K BS TG BU r H (fun _ H1 => Q V.non H1) (WE
          (wManyB K 4 (fun x x_1 x_2 x_3 => False)
            { nx := tRet (tVar 3) { nx := fun x H' => Q V.non H', rt := Q }, rt := Q }
            [(true, Value.ref BS, fun a cls d =>
                tAsg
                  (tLst
                    (tCons (tC (V.str (Str.ofString "BadSet")))
                      (tCons (tXf a cls d BS (Str.ofString "place") (tVar 4)) tNil)))
                  (gName 3)),
              (true, Value.ref BU, fun a cls d =>
                tAsg
                  (tLst
                    (tCons (tC (V.str (Str.ofString "Unlike")))
                      (tCons (tXf a cls d BU (Str.ofString "value") (tVar 4)) tNil)))
                  (gName 3)),
              (true, Value.ref TG, fun a cls d =>
                tAsg
                  (tLst
                    (tCons (tC (V.str (Str.ofString "TooGreat")))
                      (tCons (tXf a cls d TG (Str.ofString "most") (tVar 4)) tNil)))
                  (gName 3)),
              (false, Value.ref SA, fun a cls d =>
                tAsg (tLst (tCons (tC (V.str (Str.ofString "another"))) tNil)) (gName 3))])
          [some (V.str wd), some v1, some v2, some V.non, none]) := by
  cases r with
  | ok m out => exact fun H' u e hu => k _ _ e .non
  | bad n =>
    intro H1 dd u s1 hu hdd
    refine ⟨true, X.ss, fun _ a ha => ?_, fun z => by cases z⟩
    rw [if_pos rfl]
    walk_at "nf"
    walk_at "sx"
    refine ⟨_, hdd, u, rfl, by decide, fun p2 hp2 => k _ _ (s1.then_new hp2) ?_⟩
    exact .lst (.of upd_same) (.cons (.str _) (.cons (hu.to (Same.new hp2)) .nil))
  | unlike d =>
    intro H1 dd u s1 hu hdd
    refine ⟨false, X.us, (fun z => by cases z), fun _ => ⟨true, X.uu, fun _ a ha => ?_, fun z => by cases z⟩⟩
    rw [if_pos rfl]
    walk_at "nf"
    walk_at "sx"
    refine ⟨_, hdd, u, rfl, by decide, fun p2 hp2 => k _ _ (s1.then_new hp2) ?_⟩
    exact .lst (.of upd_same) (.cons (.str _) (.cons (hu.to (Same.new hp2)) .nil))
  | great n =>
    intro H1 dd u s1 hu hdd
    refine ⟨false, X.gs, (fun z => by cases z), fun _ => ⟨false, X.gu, (fun z => by cases z), fun _ => ⟨true, X.gg, fun _ a ha => ?_, fun z => by cases z⟩⟩⟩
    rw [if_pos rfl]
    walk_at "nf"
    walk_at "sx"
    refine ⟨_, hdd, u, rfl, by decide, fun p2 hp2 => k _ _ (s1.then_new hp2) ?_⟩
    exact .lst (.of upd_same) (.cons (.str _) (.cons (hu.to (Same.new hp2)) .nil))
theorem ok_refusal (X : Ex25 K mg SA BS TG BU) (B : Bl mg) (T : ErS P w K mg base BS TG BU) (F1 : Df P w K mg base (L2.CX P w) 8 "union" pr_union (spUnion K BS TG BU)) (F2 : Df P w K mg base (L2.CX P w) 8 "sum_of" pr_sum_of (spSumOf K BS TG BU)) (F3 : Df P w K mg base (L2.CX P w) 7 "star" pr_star (spStar K BS TG BU)) (D : Dt K mg "_law_refusal" s__law_refusal pr__law_refusal) : Df P w K mg base CX0 9 "_law_refusal" pr__law_refusal (spRefusal K) := by
  refine D.ok sc__law_refusal (fun vs H Q E h => ?_) (fun f cdv A outer s H vs Q E hr h => ?_)
  · obtain ⟨wd, v1, v2, d1, d2, rfl, _⟩ := h
    rfl
  · obtain ⟨wd, v1, v2, d1, d2, rfl, hd1, hd2, k⟩ := h
    refine ⟨_, (pss_cons (ps_set (i := 3) sc__law_refusal.nd rfl (Or.inl rfl) pe_non) (pss_cons (ps_try_manyB (i := 4) (tb := _) (Wout := _) rfl rfl sc__law_refusal.nd rfl rfl takes0 (fun W pn xe tk _ => (pss_one (ps_if (pt_cmpR op_eq (pv 0) pe_str (nomark _)) (pss_one (ps_expr (pe_fS (E := WE W) F1 (hr.mono (by decide)) (fun σ => passAt tk σ) (pa_cons (pv 1) (pa_cons (pv 2) pa_nil))))) (pss_one (ps_if (pt_cmpR op_eq (pv 0) pe_str (nomark _)) (pss_one (ps_expr (pe_fS (E := WE W) F2 (hr.mono (by decide)) (fun σ => passAt tk σ) (pa_cons (pv 1) (pa_cons (pv 2) pa_nil))))) (pss_one (ps_expr (pe_fS (E := WE W) F3 (hr.mono (by decide)) (fun σ => passAt tk σ) (pa_cons (pv 1) pa_nil))))))))) (HdsB.cons (m := true) ⟨rfl, by decide, Or.inl T.BadSet.mgC⟩ (fun a oe cls d pn hz hf => (pss_one (ps_set (i := 3) sc__law_refusal.nd rfl (Or.inl rfl) (pe_lst (pa_cons pe_str (pa_cons (pe_xf T.BadSet.xf T.BadSet.no hz hf (pv 4)) pa_nil)))))) (HdsB.cons (m := true) ⟨rfl, by decide, Or.inl T.Unlike.mgC⟩ (fun a oe cls d pn hz hf => (pss_one (ps_set (i := 3) sc__law_refusal.nd rfl (Or.inl rfl) (pe_lst (pa_cons pe_str (pa_cons (pe_xf T.Unlike.xf T.Unlike.no hz hf (pv 4)) pa_nil)))))) (HdsB.cons (m := true) ⟨rfl, by decide, Or.inl T.TooGreat.mgC⟩ (fun a oe cls d pn hz hf => (pss_one (ps_set (i := 3) sc__law_refusal.nd rfl (Or.inl rfl) (pe_lst (pa_cons pe_str (pa_cons (pe_xf T.TooGreat.xf T.TooGreat.no hz hf (pv 4)) pa_nil)))))) (HdsB.cons (m := false) ⟨rfl, by decide, Or.inl X.say⟩ (fun a oe cls d pn hz hf => (pss_one (ps_set (i := 3) sc__law_refusal.nd rfl (Or.inl rfl) (pe_lst (pa_cons pe_str pa_nil))))) .nil))))) (pss_one (ps_ret (pv 3))))), ?_⟩
    walk_at "nf"
    walk_at "sx"
    by_cases w1 : wd = Str.ofString "union"
    · rw [decide_eq_true w1]
      have ea : askF wd d1 d2 = unionF d1 d2 := if_pos w1
      rw [ea] at k
      exact ⟨rfl, iteT ⟨v1, v2, d1, d2, rfl, hd1, hd2, refu_out X k⟩⟩
    rw [decide_eq_false w1]
    refine ⟨rfl, iteF ⟨rfl, ?_⟩⟩
    by_cases w2 : wd = Str.ofString "sum"
    · rw [decide_eq_true w2]
      have ea : askF wd d1 d2 = sumF d1 d2 := by
        unfold askF
        rw [if_neg w1, if_pos w2]
      rw [ea] at k
      exact iteT ⟨v1, v2, d1, d2, rfl, hd1, hd2, refu_out X k⟩
    rw [decide_eq_false w2]
    have ea : askF wd d1 d2 = starF d1 := by
      unfold askF
      rw [if_neg w1, if_neg w2]
    rw [ea] at k
    exact iteF ⟨v1, d1, rfl, hd1, refu_out X k⟩
end
end Ws
/-! ## K25 -/
/-! what union, sum_of and star tell of the sets that the law writes out -/
namespace Ws
open PySem PySem.Spec PyProof.Rows L2
theorem oneF_ok {d : PyData} {k : Rf} (h : setF d = .ok) : oneF d k = k := by unfold oneF; rw [h]
theorem oneF_bad {d : PyData} {k : Rf} {n : Nat} (h : setF d = .bad n) : oneF d k = .bad n := by unfold oneF; rw [h]
theorem unionF_ok {m : Nat} {a b : List Ln} (h1 : setF (setD m a) = .ok) (h2 : setF (setD m b) = .ok) : unionF (setD m a) (setD m b) = ofSW m (unionW a b) := by
  unfold unionF twoF
  rw [oneF_ok h1, oneF_ok h2, manyOf_set, manyOf_set, if_pos rfl, linesOf_set, linesOf_set]
theorem sumF_ok {m : Nat} {a b : List Ln} (h1 : setF (setD m a) = .ok) (h2 : setF (setD m b) = .ok) : sumF (setD m a) (setD m b) = ofSW m (sumW a b) := by
  unfold sumF twoF
  rw [oneF_ok h1, oneF_ok h2, manyOf_set, manyOf_set, if_pos rfl, linesOf_set, linesOf_set]
theorem starF_ok {m : Nat} {a : List Ln} (h1 : setF (setD m a) = .ok) : starF (setD m a) = ofSW m (starW m a) := by
  unfold starF
  rw [oneF_ok h1, manyOf_set, linesOf_set]
theorem askU {d1 d2 : PyData} : askF "union" d1 d2 = unionF d1 d2 := rfl
theorem askS {d1 d2 : PyData} : askF "sum" d1 d2 = sumF d1 d2 := rfl
theorem askT {d1 d2 : PyData} : askF "star" d1 d2 = starF d1 := rfl
theorem cl_id {l : Ln} (u : Unl l.2 l.2) : cl l = l := by
  unfold cl
  rw [(ul_unl l.2).uniq u]
theorem map_cl {ls : List Ln} (h : ∀ l ∈ ls, Unl l.2 l.2) : ls.map cl = ls := by
  conv => rhs; rw [← List.map_id ls]
  exact List.map_congr_left fun l hl => cl_id (h l hl)
theorem cnL_of {ls out : List Ln} (c : Canon lineD (ls.map cl) out) : cnL ls = out := (cnf_canon knd_ln _).uniq knd_ln c
theorem setW_ok {ls out : List Ln} (n : ∀ f ∈ ls.map cl, f.2.length ≤ 12) (c : cnL ls = out) (h : out.length ≤ 400) : setW ls = .ok out := by
  unfold setW
  rw [if_neg, c, if_neg (by omega)]
  intro e
  obtain ⟨f, hf, z⟩ := List.any_eq_true.mp e
  have := of_decide_eq_true z
  have := n f hf
  omega
theorem setW_great {ls : List Ln} (n : ∀ f ∈ ls.map cl, f.2.length ≤ 12) (h : 400 < (cnL ls).length) : setW ls = .great 400 := by
  unfold setW
  rw [if_neg, if_pos h]
  intro e
  obtain ⟨f, hf, z⟩ := List.any_eq_true.mp e
  have := of_decide_eq_true z
  have := n f hf
  omega
theorem setW_some {ls : List Ln} (n : ∀ f ∈ ls.map cl, f.2.length ≤ 12) (h : ls.length ≤ 400) : ∃ out, setW ls = .ok out := by
  refine ⟨_, setW_ok n rfl ?_⟩
  have := (cnf_canon knd_ln (ls.map cl)).le
  rw [List.length_map] at this
  exact Nat.le_trans this h
theorem bare_cl {ls : List Ln} (h : ∀ l ∈ ls, l.2 = []) : ls.map cl = ls := map_cl fun l hl => by rw [h l hl]; exact unl_nil
theorem bare_12 {ls : List Ln} (h : ∀ l ∈ ls, l.2 = []) : ∀ f ∈ ls.map cl, f.2.length ≤ 12 := fun f hf => by
  rw [bare_cl h] at hf
  rw [h f hf]
  exact Nat.zero_le _
theorem bare_cnL {ls out : List Ln} (h : ∀ l ∈ ls, l.2 = []) (a : Asc lineD out) (m : ∀ x, x ∈ out ↔ x ∈ ls) : cnL ls = out := cnL_of (by rw [bare_cl h]; exact Canon.of_asc a m)
/-- a part of the bare lines -/
structure BarePart (ls : List Ln) : Prop where
  s : ls.Sublist (bareLns [] 402)
theorem BarePart.nil {ls : List Ln} (b : BarePart ls) : ∀ l ∈ ls, l.2 = [] := fun l hl => (bareLns_ok (t := []) (n := 402) (m := 1) (by simp) rfl (by decide) l (b.s.subset hl)).2
theorem BarePart.ok {ls : List Ln} (b : BarePart ls) : ∀ l ∈ ls, OkLn 1 l := fun l hl => (bareLns_ok (t := []) (n := 402) (m := 1) (by simp) rfl (by decide) l (b.s.subset hl)).1
theorem BarePart.asc {ls : List Ln} (b : BarePart ls) : Asc lineD ls := List.Pairwise.sublist b.s (bareLns_asc [] 402)
theorem BarePart.set {ls : List Ln} (b : BarePart ls) (few : ls.length ≤ 400) : setF (setD 1 ls) = .ok := set_is (by decide) (by decide) (fun l hl => (b.ok l hl).line (by rw [b.nil l hl]; decide) (by rw [b.nil l hl]; exact List.Pairwise.nil) (by rw [b.nil l hl]; exact fun x hx => absurd hx List.not_mem_nil)) b.asc few
theorem BarePart.take {ls : List Ln} (b : BarePart ls) (k : Nat) : BarePart (ls.take k) := ⟨(List.take_sublist k ls).trans b.s⟩
theorem BarePart.drop {ls : List Ln} (b : BarePart ls) (k : Nat) : BarePart (ls.drop k) := ⟨(List.drop_sublist k ls).trans b.s⟩
theorem part_all : BarePart (bareLns [] 402) := ⟨List.Sublist.refl _⟩
theorem len402 : (bareLns [] 402).length = 402 := bareLns_len _ _
theorem union_great : askF "union" (setD 1 ((bareLns [] 402).take 201)) (setD 1 ((bareLns [] 402).drop 201)) = .great 400 := by
  rw [askU, unionF_ok ((part_all.take 201).set (by rw [List.length_take, len402]; decide)) ((part_all.drop 201).set (by rw [List.length_drop, len402]; decide))]
  unfold unionW
  rw [List.take_append_drop, setW_great (bare_12 part_all.nil) (by rw [bare_cnL part_all.nil part_all.asc fun x => Iff.rfl, len402]; decide)]
  rfl
theorem union_halves : unionF (setD 1 ((bareLns [] 402).take 200)) (setD 1 (((bareLns [] 402).drop 200).take 200)) = .ok 1 ((bareLns [] 402).take 400) := by
  rw [unionF_ok ((part_all.take 200).set (by rw [List.length_take, len402]; decide)) (((part_all.drop 200).take 200).set (by rw [List.length_take, List.length_drop, len402]; decide))]
  unfold unionW
  rw [show (bareLns [] 402).take 200 ++ ((bareLns [] 402).drop 200).take 200 = (bareLns [] 402).take (200 + 200) from List.take_add.symm, setW_ok (bare_12 (part_all.take 400).nil) (bare_cnL (part_all.take 400).nil (part_all.take 400).asc fun x => Iff.rfl) (by rw [List.length_take, len402]; decide)]
  rfl
theorem union_same : unionF (setD 1 ((bareLns [] 402).take 201)) (setD 1 ((bareLns [] 402).take 201)) = .ok 1 ((bareLns [] 402).take 201) := by
  have b := part_all.take 201
  have f : ((bareLns [] 402).take 201).length ≤ 400 := by rw [List.length_take, len402]; decide
  have h2 : ∀ l ∈ (bareLns [] 402).take 201 ++ (bareLns [] 402).take 201, l.2 = [] := fun l hl => by
    rcases List.mem_append.mp hl with h | h
    · exact b.nil l h
    · exact b.nil l h
  rw [unionF_ok (b.set f) (b.set f)]
  unfold unionW
  rw [setW_ok (bare_12 h2) (bare_cnL h2 b.asc fun x => by rw [List.mem_append]; exact ⟨.inl, fun h => h.elim id id⟩) f]
  rfl
end Ws
/-! ## Q25i -/
namespace Ws
open PySem PySem.Spec PyProof.Rows L2 RZ SD
local macro_rules | `(tactic| walk_at "nf") => `(tactic| dsimp only [tNext, tSeq, tDrop, tRet, tRetN, tIfS, tAsg, gName, gTup, gCons, gNil, tVar, tC, tOp, tUn, rI, rI0, rU, rEq, rNe, tTest, tChain, tAnd, tOr, tNot, tAndV, tOrV, tNotV, tIf, tCB, tCKw, tCons, tNil, tTup, tLst, tCa, tCallS, tB, rIxT, rIxL, rIxS, cxOf, Cx.nox, Cx.wish, Cx.blk, L2.start, tPar, tPar3, tNever, tYes, tBits, tRz, tBM, rAppend, tyV, tXf, suiteEnds, gSub, rSetL, tBreak, rMax, tDGet, sDPut, tSl, tNoPart, tPart, tDisp, tPairs, tDGet2, tDNewK, tAugS, ipI, rGetL, tDIn, tDNotIn, tBM0, rPop])
local macro_rules | `(tactic| walk_at "sx") => `(tactic| simp only [wipe, List.cons.injEq, and_assoc, exists_and_left, and_true, List.map_cons, List.map_nil, List.length_cons, List.length_nil, List.cons_append, List.nil_append, List.append_nil, Nat.reduceAdd, Nat.reduceSub, List.replicate, List.getElem?_cons_zero, List.getElem?_cons_succ, List.set_cons_zero, List.set_cons_succ, Option.some.injEq, V.int.injEq, V.bl.injEq, V.ref.injEq, V.str.injEq, exists_eq_left', exists_eq_left, true_and, Bool.true_eq_false, Bool.false_eq_true, if_true, if_false])

local macro_rules | `(tactic| walk_at "qe") => `(tactic| repeat' first | exact Lit.int | exact Lit.str | exact Lit.non | exact Lit.bl | exact Lits.nil | exact Lit.var rfl (by assumption) | refine Lits.cons ?_ ?_ | refine Lit.tup ?_ (Nat.le_of_ble_eq_true rfl) | refine Lit.lst ?_ (Nat.le_of_ble_eq_true rfl))
def ref2 (s : Str) (d : PyData) : PyData := .list [.str s, d]
section
variable {K : PySem.W.Frag} {H0 : Hp} {σ : L2.St}
theorem cut_mid (xs : List V) {i j : Nat} (h1 : i ≤ j) (h2 : j ≤ xs.length) : cutV xs (some (i : Int)) (some (j : Int)) = (xs.drop i).take (j - i) := by
  unfold cutV
  rw [HT.sIx_nat, HT.sIx_nat, Nat.min_eq_left h2, Nat.min_eq_left (Nat.le_trans h1 h2)]
theorem Lit.mid {te : TE} {xs : List PyData} (i j : Nat) (h1 : i ≤ j) (h2 : j ≤ xs.length) (h : Lit K H0 te σ (.tuple xs)) : Lit K H0 (tSl (rSlZ K) te (tPart (tC (V.int (i : Nat)))) (tPart (tC (V.int (j : Nat))))) σ (.tuple ((xs.drop i).take (j - i))) := fun H Q e q =>
  h H _ e fun H1 v e1 hv => by
    obtain ⟨p, ys, rfl, hp, hys⟩ := hv.tup_inv
    have := hys.length
    refine ⟨_, rfl, _, rfl, p, ys, rfl, hp, fun H2 r e2 hr => ?_⟩
    rw [cut_mid ys h1 (by omega)] at hr
    exact q _ _ (e1.trans e2) (.tup hr (((hys.to e2).drop i).take (j - i)))
theorem yes_ref {wt t1 t2 lt : TE} {w : Str} {d1 d2 R : PyData} {N : Nat} {H : Hp} (h0 : Lit K H wt σ (.str w)) (h1 : Lit K H t1 σ d1) (h2 : Lit K H t2 σ d2) (h3 : Lit K H lt σ R) (e : refuR (askF w d1 d2) = R) (sm : Sm N 6 R) (hN : N ≤ 200000) :
    Yes (tCa (spLike K) E0 (tCons (tCa (spRefusal K) E0 (tCons wt (tCons t1 (tCons t2 tNil)))) (tCons lt tNil))) σ H := fun Q q =>
  h0 H _ (Same.refl _) fun H1 v e1 hv => h1 H1 _ e1 fun H2 x e2 hx => h2 H2 _ (e1.trans e2) fun H3 y e3 hy => by
    cases hv
    refine ⟨w, x, y, d1, d2, rfl, hx.to e3, hy, fun H4 u e4 hu => h3 H4 _ (((e1.trans e2).trans e3).trans e4) fun H5 z e5 hz => ?_⟩
    rw [e] at hu
    exact ⟨u, z, R, N, 6, rfl, hu.to e5, hz, sm, hN, by decide, q _ ((((e1.trans e2).trans e3).trans e4).trans e5)⟩
theorem told_ref {i : Nat} {wt t1 t2 : TE} {u : TS} {D : Ends} {H : Hp} {w : Str} {d1 d2 R : PyData} (h0 : Lit K H wt σ (.str w)) (h1 : Lit K H t1 σ d1) (h2 : Lit K H t2 σ d2) (e : refuR (askF w d1 d2) = R) (k : ∀ H' v, Same H H' → Dp K H' v R → u D (σ.set i (some v)) H') :
    tSeq (tAsg (tCa (spRefusal K) E0 (tCons wt (tCons t1 (tCons t2 tNil)))) (gName i)) u D σ H :=
  h0 H _ (Same.refl _) fun H1 v e1 hv => h1 H1 _ e1 fun H2 x e2 hx => h2 H2 _ (e1.trans e2) fun H3 y e3 hy => by
    cases hv
    refine ⟨w, x, y, d1, d2, rfl, hx.to e3, hy, fun H4 u e4 hu => k _ _ (((e1.trans e2).trans e3).trans e4) ?_⟩
    rw [e] at hu
    exact hu
theorem yes_union {BS TG BU : Addr} {t1 t2 lt : TE} {d1 d2 : PyData} {m : Nat} {out : List Ln} {N : Nat} {H : Hp} (h1 : Lit K H t1 σ d1) (h2 : Lit K H t2 σ d2) (h3 : Lit K H lt σ (setD m out)) (e : unionF d1 d2 = .ok m out) (sm : Sm N 6 (setD m out)) (hN : N ≤ 200000) :
    Yes (tCa (spLike K) E0 (tCons (tCallS (spUnion K BS TG BU) (fun _ => E0) (tCons t1 (tCons t2 tNil))) (tCons lt tNil))) σ H := fun Q q =>
  h1 H _ (Same.refl _) fun H1 x e1 hx => h2 H1 _ e1 fun H2 y e2 hy => by
    refine ⟨x, y, d1, d2, rfl, hx.to e2, hy, ?_⟩
    rw [e]
    exact fun H4 u e4 hu => h3 H4 _ ((e1.trans e2).trans e4) fun H5 z e5 hz => ⟨u, z, setD m out, N, 6, rfl, hu.to e5, hz, sm, hN, by decide, q _ (((e1.trans e2).trans e4).trans e5)⟩
theorem sm2 {s : Str} {d : PyData} (h1 : (s.cps.toList.all fun c => decide (c < 16 ^ 8)) = true) (h2 : s.cps.size ≤ 20) (h : Sm 130000 5 d) : Sm 130100 6 (ref2 s d) :=
  SmA.lst (SmA.cons' (n := 20) (Sm.word h1 h2) (SmA.cons' (m := 0) h SmA.nil' (Nat.le_refl _)) (by decide))
theorem sm2s {s : Str} {d : PyData} (h1 : (s.cps.toList.all fun c => decide (c < 16 ^ 8)) = true) (h2 : s.cps.size ≤ 20) (h : Sm 100 5 d) : Sm 130 6 (ref2 s d) :=
  SmA.lst (SmA.cons' (n := 20) (m := 101) (Sm.word h1 h2) (SmA.cons' (n := 100) (m := 0) h SmA.nil' (Nat.le_refl _)) (by decide))
end
theorem linesD_bare (t : List Int) (n : Nat) : .tuple ((List.range n).map fun (k : Nat) => lineD ((k : Int) :: t, [])) = linesD (bareLns t n) := by
  unfold linesD bareLns
  rw [List.map_map]
  rfl
def spUnionsR (K : PySem.W.Frag) : Sp := fun vs H Q _ => vs = [] ∧ ∀ H', Same H H' → Q (.bl true) H'
abbrev s__law_unions_right : Stmt := top 48
abbrev nm__law_unions_right : List Str := ["points", "told", "k"]
abbrev pr__law_unions_right : List Str := []
theorem sc__law_unions_right : FnScope nm__law_unions_right pr__law_unions_right (defScope s__law_unions_right) := ⟨rfl, rfl, rfl, by decide +kernel, rfl, by decide +kernel, by decide +kernel⟩
section
variable {P : Program} {w : World} {K : PySem.W.Frag} {mg : Str → Option Value} {base : Heap} {SA BS TG BU : Addr}
theorem ok_unions_right (B : Bl mg) (F1 : Df P w K mg base CX0 9 "_law_refusal" pr__law_refusal (spRefusal K)) (F2 : Df P w K mg base (L2.CX P w) 8 "union" pr_union (spUnion K BS TG BU)) (FL : DfG P w K mg base CX0 1 "_law_like" pr__law_like (spLike K)) (D : Dt K mg "_law_unions_right" s__law_unions_right pr__law_unions_right) : DfG P w K mg base CX0 10 "_law_unions_right" pr__law_unions_right (spUnionsR K) := by
  refine D.okG sc__law_unions_right (fun vs H Q E h => ?_) (fun f cdv A outer s H vs Q E hG hr h => ?_)
  · obtain ⟨rfl, _⟩ := h
    rfl
  · obtain ⟨rfl, k⟩ := h
    refine ⟨_, (pss_cons (ps_set (i := 0) sc__law_unions_right.nd rfl (Or.inl rfl) (pe_callTy call_tuple_of (by rfl) B.tuple PyProof.Rows.boot_tuple (pa_cons (pe_lc (own := [("k", 2)]) (g := gName 2) (tt := tYes) (by rfl) sc__law_unions_right.nd (pi_range1 (by rfl) B.range (pa_cons pe_int pa_nil)) (blkOk_by (own := [("k", 2)]) (N := nm__law_unions_right) (sc := defScope s__law_unions_right) (by decide +kernel)) (fun _ _ _ _ _ => pg_name (i := 2) sc__law_unions_right.nd rfl (Or.inl rfl)) (fun _ _ _ _ _ => pts_nil) (fun _ _ _ _ _ => (pe_tup (pa_cons (pe_tup (pa_cons (pv 2) pa_nil)) (pa_cons (pe_tup pa_nil) pa_nil))))) pa_nil))) (pss_cons (ps_set (i := 1) sc__law_unions_right.nd rfl (Or.inl rfl) (pe_f F1 (hr.mono (by decide)) pass0 (pa_cons pe_str (pa_cons (pe_tup (pa_cons pe_int (pa_cons (pe_slice (show SlR _ (rSlZ K) from sl_tupZ) (pv 0) po_none (po_some pe_int)) pa_nil))) (pa_cons (pe_tup (pa_cons pe_int (pa_cons (pe_slice (show SlR _ (rSlZ K) from sl_tupZ) (pv 0) (po_some pe_int) po_none) pa_nil))) pa_nil))))) (pss_cons (ps_if (pt_not (pt_val (pe_fG FL hG (hr.mono (by decide)) pass0 (pa_cons (pv 1) (pa_cons (pe_lst (pa_cons pe_str (pa_cons pe_int pa_nil))) pa_nil))))) (pss_one (ps_ret pe_bl)) pss_nil) (pss_cons (ps_if (pt_not (pt_val (pe_fG FL hG (hr.mono (by decide)) pass0 (pa_cons (pe_fS (E := fun _ => E0) F2 (hr.mono (by decide)) (fun σ => passAt takes0 σ) (pa_cons (pe_tup (pa_cons pe_int (pa_cons (pe_slice (show SlR _ (rSlZ K) from sl_tupZ) (pv 0) po_none (po_some pe_int)) pa_nil))) (pa_cons (pe_tup (pa_cons pe_int (pa_cons (pe_slice (show SlR _ (rSlZ K) from sl_tupZ) (pv 0) (po_some pe_int) (po_some pe_int)) pa_nil))) pa_nil))) (pa_cons (pe_tup (pa_cons pe_int (pa_cons (pe_slice (show SlR _ (rSlZ K) from sl_tupZ) (pv 0) po_none (po_some pe_int)) pa_nil))) pa_nil))))) (pss_one (ps_ret pe_bl)) pss_nil) (pss_one (ps_ret (pe_fG FL hG (hr.mono (by decide)) pass0 (pa_cons (pe_fS (E := fun _ => E0) F2 (hr.mono (by decide)) (fun σ => passAt takes0 σ) (pa_cons (pe_tup (pa_cons pe_int (pa_cons (pe_slice (show SlR _ (rSlZ K) from sl_tupZ) (pv 0) po_none (po_some pe_int)) pa_nil))) (pa_cons (pe_tup (pa_cons pe_int (pa_cons (pe_slice (show SlR _ (rSlZ K) from sl_tupZ) (pv 0) po_none (po_some pe_int)) pa_nil))) pa_nil))) (pa_cons (pe_tup (pa_cons pe_int (pa_cons (pe_slice (show SlR _ (rSlZ K) from sl_tupZ) (pv 0) po_none (po_some pe_int)) pa_nil))) pa_nil))))))))), ?_⟩
    dsimp only [cxOf, Cx.nox, L2.start]
    have nlL : ∀ l : Ln, noList (lineD l) = true := noList_ln
    refine sq_go (comp_made (K := K) (lo := 0) (n := 402) (j := 2) (fun k => lineD ([(k : Int)], [])) (by decide) (fun k => nlL _) (fun R r => ⟨402, rfl, by decide, by decide, r⟩) (fun x => rfl) (fun k H1 hk e => by
      rw [Int.zero_add]
      exact Lit.tup (Lits.cons (Lit.tup (Lits.cons (Lit.var rfl (.int _)) Lits.nil) (Nat.le_of_ble_eq_true rfl)) (Lits.cons (Lit.tup Lits.nil (Nat.zero_le _)) Lits.nil)) (Nat.le_of_ble_eq_true rfl)) fun H1 pts e1 hm => ?_)
    rw [linesD_bare] at hm
    have sub : ∀ (ls : List Ln), (∀ l ∈ ls, OkLn 1 l) → ls.length ≤ 400 → Sm 130000 5 (setD 1 ls) := fun ls h f => sm_set (by decide) (fun l hl => (h l hl).sm (by decide)) f
    have mt : ∀ (ls : List Ln) (k : Nat), (ls.map lineD).take k = (ls.take k).map lineD := fun ls k => List.map_take.symm
    have md : ∀ (ls : List Ln) (k : Nat), (ls.map lineD).drop k = (ls.drop k).map lineD := fun ls k => List.map_drop.symm
    have litT : ∀ {H2 : Hp} (k : Nat) {σ : L2.St}, σ[0]? = some (some pts) → Dp K H2 pts (linesD (bareLns [] 402)) → Lit K H2 (tTup (tCons (tC (V.int 1)) (tCons (tSl (rSlZ K) (tVar 0) tNoPart (tPart (tC (V.int (k : Nat))))) tNil))) σ (setD 1 ((bareLns [] 402).take k)) := fun {H2} k {σ} h hd => by
      have := Lit.take k (Lit.var h hd)
      rw [mt] at this
      exact Lit.tup (Lits.cons Lit.int (Lits.cons this Lits.nil)) (Nat.le_of_ble_eq_true rfl)
    refine told_ref (K := K) Lit.str (litT 201 rfl hm) (Lit.tup (Lits.cons Lit.int (Lits.cons (by
      have := Lit.dropI (k := 201) (Lit.var (K := K) (H0 := H1) (σ := [some pts, none, none]) (i := 0) rfl hm) (Lit.int (i := 201))
      rw [md] at this
      exact this) Lits.nil)) (Nat.le_of_ble_eq_true rfl)) (congrArg refuR union_great) fun H2 told e2 ht => ?_
    have hm2 := hm.to e2
    refine sq_yes (yes_like (K := K) (N := 130) (Lit.var rfl ht) (show Lit K H2 _ _ (ref2 "TooGreat" (.int 400)) from by unfold ref2; walk_at "qe") ?_ (by decide)) fun H3 e3 => ?_
    · exact sm2s rfl (by decide) (Sm.int' (by decide))
    have hm3 := hm2.to e3
    refine sq_yes (yes_union (K := K) (N := 130000) (litT 200 rfl hm3) (Lit.tup (Lits.cons Lit.int (Lits.cons (by
      have := Lit.mid (K := K) (H0 := H3) (σ := [some pts, some told, none]) 200 400 (by decide) (by rw [List.length_map, len402]; decide) (Lit.var (i := 0) rfl hm3)
      rw [md, mt] at this
      exact this) Lits.nil)) (Nat.le_of_ble_eq_true rfl)) (litT 400 rfl hm3) union_halves ?_ (by decide)) fun H4 e4 => ?_
    · exact (sub _ (part_all.take 400).ok (by rw [List.length_take, len402]; decide)).mono (by decide) (by decide)
    have hm4 := hm3.to e4
    refine ret_yes (yes_union (K := K) (N := 130000) (litT 201 rfl hm4) (litT 201 rfl hm4) (litT 201 rfl hm4) union_same ?_ (by decide)) fun H5 e5 => k _ ((((e1.trans e2).trans e3).trans e4).trans e5)
    exact (sub _ (part_all.take 201).ok (by rw [List.length_take, len402]; decide)).mono (by decide) (by decide)
end
end Ws
/-! ## K25b -/
/-! what is refused -/
namespace Ws
open PySem PySem.Spec PyProof.Rows L2
theorem LsOk.set {m : Nat} {ls : List Ln} (o : LsOk m ls) : setF (setD m ls) = .ok := by
  obtain ⟨r, r2, ln, _⟩ := o.ln
  have := o.n
  exact set_is o.m1 o.m4 (fun l hl => (ln l hl).ok.line (by have := (ln l hl).n; omega) (ln l hl).asc (ln l hl).nz) o.asc (by omega)
theorem LsOk.is {m : Nat} {ls : List Ln} (o : LsOk m ls) : SetOk m ls := by
  obtain ⟨r, r2, ln, _⟩ := o.ln
  have := o.n
  exact ⟨o.m1, o.m4, by omega, fun l hl => (ln l hl).ok, fun l hl => by have := (ln l hl).n; omega⟩
def wideD (m : Nat) : PyData := setD (m + 1) []
def oddD (m : Nat) : PyData := setD m [(List.replicate (m + 1) 1, [])]
theorem wide_ok {m : Nat} (m1 : 1 ≤ m) (m3 : m ≤ 3) : setF (wideD m) = .ok := set_is (by omega) (by omega) (fun l hl => absurd hl List.not_mem_nil) List.Pairwise.nil (by decide)
theorem odd_bad {m : Nat} (m1 : 1 ≤ m) (m4 : m ≤ 4) : setF (oddD m) = .bad 1 := by
  refine setF_bad (i := 0) m1 m4 (Nat.le_of_ble_eq_true rfl) (Nat.le_of_ble_eq_true rfl) (fun j hj => absurd hj (Nat.not_lt_zero j)) ?_
  unfold badAt
  have : isLineD m (lineD (List.replicate (m + 1) 1, [])) = false := by
    show (isEntryD m (intsD (List.replicate (m + 1) 1)) && _ && _) = false
    have : isEntryD m (intsD (List.replicate (m + 1) 1)) = false := by
      unfold isEntryD
      have : isTn (intsD (List.replicate (m + 1) 1)) m = false := decide_eq_false (by rw [List.length_map, List.length_replicate]; omega)
      rw [this]
      rfl
    rw [this]
    rfl
  show (!isLineD m (lineD (List.replicate (m + 1) 1, [])) || _) = true
  rw [this]
  rfl
theorem ask_two {wd : Str} (h : wd = Str.ofString "union" ∨ wd = Str.ofString "sum") (d1 d2 : PyData) : ∃ k, askF wd d1 d2 = twoF d1 d2 k := by
  rcases h with rfl | rfl
  · exact ⟨_, rfl⟩
  · exact ⟨_, rfl⟩
section
variable {wd : Str} (hw : wd = Str.ofString "union" ∨ wd = Str.ofString "sum") {m : Nat} {ls : List Ln}
include hw
theorem r_wide (o : LsOk m ls) (m3 : m ≤ 3) : refuR (askF wd (setD m ls) (wideD m)) = ref2 "Unlike" (wideD m) := by
  obtain ⟨k, e⟩ := ask_two hw (setD m ls) (wideD m)
  rw [e]
  unfold twoF
  rw [oneF_ok o.set, oneF_ok (wide_ok o.m1 m3), if_neg (by unfold wideD; rw [manyOf_set, manyOf_set]; omega)]
  rfl
theorem r_one (o : LsOk m ls) (m3 : m ≤ 3) : refuR (askF wd (wideD m) (setD m ls)) = ref2 "Unlike" (setD m ls) := by
  obtain ⟨k, e⟩ := ask_two hw (wideD m) (setD m ls)
  rw [e]
  unfold twoF
  rw [oneF_ok o.set, oneF_ok (wide_ok o.m1 m3), if_neg (by unfold wideD; rw [manyOf_set, manyOf_set]; omega)]
  rfl
theorem r_odd (o : LsOk m ls) : refuR (askF wd (oddD m) (wideD m)) = ref2 "BadSet" (.int 1) := by
  obtain ⟨k, e⟩ := ask_two hw (oddD m) (wideD m)
  rw [e]
  unfold twoF
  rw [oneF_bad (odd_bad o.m1 o.m4)]
  rfl
theorem r_none (o : LsOk m ls) : refuR (askF wd (setD m ls) .none) = ref2 "BadSet" (.int 0) := by
  obtain ⟨k, e⟩ := ask_two hw (setD m ls) .none
  rw [e]
  unfold twoF
  rw [oneF_ok o.set]
  rfl
end
theorem r_star {m : Nat} {ls : List Ln} (o : LsOk m ls) : refuR (askF "star" (oddD m) .none) = ref2 "BadSet" (.int 1) := by
  rw [askT]
  unfold starF
  rw [oneF_bad (odd_bad o.m1 o.m4)]
  rfl
/-! points -/
def ptsL : List Ln := (List.range 21).map fun (k : Nat) => ([(k : Int) + 1], [])
theorem pts_eq : ptsL = ((bareLns [] 402).drop 1).take 21 := by
  unfold ptsL bareLns
  rw [← List.map_drop, ← List.map_take]
  have : ((List.range 402).drop 1).take 21 = (List.range 21).map (· + 1) := by decide
  rw [this, List.map_map]
  rfl
theorem pts_part : BarePart ptsL := by rw [pts_eq]; exact (part_all.drop 1).take 21
theorem pts_len : ptsL.length = 21 := by unfold ptsL; rw [List.length_map, List.length_range]
theorem sum_great : askF "sum" (setD 1 ptsL) (setD 1 (ptsL.take 20)) = .great 400 := by
  rw [askS, sumF_ok (pts_part.set (by rw [pts_len]; decide)) ((pts_part.take 20).set (by rw [List.length_take, pts_len]; decide))]
  unfold sumW
  rw [if_pos (by rw [List.length_take, pts_len]; decide)]
  rfl
theorem ul_nil : ul [] = [] := (ul_unl []).uniq unl_nil
theorem bad_none {l : Ln} (h1 : ∀ x ∈ l.1, x ≤ 10 ^ 9) (h2 : (ul l.2).length ≤ 12) : badLn l = none := by
  unfold badLn
  rw [if_neg, if_neg (by omega)]
  intro e
  obtain ⟨x, hx, z⟩ := List.any_eq_true.mp e
  have := of_decide_eq_true z
  have := h1 x hx
  omega
theorem find_none {ls : List Ln} (h : ∀ l ∈ ls, badLn l = none) : ls.findSome? badLn = none := List.findSome?_eq_none_iff.mpr h
theorem pts_small : ∀ l ∈ ptsL, ∃ x : Int, l = ([x], []) ∧ 0 ≤ x ∧ x ≤ 1000 := fun l hl => by
  obtain ⟨k, hk, rfl⟩ := List.mem_map.mp hl
  have := List.mem_range.mp hk
  exact ⟨_, rfl, by omega, by omega⟩
theorem prods_pts {a b : List Ln} (ha : ∀ l ∈ a, l ∈ ptsL) (hb : ∀ l ∈ b, l ∈ ptsL) : ∀ l ∈ prods a b, ∃ x : Int, l = ([x], []) ∧ 0 ≤ x ∧ x ≤ 2000 := fun l hl => by
  obtain ⟨x, hx, hl⟩ := List.mem_flatMap.mp hl
  obtain ⟨y, hy, rfl⟩ := List.mem_map.mp hl
  obtain ⟨i, rfl, i0, i1⟩ := pts_small x (ha x hx)
  obtain ⟨j, rfl, j0, j1⟩ := pts_small y (hb y hy)
  exact ⟨i + 1 * j, rfl, by omega, by omega⟩
theorem sum_fits : refuR (askF "sum" (setD 1 (ptsL.take 20)) (setD 1 (ptsL.take 20))) = .none := by
  have h20 : (ptsL.take 20).length = 20 := by rw [List.length_take, pts_len]; rfl
  have s := (pts_part.take 20).set (by rw [h20]; decide)
  have pp := prods_pts (fun l hl => List.mem_of_mem_take hl) (fun l hl => List.mem_of_mem_take hl) (a := ptsL.take 20) (b := ptsL.take 20)
  have bare : ∀ l ∈ prods (ptsL.take 20) (ptsL.take 20), l.2 = [] := fun l hl => by obtain ⟨x, rfl, _⟩ := pp l hl; rfl
  rw [askS, sumF_ok s s]
  unfold sumW
  rw [if_neg (by rw [h20]; decide), find_none fun l hl => by
    obtain ⟨x, rfl, x0, x1⟩ := pp l hl
    exact bad_none (fun y hy => by rw [List.mem_singleton.mp hy]; omega) (by show (ul []).length ≤ 12; rw [ul_nil]; decide)]
  obtain ⟨out, e⟩ := setW_some (bare_12 bare) (by rw [prods_len, h20]; decide)
  show refuR (ofSW 1 (setW _)) = .none
  rw [e]
  rfl
theorem star_great {d2 : PyData} : askF "star" (setD 1 (ptsL.take 9)) d2 = .great 400 := by
  have h9 : (ptsL.take 9).length = 9 := by rw [List.length_take, pts_len]; rfl
  rw [askT, starF_ok ((pts_part.take 9).set (by rw [h9]; decide))]
  unfold starW
  rw [if_pos (by rw [h9]; decide)]
  rfl
def bigL : List Ln := [([10 ^ 9], [])]
theorem big_ok : setF (setD 1 bigL) = .ok := set_is (by decide) (by decide) (fun l hl => by
  rw [List.mem_singleton.mp hl]
  exact (show OkLn 1 (([10 ^ 9], []) : Ln) from ⟨rfl, fun x hx => by rw [List.mem_singleton.mp hx]; decide, fun r hr => absurd hr List.not_mem_nil, Nat.zero_le _⟩).line (by decide) List.Pairwise.nil (fun x hx => absurd hx List.not_mem_nil)) (List.pairwise_singleton ..) (by decide)
theorem big_sum : askF "sum" (setD 1 bigL) (setD 1 (ptsL.take 1)) = .great (10 ^ 9) := by
  have h1 : (ptsL.take 1).length = 1 := by rw [List.length_take, pts_len]; rfl
  rw [askS, sumF_ok big_ok ((pts_part.take 1).set (by rw [h1]; decide))]
  have e : prods bigL (ptsL.take 1) = [([10 ^ 9 + 1 * (((0 : Nat) : Int) + 1)], [])] := rfl
  unfold sumW
  rw [if_neg (by rw [h1]; decide), e, List.findSome?_cons]
  have : badLn ([10 ^ 9 + 1 * (((0 : Nat) : Int) + 1)], []) = some (10 ^ 9) := by
    unfold badLn
    rw [if_pos (by decide)]
  rw [this]
  rfl
theorem row_tl {x : Int} {r s : Sq.Row} : PySem.W.dataLt (intsD (x :: r)) (intsD (x :: s)) = PySem.W.dataLt (intsD r) (intsD s) := by
  show PySem.W.dataLt (.tuple (.int x :: r.map PyData.int)) (.tuple (.int x :: s.map PyData.int)) = PySem.W.dataLt (.tuple (r.map PyData.int)) (.tuple (s.map PyData.int))
  rw [PySem.W.dataLt_tuple, PySem.W.dataLt_all_yes rfl (by show (x == x) = true; simp), PySem.W.dataLt_tuple]
def colR (a : Int) (n : Nat) : List Sq.Row := (List.range n).map fun (k : Nat) => [a, (k : Int)]
theorem colR_len (a : Int) (n : Nat) : (colR a n).length = n := by unfold colR; rw [List.length_map, List.length_range]
theorem colR_asc (a : Int) (n : Nat) : Asc intsD (colR a n) := by
  unfold Asc colR
  rw [List.pairwise_map]
  exact List.pairwise_lt_range.imp fun {x y} (h : x < y) => by rw [row_tl]; exact row_hd (Int.ofNat_lt.mpr h)
theorem colR_in {a : Int} (a0 : 0 < a) (a9 : a ≤ 10 ^ 9) {n : Nat} (hn : n ≤ 100) : ∀ r ∈ colR a n, (r.length = 2 ∧ ∀ x ∈ r, 0 ≤ x ∧ x ≤ 10 ^ 9) ∧ nzR r = true := fun r hr => by
  obtain ⟨k, hk, rfl⟩ := List.mem_map.mp hr
  have := List.mem_range.mp hk
  refine ⟨⟨rfl, fun x hx => ?_⟩, ?_⟩
  · simp only [List.mem_cons, List.not_mem_nil, or_false] at hx
    rcases hx with rfl | rfl <;> omega
  · unfold nzR
    rw [List.any_cons, Bool.or_eq_true]
    exact .inl (by simpa using (show a ≠ 0 by omega))
theorem two_asc (i j : Nat) : Asc intsD (colR 7 i ++ colR 8 j) := List.pairwise_append.mpr ⟨colR_asc 7 i, colR_asc 8 j, fun a ha b hb => by
  obtain ⟨x, _, rfl⟩ := List.mem_map.mp ha
  obtain ⟨y, _, rfl⟩ := List.mem_map.mp hb
  exact row_hd (by decide)⟩
theorem two_ul {i j : Nat} (hi : i ≤ 100) (hj : j ≤ 100) : ul (colR 7 i ++ colR 8 j) = colR 7 i ++ colR 8 j := (ul_unl _).uniq (unl_self (two_asc i j) fun r hr => by
  rcases List.mem_append.mp hr with h | h
  · exact (colR_in (by decide) (by decide) hi r h).2
  · exact (colR_in (by decide) (by decide) hj r h).2)
theorem col_set {a : Int} (a0 : 0 < a) (a9 : a ≤ 10 ^ 9) {n : Nat} (hn : n ≤ 12) {b : Sq.Row} (bl : b.length = 2) (bb : ∀ x ∈ b, 0 ≤ x ∧ x ≤ 10 ^ 9) : setF (setD 2 [(b, colR a n)]) = .ok := set_is (by decide) (by decide) (fun l hl => by
  rw [List.mem_singleton.mp hl]
  exact (show OkLn 2 ((b, colR a n) : Ln) from ⟨bl, bb, fun r hr => (colR_in a0 a9 (by omega) r hr).1, by show (colR a n).length ≤ 16; rw [colR_len]; omega⟩).line (by show (colR a n).length ≤ 12; rw [colR_len]; exact hn) (colR_asc a n) fun r hr => (colR_in a0 a9 (by omega) r hr).2) (List.pairwise_singleton ..) (Nat.le_of_ble_eq_true rfl)
theorem twelve_or {n : Nat} (hn : n = 6 ∨ n = 7) : refuR (askF "sum" (setD 2 [([0, 0], colR 7 6)]) (setD 2 [([0, 1], colR 8 n)])) = if n = 6 then .none else ref2 "TooGreat" (.int 12) := by
  have z2 : ∀ x ∈ ([0, 0] : List Int), 0 ≤ x ∧ x ≤ 10 ^ 9 := by decide
  have z3 : ∀ x ∈ ([0, 1] : List Int), 0 ≤ x ∧ x ≤ 10 ^ 9 := by decide
  rw [askS, sumF_ok (col_set (by decide) (by decide) (by decide) rfl z2) (col_set (by decide) (by decide) (by omega) rfl z3)]
  have e : prods [([0, 0], colR 7 6)] [([0, 1], colR 8 n)] = [([0, 1], colR 7 6 ++ colR 8 n)] := rfl
  have ul2 := two_ul (i := 6) (j := n) (by decide) (by omega)
  have len : (colR 7 6 ++ colR 8 n).length = 6 + n := by rw [List.length_append, colR_len, colR_len]
  unfold sumW
  rw [if_neg (by show ¬ 400 < 1 * 1; decide), e, List.findSome?_cons]
  rcases hn with rfl | rfl
  · have : badLn ([0, 1], colR 7 6 ++ colR 8 6) = none := bad_none (by decide) (by show (ul _).length ≤ 12; rw [ul2, len]; decide)
    rw [this]
    obtain ⟨out, e⟩ := setW_some (ls := [([0, 1], colR 7 6 ++ colR 8 6)]) (fun f hf => by
      obtain rfl := List.mem_singleton.mp hf
      show (ul _).length ≤ 12
      rw [ul2, len]
      decide) (by decide)
    show refuR (ofSW 2 (setW _)) = _
    rw [e]
    rfl
  · have : badLn ([0, 1], colR 7 6 ++ colR 8 7) = some 12 := by
      unfold badLn
      rw [if_neg (by decide), if_pos (by show 12 < (ul _).length; rw [ul2, len]; decide)]
    rw [this]
    rfl
end Ws
/-! ## Q25j -/
namespace Ws
open PySem PySem.Spec PyProof.Rows L2 RZ SD
local macro_rules | `(tactic| walk_at "nf") => `(tactic| dsimp only [tNext, tSeq, tDrop, tRet, tRetN, tIfS, tAsg, gName, gTup, gCons, gNil, tVar, tC, tOp, tUn, rI, rI0, rU, rEq, rNe, tTest, tChain, tAnd, tOr, tNot, tAndV, tOrV, tNotV, tIf, tCB, tCKw, tCons, tNil, tTup, tLst, tCa, tCallS, tB, rIxT, rIxL, rIxS, cxOf, Cx.nox, Cx.wish, Cx.blk, L2.start, tPar, tPar3, tNever, tYes, tBits, tRz, tBM, rAppend, tyV, tXf, suiteEnds, gSub, rSetL, tBreak, rMax, tDGet, sDPut, tSl, tNoPart, tPart, tDisp, tPairs, tDGet2, tDNewK, tAugS, ipI, rGetL, tDIn, tDNotIn, tBM0, rPop])
local macro_rules | `(tactic| walk_at "sx") => `(tactic| simp only [wipe, List.cons.injEq, and_assoc, exists_and_left, and_true, List.map_cons, List.map_nil, List.length_cons, List.length_nil, List.cons_append, List.nil_append, List.append_nil, Nat.reduceAdd, Nat.reduceSub, List.replicate, List.getElem?_cons_zero, List.getElem?_cons_succ, List.set_cons_zero, List.set_cons_succ, Option.some.injEq, V.int.injEq, V.bl.injEq, V.ref.injEq, V.str.injEq, exists_eq_left', exists_eq_left, true_and, Bool.true_eq_false, Bool.false_eq_true, if_true, if_false])

local macro_rules | `(tactic| walk_at "qe") => `(tactic| repeat' first | exact Lit.int | exact Lit.str | exact Lit.non | exact Lit.bl | exact Lits.nil | exact Lit.var rfl (by assumption) | refine Lits.cons ?_ ?_ | refine Lit.tup ?_ (Nat.le_of_ble_eq_true rfl) | refine Lit.lst ?_ (Nat.le_of_ble_eq_true rfl))
section
variable {K : PySem.W.Frag} {H0 : Hp} {σ : L2.St}
theorem sq_none {wt t1 t2 : TE} {r u : TS} {D : Ends} {H : Hp} {w : Str} {d1 d2 : PyData} (h0 : Lit K H wt σ (.str w)) (h1 : Lit K H t1 σ d1) (h2 : Lit K H t2 σ d2) (e : refuR (askF w d1 d2) = .none) (k : ∀ H', Same H H' → u D σ H') :
    tSeq (tIfS (tTest (tOp (fun x y H Q => y = V.non ∧ Q (V.bl !decide (x = V.non)) H) (tCa (spRefusal K) E0 (tCons wt (tCons t1 (tCons t2 tNil)))) (tC V.non))) r tNext) u D σ H :=
  h0 H _ (Same.refl _) fun H1 v e1 hv => h1 H1 _ e1 fun H2 x e2 hx => h2 H2 _ (e1.trans e2) fun H3 y e3 hy => by
    cases hv
    refine ⟨w, x, y, d1, d2, rfl, hx.to e3, hy, fun H4 u e4 hu => ?_⟩
    rw [e] at hu
    cases hu
    exact ⟨rfl, _, rfl, k _ (((e1.trans e2).trans e3).trans e4)⟩
theorem ret_none {wt t1 t2 : TE} {D : Ends} {H : Hp} {w : Str} {d1 d2 : PyData} (h0 : Lit K H wt σ (.str w)) (h1 : Lit K H t1 σ d1) (h2 : Lit K H t2 σ d2) (e : refuR (askF w d1 d2) = .none) (k : ∀ H', Same H H' → D.rt (.bl true) H') :
    tRet (tOp (fun x y H Q => y = V.non ∧ Q (V.bl (decide (x = V.non))) H) (tCa (spRefusal K) E0 (tCons wt (tCons t1 (tCons t2 tNil)))) (tC V.non)) D σ H :=
  h0 H _ (Same.refl _) fun H1 v e1 hv => h1 H1 _ e1 fun H2 x e2 hx => h2 H2 _ (e1.trans e2) fun H3 y e3 hy => by
    cases hv
    refine ⟨w, x, y, d1, d2, rfl, hx.to e3, hy, fun H4 u e4 hu => ?_⟩
    rw [e] at hu
    cases hu
    exact ⟨rfl, k _ (((e1.trans e2).trans e3).trans e4)⟩
theorem Lit.rep {te ti : TE} {d : PyData} {k : Nat} (h1 : Lit K H0 te σ (.tuple [d])) (h2 : Lit K H0 ti σ (.int (k : Nat))) (hk : k ≤ 1000) : Lit K H0 (tOp (rRepZ K) te ti) σ (.tuple (List.replicate k d)) := fun H Q e q =>
  h1 H _ e fun H1 v e1 hv => h2 H1 _ (e.trans e1) fun H2 x e2 hx => by
    obtain ⟨p, ys, rfl, hp, hys⟩ := (hv.to e2).tup_inv
    obtain ⟨y, rfl, hy⟩ : ∃ y, ys = [y] ∧ Dp K H2 y d := by
      cases hys with
      | cons h1 h2 => cases h2; exact ⟨_, rfl, h1⟩
    cases hx
    refine ⟨p, k, [y], rfl, rfl, hp, hk, Nat.le_of_ble_eq_true rfl, fun H3 r e3 hr => ?_⟩
    rw [rep_one] at hr
    exact q _ _ ((e1.trans e2).trans e3) (.tup hr (dps_rep (hy.to e3) k))
theorem Lit.comp {lo : Int} {n j : Nat} {te : TE} {vs : List Nat} {wi : L2.TI} (f : Nat → PyData) (hn : n ≤ 1000) (nl : ∀ k, noList (f k) = true)
    (hi : ∀ (H : Hp) (R : It → Hp → Prop), R (Itr lo n) H → wi σ H R) (hw : ∀ x : V, wipe ((wipe σ vs).set j (some x)) vs = wipe σ vs)
    (h : ∀ k H1, k < n → Same H0 H1 → Lit K H1 te ((wipe σ vs).set j (some (.int (lo + (k : Nat))))) (f k)) :
    Lit K H0 (tCB (fun xs H Q => ∃ p ys, xs = [V.ref p] ∧ ((SqL K H p ys ∧ ∀ (l : Addr), H l = none → Q (V.ref l) (upd H l (HO.tup ys))) ∨ SqT K H p ys ∧ Q (V.ref p) H)) (tCons (tLc wi (gName j) tYes te vs) tNil)) σ (.tuple ((List.range n).map f)) := fun H Q e q =>
  comp_made (lo := lo) f hn nl (hi H) hw (fun k H1 hk e1 => h k H1 hk (e.trans e1)) q
end
def spRefR (K : PySem.W.Frag) : Sp := fun vs H Q _ => ∃ (a l c : Addr) (n m : Nat) (v : V) (ls : List Ln), vs = [.ref a, v] ∧ LSt H a l c n ∧ n ≤ 800000 ∧ Dp K H v (setD m ls) ∧ LsOk m ls ∧ m ≤ 3 ∧ ∀ H', Sbt a l H H' → LSt H' a l c (n + 1) → Q (.bl true) H'
abbrev s__law_refusals_right : Stmt := top 47
abbrev nm__law_refusals_right : List Str := ["state", "one", "many_so", "wide_so", "odd", "word", "points", "great", "seven", "seven_more", "due", "told", "k"]
abbrev pr__law_refusals_right : List Str := ["state", "one"]
theorem sc__law_refusals_right : FnScope nm__law_refusals_right pr__law_refusals_right (defScope s__law_refusals_right) := ⟨rfl, rfl, rfl, by decide +kernel, rfl, by decide +kernel, by decide +kernel⟩
section
variable {P : Program} {w : World} {K : PySem.W.Frag} {mg : Str → Option Value} {base : Heap} {SA BS TG BU : Addr}
theorem ok_ref_right (B : Bl mg) (F0 : Df P w K mg base CX0 2 "_law_draw" pr__law_draw spDrawW) (F1 : Df P w K mg base CX0 9 "_law_refusal" pr__law_refusal (spRefusal K)) (FL : DfG P w K mg base CX0 1 "_law_like" pr__law_like (spLike K)) (D : Dt K mg "_law_refusals_right" s__law_refusals_right pr__law_refusals_right) : DfG P w K mg base CX0 10 "_law_refusals_right" pr__law_refusals_right (spRefR K) := by
  refine D.okG sc__law_refusals_right (fun vs H Q E h => ?_) (fun f cdv A outer s H vs Q E hG hr h => ?_)
  · obtain ⟨a, l, c, n, m, v, ls, rfl, _⟩ := h
    rfl
  · obtain ⟨a, l, c, n, m, v, ls, rfl, hst, hn, hd, o, m3, k⟩ := h
    refine ⟨_, (pss_cons (ps_set (i := 2) sc__law_refusals_right.nd rfl (Or.inl rfl) (pe_ix ix_tup (pv 1) pe_int (fun _ _ => rfl))) (pss_cons (ps_par (i := 3) (j := 4) (by rfl) sc__law_refusals_right.nd rfl rfl (by decide) rfl rfl (pa_cons (pe_tup (pa_cons (pe_op op_add (pv 2) pe_int) (pa_cons (pe_tup pa_nil) pa_nil))) (pa_cons (pe_tup (pa_cons (pv 2) (pa_cons (pe_tup (pa_cons (pe_tup (pa_cons (pe_op (show OpR _ _ (rRepZ K) from op_repZ) (pe_tup (pa_cons pe_int pa_nil)) (pe_op op_add (pv 2) pe_int)) (pa_cons (pe_tup pa_nil) pa_nil))) pa_nil)) pa_nil))) pa_nil)) (by rfl)) (pss_cons (ps_for PassesOwn.never rfl (pi_list (pe_lst (pa_cons pe_str (pa_cons pe_str pa_nil)))) (pg_name (i := 5) sc__law_refusals_right.nd rfl (Or.inl rfl)) (pss_cons (ps_if (pt_not (pt_val (pe_fG FL hG (hr.mono (by decide)) pass0 (pa_cons (pe_f F1 (hr.mono (by decide)) pass0 (pa_cons (pv 5) (pa_cons (pv 1) (pa_cons (pv 3) pa_nil)))) (pa_cons (pe_lst (pa_cons pe_str (pa_cons (pv 3) pa_nil))) pa_nil))))) (pss_one (ps_ret pe_bl)) pss_nil) (pss_cons (ps_if (pt_not (pt_val (pe_fG FL hG (hr.mono (by decide)) pass0 (pa_cons (pe_f F1 (hr.mono (by decide)) pass0 (pa_cons (pv 5) (pa_cons (pv 3) (pa_cons (pv 1) pa_nil)))) (pa_cons (pe_lst (pa_cons pe_str (pa_cons (pv 1) pa_nil))) pa_nil))))) (pss_one (ps_ret pe_bl)) pss_nil) (pss_cons (ps_if (pt_not (pt_val (pe_fG FL hG (hr.mono (by decide)) pass0 (pa_cons (pe_f F1 (hr.mono (by decide)) pass0 (pa_cons (pv 5) (pa_cons (pv 4) (pa_cons (pv 3) pa_nil)))) (pa_cons (pe_lst (pa_cons pe_str (pa_cons pe_int pa_nil))) pa_nil))))) (pss_one (ps_ret pe_bl)) pss_nil) (pss_one (ps_if (pt_not (pt_val (pe_fG FL hG (hr.mono (by decide)) pass0 (pa_cons (pe_f F1 (hr.mono (by decide)) pass0 (pa_cons (pv 5) (pa_cons (pv 1) (pa_cons pe_non pa_nil)))) (pa_cons (pe_lst (pa_cons pe_str (pa_cons pe_int pa_nil))) pa_nil))))) (pss_one (ps_ret pe_bl)) pss_nil)))))) (pss_cons (ps_if (pt_not (pt_val (pe_fG FL hG (hr.mono (by decide)) pass0 (pa_cons (pe_f F1 (hr.mono (by decide)) pass0 (pa_cons pe_str (pa_cons (pv 4) (pa_cons pe_non pa_nil)))) (pa_cons (pe_lst (pa_cons pe_str (pa_cons pe_int pa_nil))) pa_nil))))) (pss_one (ps_ret pe_bl)) pss_nil) (pss_cons (ps_set (i := 6) sc__law_refusals_right.nd rfl (Or.inl rfl) (pe_callTy call_tuple_of (by rfl) B.tuple PyProof.Rows.boot_tuple (pa_cons (pe_lc (own := [("k", 12)]) (g := gName 12) (tt := tYes) (by rfl) sc__law_refusals_right.nd (pi_range1 (by rfl) B.range (pa_cons pe_int pa_nil)) (blkOk_by (own := [("k", 12)]) (N := nm__law_refusals_right) (sc := defScope s__law_refusals_right) (by decide +kernel)) (fun _ _ _ _ _ => pg_name (i := 12) sc__law_refusals_right.nd rfl (Or.inl rfl)) (fun _ _ _ _ _ => pts_nil) (fun _ _ _ _ _ => (pe_tup (pa_cons (pe_tup (pa_cons (pe_op op_add (pv 12) pe_int) pa_nil)) (pa_cons (pe_tup pa_nil) pa_nil))))) pa_nil))) (pss_cons (ps_if (pt_not (pt_val (pe_fG FL hG (hr.mono (by decide)) pass0 (pa_cons (pe_f F1 (hr.mono (by decide)) pass0 (pa_cons pe_str (pa_cons (pe_tup (pa_cons pe_int (pa_cons (pv 6) pa_nil))) (pa_cons (pe_tup (pa_cons pe_int (pa_cons (pe_slice (show SlR _ (rSlZ K) from sl_tupZ) (pv 6) po_none (po_some pe_int)) pa_nil))) pa_nil)))) (pa_cons (pe_lst (pa_cons pe_str (pa_cons pe_int pa_nil))) pa_nil))))) (pss_one (ps_ret pe_bl)) pss_nil) (pss_cons (ps_if (pt_cmpR op_notN (pe_f F1 (hr.mono (by decide)) pass0 (pa_cons pe_str (pa_cons (pe_tup (pa_cons pe_int (pa_cons (pe_slice (show SlR _ (rSlZ K) from sl_tupZ) (pv 6) po_none (po_some pe_int)) pa_nil))) (pa_cons (pe_tup (pa_cons pe_int (pa_cons (pe_slice (show SlR _ (rSlZ K) from sl_tupZ) (pv 6) po_none (po_some pe_int)) pa_nil))) pa_nil)))) pe_non (nomark _)) (pss_one (ps_ret pe_bl)) pss_nil) (pss_cons (ps_if (pt_not (pt_val (pe_fG FL hG (hr.mono (by decide)) pass0 (pa_cons (pe_f F1 (hr.mono (by decide)) pass0 (pa_cons pe_str (pa_cons (pe_tup (pa_cons pe_int (pa_cons (pe_slice (show SlR _ (rSlZ K) from sl_tupZ) (pv 6) po_none (po_some pe_int)) pa_nil))) (pa_cons pe_non pa_nil)))) (pa_cons (pe_lst (pa_cons pe_str (pa_cons pe_int pa_nil))) pa_nil))))) (pss_one (ps_ret pe_bl)) pss_nil) (pss_cons (ps_par (i := 7) (j := 8) (by rfl) sc__law_refusals_right.nd rfl rfl (by decide) rfl rfl (pa_cons (pe_tup (pa_cons pe_int (pa_cons (pe_tup (pa_cons (pe_tup (pa_cons (pe_tup (pa_cons (pe_op op_pow pe_int pe_int) pa_nil)) (pa_cons (pe_tup pa_nil) pa_nil))) pa_nil)) pa_nil))) (pa_cons (pe_callTy call_tuple_of (by rfl) B.tuple PyProof.Rows.boot_tuple (pa_cons (pe_lc (own := [("k", 12)]) (g := gName 12) (tt := tYes) (by rfl) sc__law_refusals_right.nd (pi_range1 (by rfl) B.range (pa_cons pe_int pa_nil)) (blkOk_by (own := [("k", 12)]) (N := nm__law_refusals_right) (sc := defScope s__law_refusals_right) (by decide +kernel)) (fun _ _ _ _ _ => pg_name (i := 12) sc__law_refusals_right.nd rfl (Or.inl rfl)) (fun _ _ _ _ _ => pts_nil) (fun _ _ _ _ _ => (pe_tup (pa_cons pe_int (pa_cons (pv 12) pa_nil))))) pa_nil)) pa_nil)) (by rfl)) (pss_cons (ps_if (pt_not (pt_val (pe_fG FL hG (hr.mono (by decide)) pass0 (pa_cons (pe_f F1 (hr.mono (by decide)) pass0 (pa_cons pe_str (pa_cons (pv 7) (pa_cons (pe_tup (pa_cons pe_int (pa_cons (pe_slice (show SlR _ (rSlZ K) from sl_tupZ) (pv 6) po_none (po_some pe_int)) pa_nil))) pa_nil)))) (pa_cons (pe_lst (pa_cons pe_str (pa_cons (pe_op op_pow pe_int pe_int) pa_nil))) pa_nil))))) (pss_one (ps_ret pe_bl)) pss_nil) (pss_cons (ps_set (i := 9) sc__law_refusals_right.nd rfl (Or.inl rfl) (pe_callTy call_tuple_of (by rfl) B.tuple PyProof.Rows.boot_tuple (pa_cons (pe_lc (own := [("k", 12)]) (g := gName 12) (tt := tYes) (by rfl) sc__law_refusals_right.nd (pi_range1 (by rfl) B.range (pa_cons (pe_op op_add pe_int (pe_f F0 (hr.mono (by decide)) pass0 (pa_cons (pv 0) (pa_cons pe_int pa_nil)))) pa_nil)) (blkOk_by (own := [("k", 12)]) (N := nm__law_refusals_right) (sc := defScope s__law_refusals_right) (by decide +kernel)) (fun _ _ _ _ _ => pg_name (i := 12) sc__law_refusals_right.nd rfl (Or.inl rfl)) (fun _ _ _ _ _ => pts_nil) (fun _ _ _ _ _ => (pe_tup (pa_cons pe_int (pa_cons (pv 12) pa_nil))))) pa_nil))) (pss_cons (ps_set (i := 10) sc__law_refusals_right.nd rfl (Or.inl rfl) (pe_ifExp (pt_cmpR op_le (pe_op op_add (pe_callB call_len_seq (by rfl) B.len PySem.boot_len (pa_cons (pv 9) pa_nil)) pe_int) pe_int (nomark _)) pe_non (pe_lst (pa_cons pe_str (pa_cons pe_int pa_nil))))) (pss_cons (ps_set (i := 11) sc__law_refusals_right.nd rfl (Or.inl rfl) (pe_f F1 (hr.mono (by decide)) pass0 (pa_cons pe_str (pa_cons (pe_tup (pa_cons pe_int (pa_cons (pe_tup (pa_cons (pe_tup (pa_cons (pe_tup (pa_cons pe_int (pa_cons pe_int pa_nil))) (pa_cons (pe_slice (show SlR _ (rSlZ K) from sl_tupZ) (pv 8) po_none (po_some pe_int)) pa_nil))) pa_nil)) pa_nil))) (pa_cons (pe_tup (pa_cons pe_int (pa_cons (pe_tup (pa_cons (pe_tup (pa_cons (pe_tup (pa_cons pe_int (pa_cons pe_int pa_nil))) (pa_cons (pv 9) pa_nil))) pa_nil)) pa_nil))) pa_nil))))) (pss_one (ps_ret (pe_fG FL hG (hr.mono (by decide)) pass0 (pa_cons (pv 11) (pa_cons (pv 10) pa_nil)))))))))))))))))), ?_⟩
    dsimp only [cxOf, Cx.nox, L2.start]
    have m1 := o.m1
    have s0 := hst
    obtain ⟨p1, u1, rfl, hp1, -⟩ := set_view hd
    refine sq_go ⟨_, rfl, p1, _, 0, _, rfl, rfl, hp1, rfl, ?_⟩
    refine sq_par (K := K) (d1 := wideD m) (d2 := oddD m) (Lits.cons (Lit.tup (Lits.cons (Lit.add (Lit.var rfl (.int (m : Nat))) Lit.int) (Lits.cons (Lit.tup Lits.nil (Nat.zero_le _)) Lits.nil)) (Nat.le_of_ble_eq_true rfl)) (Lits.cons (Lit.tup (Lits.cons (Lit.var rfl (.int (m : Nat))) (Lits.cons (Lit.tup (Lits.cons (Lit.tup (Lits.cons ?_ (Lits.cons (Lit.tup Lits.nil (Nat.zero_le _)) Lits.nil)) (Nat.le_of_ble_eq_true rfl)) Lits.nil) (Nat.le_of_ble_eq_true rfl)) Lits.nil)) (Nat.le_of_ble_eq_true rfl)) Lits.nil)) fun H1 wv ov e1 hw ho => ?_
    · have := Lit.rep (K := K) (H0 := H) (σ := [some (.ref a), some (.ref p1), some (.int (m : Nat)), none, none, none, none, none, none, none, none, none, none]) (k := m + 1) (Lit.tup (Lits.cons (Lit.int (i := 1)) Lits.nil) (by decide)) (Lit.add (i := (m : Int)) (j := 1) (Lit.var (i := 2) rfl (.int _)) Lit.int) (by omega)
      have e : intsD (List.replicate (m + 1) 1) = .tuple (List.replicate (m + 1) (.int 1)) := by
        unfold intsD
        rw [List.map_replicate]
      show Lit K H _ _ (intsD (List.replicate (m + 1) 1))
      rw [e]
      exact this
    have hd1 := hd.to e1
    have smW : Sm 130000 5 (wideD m) := sm_set (by omega) (fun l hl => absurd hl List.not_mem_nil) (by decide)
    have smO : Sm 130000 5 (setD m ls) := sm_set (by omega) (fun l hl => by
      obtain ⟨r, _, ln, _⟩ := o.ln
      exact (ln l hl).ok.sm (by omega)) (by have := o.n; omega)
    refine sq_fr (for_lst (K := K) (ds := [.str "union", .str "sum"]) (by walk_at "qe") (fun H2 pl ys2 e2 n2 h2 a2 => ?_) (by decide))
    have hd2 := hd1.to e2
    have hw2 := hw.to e2
    have ho2 := ho.to e2
    have e02 := e1.trans e2
    refine for_it (walk_list (K := K) (a := pl) (xs := ys2)) (fun i σ H' => Same H2 H' ∧ ∃ v5 : Option V, σ = [some (.ref a), some (.ref p1), some (.int (m : Nat)), some wv, some ov, v5, none, none, none, none, none, none, none]) ⟨Same.refl _, _, rfl⟩ (fun i σ H' _ q => .of (q.1 _ _ h2)) (fun i x σ Hz H3 hi q y => ?_) (fun σ H3 q => ?_)
    · obtain ⟨e3, v5, rfl⟩ := q
      obtain ⟨rfl, hx⟩ := y
      obtain ⟨wd, rfl, hwd⟩ : ∃ wd : Str, x = .str wd ∧ (wd = Str.ofString "union" ∨ wd = Str.ofString "sum") := by
        obtain ⟨d, hd1', hd2'⟩ := a2.getV hx
        have := List.mem_of_getElem? hd1'
        simp only [List.mem_cons, List.not_mem_nil, or_false] at this
        rcases this with rfl | rfl
        · cases hd2'
          exact ⟨_, rfl, .inl rfl⟩
        · cases hd2'
          exact ⟨_, rfl, .inr rfl⟩
      have hd3 := hd2.to e3
      have hw3 := hw2.to e3
      have ho3 := ho2.to e3
      dsimp only [gName]
      refine sq_yes (yes_ref (K := K) (N := 130100) (Lit.var rfl (.str wd)) (Lit.var rfl hd3) (Lit.var rfl hw3) (show Lit K H3 _ _ (ref2 "Unlike" (wideD m)) from Lit.lst (Lits.cons Lit.str (Lits.cons (Lit.var rfl hw3) Lits.nil)) (Nat.le_of_ble_eq_true rfl)) (r_wide hwd o m3) (sm2 rfl (by decide) smW) (by decide)) fun H4 e4 => ?_
      have hd4 := hd3.to e4
      have hw4 := hw3.to e4
      have ho4 := ho3.to e4
      refine sq_yes (yes_ref (K := K) (N := 130100) (Lit.var rfl (.str wd)) (Lit.var rfl hw4) (Lit.var rfl hd4) (show Lit K H4 _ _ (ref2 "Unlike" (setD m ls)) from Lit.lst (Lits.cons Lit.str (Lits.cons (Lit.var rfl hd4) Lits.nil)) (Nat.le_of_ble_eq_true rfl)) (r_one hwd o m3) (sm2 rfl (by decide) smO) (by decide)) fun H5 e5 => ?_
      have hd5 := hd4.to e5
      have hw5 := hw4.to e5
      have ho5 := ho4.to e5
      refine sq_yes (yes_ref (K := K) (N := 130) (Lit.var rfl (.str wd)) (Lit.var rfl ho5) (Lit.var rfl hw5) (show Lit K H5 _ _ (ref2 "BadSet" (.int 1)) from by unfold ref2; walk_at "qe") (r_odd hwd o) (sm2s rfl (by decide) (Sm.int' (by decide))) (by decide)) fun H6 e6 => ?_
      have hd6 := hd5.to e6
      refine if_yes (yes_ref (K := K) (N := 130) (Lit.var rfl (.str wd)) (Lit.var rfl hd6) Lit.non (show Lit K H6 _ _ (ref2 "BadSet" (.int 0)) from by unfold ref2; walk_at "qe") (r_none hwd o) (sm2s rfl (by decide) (Sm.int' (by decide))) (by decide)) fun H7 e7 => ⟨((e3.trans e4).trans (e5.trans e6)).trans e7, _, rfl⟩
    · obtain ⟨e3, v5, rfl⟩ := q
      have ho3 := ho2.to e3
      dsimp only
      refine sq_yes (yes_ref (K := K) (N := 130) Lit.str (Lit.var rfl ho3) Lit.non (show Lit K H3 _ _ (ref2 "BadSet" (.int 1)) from by unfold ref2; walk_at "qe") (r_star o) (sm2s rfl (by decide) (Sm.int' (by decide))) (by decide)) fun H4 e4 => ?_
      have nlL : ∀ l : Ln, noList (lineD l) = true := noList_ln
      refine sq_lit (K := K) (d := linesD ptsL) ?_ fun H5 pts e5 hp => ?_
      · have := Lit.comp (K := K) (H0 := H4) (σ := [some (.ref a), some (.ref p1), some (.int (m : Nat)), some wv, some ov, v5, none, none, none, none, none, none, none]) (lo := 0) (n := 21) (j := 12) (vs := [12]) (wi := iRng1 (tCons (tC (V.int 21)) tNil)) (te := tTup (tCons (tTup (tCons (tOp (rI0 fun i j => V.int (i + j)) (tVar 12) (tC (V.int 1))) tNil)) (tCons (tTup tNil) tNil))) (fun k => lineD ([(k : Int) + 1], [])) (by decide) (fun k => nlL _) (fun H R r => ⟨21, rfl, by decide, by decide, r⟩) (fun x => rfl) (fun k H1 hk e => by
          rw [Int.zero_add]
          exact Lit.tup (Lits.cons (Lit.tup (Lits.cons (Lit.add (Lit.var rfl (.int _)) Lit.int) Lits.nil) (Nat.le_of_ble_eq_true rfl)) (Lits.cons (Lit.tup Lits.nil (Nat.zero_le _)) Lits.nil)) (Nat.le_of_ble_eq_true rfl))
        have e : PyData.tuple ((List.range 21).map fun (k : Nat) => lineD ([(k : Int) + 1], [])) = linesD ptsL := by
          unfold linesD ptsL
          rw [List.map_map]
          rfl
        rw [e] at this
        exact this
      have mt : ∀ (ls : List Ln) (k : Nat), (ls.map lineD).take k = (ls.take k).map lineD := fun ls k => List.map_take.symm
      have litT : ∀ {H2 : Hp} (k : Nat) {σ : L2.St}, σ[6]? = some (some pts) → Dp K H2 pts (linesD ptsL) → Lit K H2 (tTup (tCons (tC (V.int 1)) (tCons (tSl (rSlZ K) (tVar 6) tNoPart (tPart (tC (V.int (k : Nat))))) tNil))) σ (setD 1 (ptsL.take k)) := fun {H2} k {σ} h hd => by
        have := Lit.take k (Lit.var h hd)
        rw [mt] at this
        exact Lit.tup (Lits.cons Lit.int (Lits.cons this Lits.nil)) (Nat.le_of_ble_eq_true rfl)
      refine sq_yes (yes_ref (K := K) (N := 130) (d1 := setD 1 ptsL) Lit.str (Lit.tup (Lits.cons Lit.int (Lits.cons (Lit.var rfl hp) Lits.nil)) (Nat.le_of_ble_eq_true rfl)) (litT 20 rfl hp) (show Lit K H5 _ _ (ref2 "TooGreat" (.int 400)) from by unfold ref2; walk_at "qe") (congrArg refuR sum_great) (sm2s rfl (by decide) (Sm.int' (by decide))) (by decide)) fun H6 e6 => ?_
      have hp6 := hp.to e6
      refine sq_none (K := K) Lit.str (litT 20 rfl hp6) (litT 20 rfl hp6) sum_fits fun H7 e7 => ?_
      have hp7 := hp6.to e7
      refine sq_yes (yes_ref (K := K) (N := 130) Lit.str (litT 9 rfl hp7) Lit.non (show Lit K H7 _ _ (ref2 "TooGreat" (.int 400)) from by unfold ref2; walk_at "qe") (congrArg refuR star_great) (sm2s rfl (by decide) (Sm.int' (by decide))) (by decide)) fun H8 e8 => ?_
      have hp8 := hp7.to e8
      refine sq_par (K := K) (d1 := setD 1 bigL) (d2 := rowsD (colR 7 7)) (Lits.cons (Lit.tup (Lits.cons Lit.int (Lits.cons (Lit.tup (Lits.cons (Lit.tup (Lits.cons (Lit.tup (Lits.cons (Lit.pow (i := 10) (j := 9) Lit.int Lit.int ⟨by decide, by decide⟩) Lits.nil) (Nat.le_of_ble_eq_true rfl)) (Lits.cons (Lit.tup Lits.nil (Nat.zero_le _)) Lits.nil)) (Nat.le_of_ble_eq_true rfl)) Lits.nil) (Nat.le_of_ble_eq_true rfl)) Lits.nil)) (Nat.le_of_ble_eq_true rfl)) (Lits.cons ?_ Lits.nil)) fun H9 big seven e9 hb h7 => ?_
      · have := Lit.comp (K := K) (H0 := H8) (σ := [some (.ref a), some (.ref p1), some (.int (m : Nat)), some wv, some ov, v5, some pts, none, none, none, none, none, none]) (lo := 0) (n := 7) (j := 12) (vs := [12]) (wi := iRng1 (tCons (tC (V.int 7)) tNil)) (te := tTup (tCons (tC (V.int 7)) (tCons (tVar 12) tNil))) (fun k => intsD [7, (k : Int)]) (by decide) (fun k => noList_ints _) (fun H R r => ⟨7, rfl, by decide, by decide, r⟩) (fun x => rfl) (fun k H1 hk e => by
          rw [Int.zero_add]
          exact Lit.tup (Lits.cons Lit.int (Lits.cons (Lit.var rfl (.int _)) Lits.nil)) (Nat.le_of_ble_eq_true rfl))
        have e : PyData.tuple ((List.range 7).map fun (k : Nat) => intsD [7, (k : Int)]) = rowsD (colR 7 7) := by
          unfold rowsD colR
          rw [List.map_map]
          rfl
        rw [e] at this
        exact this
      have hp9 := hp8.to e9
      have smB : Sm 130 6 (ref2 "TooGreat" (.int (10 ^ 9))) := sm2s rfl (by decide) (Sm.int' (by decide))
      have eB : refuR (askF "sum" (setD 1 bigL) (setD 1 (ptsL.take 1))) = ref2 "TooGreat" (.int (10 ^ 9)) := by
        rw [big_sum]
        show PyData.list [.str _, .int ((10 ^ 9 : Nat) : Int)] = _
        rw [show ((10 ^ 9 : Nat) : Int) = 10 ^ 9 from rfl]
        rfl
      refine sq_yes (yes_ref (K := K) (N := 130) Lit.str (Lit.var rfl hb) (litT 1 rfl hp9) (show Lit K H9 _ _ (ref2 "TooGreat" (.int (10 ^ 9))) from Lit.lst (Lits.cons Lit.str (Lits.cons (Lit.pow (i := 10) (j := 9) Lit.int Lit.int ⟨by decide, by decide⟩) Lits.nil)) (Nat.le_of_ble_eq_true rfl)) eB smB (by decide)) fun HA eA => ?_
      have h7A := h7.to eA
      have e0A : Same H HA := (((e02.trans e3).trans (e4.trans e5)).trans ((e6.trans e7).trans (e8.trans e9))).trans eA
      refine sq_go ⟨_, rfl, a, l, c, _, 2, rfl, hst.same e0A, by omega, by decide, by decide, fun HB r eB sB r0 r1 => ⟨_, _, rfl, rfl, _, rfl, by omega, by omega, fun DD hDD => ?_⟩⟩
      obtain ⟨r, rfl⟩ : ∃ k : Nat, r = k := ⟨r.toNat, by omega⟩
      have h7B := keepT eB (hst.same e0A) (rowsD (colR 7 7)) seven (noListAll_of fun x hx => by
        obtain ⟨q, _, rfl⟩ := List.mem_map.mp hx
        exact noList_ints q) h7A
      have r2 : r < 2 := by omega
      have tn : ((6 : Int) + (r : Nat)).toNat = 6 + r := by omega
      rw [tn]
      refine lcF (walk_range (lo := 0) (n := 6 + r)) hDD (by rw [sizeLine_eq]; omega) (fun _ => true) (fun i y H => Dp K H y (intsD [8, (i : Int)])) (fun i y H H' e n q => keepN e n n _ _ (noList_ints _) q) (fun _ _ => trivial) (fun i x Hz H2 Q1 Q0 hi e2 y q1 q0 => ?_) (fun HC ys eC hy g => ?_)
      · obtain ⟨rfl, rfl⟩ := y
        refine ⟨rfl, iteT (B := Q0 H2) ?_⟩
        have lt : Lit K H2 (tTup (tCons (tC (V.int 8)) (tCons (tVar 12) tNil))) ((wipe [some (.ref a), some (.ref p1), some (.int (m : Nat)), some wv, some ov, v5, some pts, some big, some seven, none, none, none, none] [12]).set 12 (some (.int (0 + (i : Nat))))) (intsD [8, (i : Int)]) := by
          rw [Int.zero_add]
          exact Lit.tup (Lits.cons Lit.int (Lits.cons (Lit.var rfl (.int _)) Lits.nil)) (Nat.le_of_ble_eq_true rfl)
        exact lt H2 _ (Same.refl _) fun H4 v e4 hv => q1 rfl _ _ hv e4
      · have hd' := g.dp (fun i => intsD [8, (i : Int)]) fun i y q => q
        rw [all_kept] at hd'
        refine ⟨DD, ys, rfl, .inl ⟨.of hy, fun t ht => ?_⟩⟩
        have n1 := eC.then_new (o := HO.tup ys) ht
        have hsm : Dp K (upd HC t (HO.tup ys)) (.ref t) (rowsD (colR 8 (6 + r))) := by
          have e : rowsD (colR 8 (6 + r)) = .tuple ((List.range (6 + r)).map fun (k : Nat) => intsD [8, (k : Int)]) := by
            unfold rowsD colR
            rw [List.map_map]
            rfl
          rw [e]
          exact .tup (.of upd_same) (hd'.to (Same.new ht))
        have hst' : SqT K (upd HC t (HO.tup ys)) t ys := .of upd_same
        have yl := hd'.length
        rw [List.length_map, List.length_range] at yl
        have h7C := h7B.to n1
        have eBC := eB.same n1
        have sBC := sB.same n1
        generalize upd HC t (HO.tup ys) = HD at *
        dsimp only
        have tk6 : ((colR 7 7).map intsD).take 6 = (colR 7 6).map intsD := by
          unfold colR
          rw [← List.map_take, ← List.map_take, List.take_range]
          rfl
        have fin : ∀ (due : V) (HE : Hp), Same HD HE → Dp K HE due (if r = 0 then .none else ref2 "TooGreat" (.int 12)) → tSeq (tAsg (tCa (spRefusal K) E0 (tCons (tC (V.str (Str.ofString "sum"))) (tCons (tTup (tCons (tC (V.int 2)) (tCons (tTup (tCons (tTup (tCons (tTup (tCons (tC (V.int 0)) (tCons (tC (V.int 0)) tNil))) (tCons (tSl (rSlZ K) (tVar 8) tNoPart (tPart (tC (V.int 6)))) tNil))) tNil)) tNil))) (tCons (tTup (tCons (tC (V.int 2)) (tCons (tTup (tCons (tTup (tCons (tTup (tCons (tC (V.int 0)) (tCons (tC (V.int 1)) tNil))) (tCons (tVar 9) tNil))) tNil)) tNil))) tNil)))) (gName 11)) (tRet (tCa (spLike K) E0 (tCons (tVar 11) (tCons (tVar 10) tNil)))) { nx := fun x H' => Q V.non H', rt := Q } [some (.ref a), some (.ref p1), some (.int (m : Nat)), some wv, some ov, v5, some pts, some big, some seven, some (.ref t), some due, none, none] HE := fun due HE eE hdue => by
          have h7E := h7C.to eE
          have hsE := hsm.to eE
          have hR : refuR (askF "sum" (setD 2 [([0, 0], colR 7 6)]) (setD 2 [([0, 1], colR 8 (6 + r))])) = if r = 0 then .none else ref2 "TooGreat" (.int 12) := by
            rw [twelve_or (n := 6 + r) (by omega)]
            by_cases c : r = 0
            · rw [if_pos c, if_pos (by omega)]
            · rw [if_neg c, if_neg (by omega)]
          refine told_ref (K := K) (d1 := setD 2 [([0, 0], colR 7 6)]) (d2 := setD 2 [([0, 1], colR 8 (6 + r))]) Lit.str (Lit.tup (Lits.cons Lit.int (Lits.cons (Lit.tup (Lits.cons (Lit.tup (Lits.cons (Lit.tup (Lits.cons Lit.int (Lits.cons Lit.int Lits.nil)) (Nat.le_of_ble_eq_true rfl)) (Lits.cons (by
            have := Lit.take (K := K) (H0 := HE) (σ := [some (.ref a), some (.ref p1), some (.int (m : Nat)), some wv, some ov, v5, some pts, some big, some seven, some (.ref t), some due, none, none]) 6 (Lit.var (i := 8) rfl h7E)
            rw [tk6] at this
            exact this) Lits.nil)) (Nat.le_of_ble_eq_true rfl)) Lits.nil) (Nat.le_of_ble_eq_true rfl)) Lits.nil)) (Nat.le_of_ble_eq_true rfl)) (Lit.tup (Lits.cons Lit.int (Lits.cons (Lit.tup (Lits.cons (Lit.tup (Lits.cons (Lit.tup (Lits.cons Lit.int (Lits.cons Lit.int Lits.nil)) (Nat.le_of_ble_eq_true rfl)) (Lits.cons (Lit.var rfl hsE) Lits.nil)) (Nat.le_of_ble_eq_true rfl)) Lits.nil) (Nat.le_of_ble_eq_true rfl)) Lits.nil)) (Nat.le_of_ble_eq_true rfl)) hR fun HF told eF ht => ?_
          refine ret_yes (yes_like (K := K) (N := 130) (Lit.var rfl ht) (Lit.var rfl (hdue.to eF)) ?_ (by decide)) fun HG eG => k _ (((((Sbt.of e0A).trans eBC).same eE).same eF).same eG) ((((sBC.same eE).same eF).same eG).mono (by omega))
          by_cases c : r = 0
          · rw [if_pos c]; exact Sm.none'
          · rw [if_neg c]; exact sm2s rfl (by decide) (Sm.int' (by decide))
        refine sq_go ⟨_, rfl, t, ys, rfl, .inr hst', _, _, rfl, rfl, _, _, rfl, rfl, _, rfl, ?_⟩
        by_cases c : r = 0
        · rw [decide_eq_true (by omega)]
          refine iteT (fin .non HD (Same.refl _) ?_)
          rw [if_pos c]
          exact .non
        · rw [decide_eq_false (by omega)]
          refine iteF ⟨Nat.le_of_ble_eq_true rfl, fun q hq => fin (.ref q) _ (Same.new hq) ?_⟩
          rw [if_neg c]
          exact .lst (.of upd_same) (.cons (.str _) (.cons (.int _) .nil))
end
end Ws
/-! ## K25c -/
/-! what is too great, and what just fits -/
namespace Ws
open PySem PySem.Spec PyProof.Rows L2
def s13 (n : Nat) : List Sq.Row := (List.range n).map fun (k : Nat) => [1 + (k : Int), 13 - (1 + (k : Int))]
def most6 : List Sq.Row := (List.range 6).map fun (k : Nat) => [(k : Int), 20]
def mostL : List Ln := [([1, 0], most6)]
theorem chc1 : chc 1 = [[0]] := (chc_of (n := 1) (ys := [[0]]) (by decide) (by unfold Ord; decide)).symm
theorem chc2 : chc 2 = [[0], [0, 1], [1]] := (chc_of (n := 2) (ys := [[0], [0, 1], [1]]) (by decide) (by unfold Ord; decide)).symm
theorem ul_len {ps : List Sq.Row} (nd : ps.Nodup) (nz : ∀ r ∈ ps, nzR r = true) : (ul ps).length = ps.length := by
  have c := cnf_canon knd_row ps
  unfold ul
  rw [List.filter_eq_self.mpr fun r hr => nz r ((c.mem r).mp hr)]
  exact c.len nd
theorem ul_le {ps qs : List Sq.Row} (h : ∀ r ∈ ps, nzR r = true → r ∈ qs) : (ul ps).length ≤ qs.length := by
  have u := ul_unl ps
  have c : Canon intsD (qs.filter fun r => decide (r ∈ ul ps)) (ul ps) := Canon.of_asc u.asc fun r => by
    rw [List.mem_filter, decide_eq_true_eq]
    exact ⟨fun hr => ⟨h r ((u.mem r).mp hr).1 ((u.mem r).mp hr).2, hr⟩, fun hr => hr.2⟩
  exact Nat.le_trans c.le (List.length_filter_le _ _)
theorem bad_12 {b : Sq.Row} {ps : List Sq.Row} (h1 : ∀ x ∈ b, x ≤ 10 ^ 9) (h : 12 < (ul ps).length) : badLn (b, ps) = some 12 := by
  unfold badLn
  rw [if_neg, if_pos h]
  intro e
  obtain ⟨x, hx, z⟩ := List.any_eq_true.mp e
  have := of_decide_eq_true z
  have := h1 x hx
  omega
theorem bad_big {b : Sq.Row} {ps : List Sq.Row} (h : b.any (fun x => decide (10 ^ 9 < x)) = true) : badLn (b, ps) = some (10 ^ 9) := by
  unfold badLn
  rw [if_pos h]
theorem two_ok {ls : List Ln} (h : ∀ l ∈ ls, OkLn 2 l ∧ l.2.length ≤ 12 ∧ Asc intsD l.2 ∧ ∀ r ∈ l.2, nzR r = true) (a : Asc lineD ls) (few : ls.length ≤ 400) : setF (setD 2 ls) = .ok := set_is (by decide) (by decide) (fun l hl => by
  obtain ⟨h1, h2, h3, h4⟩ := h l hl
  exact h1.line h2 h3 h4) a few
theorem s13_in {n : Nat} (hn : n ≤ 12) : (∀ r ∈ s13 n, (r.length = 2 ∧ ∀ x ∈ r, 0 ≤ x ∧ x ≤ 10 ^ 9) ∧ nzR r = true) ∧ Asc intsD (s13 n) ∧ (s13 n).length = n := by
  refine ⟨fun r hr => ?_, ?_, by unfold s13; rw [List.length_map, List.length_range]⟩
  · obtain ⟨k, hk, rfl⟩ := List.mem_map.mp hr
    have := List.mem_range.mp hk
    refine ⟨⟨rfl, fun x hx => ?_⟩, ?_⟩
    · simp only [List.mem_cons, List.not_mem_nil, or_false] at hx
      rcases hx with rfl | rfl <;> omega
    · unfold nzR
      rw [List.any_cons, Bool.or_eq_true]
      exact .inl (by simpa using (show 1 + (k : Int) ≠ 0 by omega))
  · unfold Asc s13
    rw [List.pairwise_map]
    exact List.pairwise_lt_range.imp fun {x y} (h : x < y) => row_hd (show 1 + ((x : Nat) : Int) < 1 + ((y : Nat) : Int) by omega)
theorem ln_s13 {n : Nat} (hn : n ≤ 12) {b : Sq.Row} (bl : b.length = 2) (bb : ∀ x ∈ b, 0 ≤ x ∧ x ≤ 10 ^ 9) : OkLn 2 (b, s13 n) ∧ (s13 n).length ≤ 12 ∧ Asc intsD (s13 n) ∧ ∀ r ∈ s13 n, nzR r = true := by
  obtain ⟨h1, h2, h3⟩ := s13_in hn
  exact ⟨⟨bl, bb, fun r hr => (h1 r hr).1, by show (s13 n).length ≤ 16; omega⟩, by omega, h2, fun r hr => (h1 r hr).2⟩
theorem ln_bare {b : Sq.Row} (bl : b.length = 2) (bb : ∀ x ∈ b, 0 ≤ x ∧ x ≤ 10 ^ 9) : OkLn 2 ((b, []) : Ln) ∧ ([] : List Sq.Row).length ≤ 12 ∧ Asc intsD [] ∧ ∀ r ∈ ([] : List Sq.Row), nzR r = true :=
  ⟨⟨bl, bb, fun r hr => absurd hr List.not_mem_nil, Nat.zero_le _⟩, Nat.zero_le _, List.Pairwise.nil, fun r hr => absurd hr List.not_mem_nil⟩
theorem most_ok : setF (setD 2 mostL) = .ok := two_ok (fun l hl => by
  rw [List.mem_singleton.mp hl]
  exact ⟨⟨rfl, by decide, by decide, by decide⟩, by decide, by unfold Asc; decide, by decide⟩) (List.pairwise_singleton ..) (by decide)
theorem one_ok {n : Nat} (hn : n ≤ 12) {b : Sq.Row} (bl : b.length = 2) (bb : ∀ x ∈ b, 0 ≤ x ∧ x ≤ 10 ^ 9) : setF (setD 2 [(b, s13 n)]) = .ok := two_ok (fun l hl => by
  rw [List.mem_singleton.mp hl]
  exact ln_s13 hn bl bb) (List.pairwise_singleton ..) (Nat.le_of_ble_eq_true rfl)
theorem pair_ok {l o : Ln} (h1 : OkLn 2 l ∧ l.2.length ≤ 12 ∧ Asc intsD l.2 ∧ ∀ r ∈ l.2, nzR r = true) (h2 : OkLn 2 o ∧ o.2.length ≤ 12 ∧ Asc intsD o.2 ∧ ∀ r ∈ o.2, nzR r = true) (a : PySem.W.dataLt (lineD l) (lineD o) = true) : setF (setD 2 [l, o]) = .ok := two_ok (fun x hx => by
  rcases List.mem_cons.mp hx with rfl | hx
  · exact h1
  · rw [List.mem_singleton.mp hx]; exact h2) (List.pairwise_cons.mpr ⟨fun x hx => by rw [List.mem_singleton.mp hx]; exact a, List.pairwise_singleton ..⟩) (Nat.le_of_ble_eq_true rfl)
/-- the worlds: word, lines, bound -/
def worlds : List (Str × List Ln × Int) := [(Str.ofString "star", [([0, 5], s13 12)], 12), (Str.ofString "star", [([0, 5], s13 12), ([10 ^ 9, 10 ^ 9], [])], 12), (Str.ofString "star", [([0, 6 * 10 ^ 8], []), ([0, 7 * 10 ^ 8], s13 12)], 10 ^ 9), (Str.ofString "sum", [([0, 0], s13 7), ([10 ^ 9, 0], [])], 12), (Str.ofString "sum", [([10 ^ 9, 0], s13 7)], 10 ^ 9)]
theorem great_eq (n : Nat) : refuR (.great n) = ref2 "TooGreat" (.int (n : Nat)) := rfl
theorem nine : ((10 ^ 9 : Nat) : Int) = 10 ^ 9 := rfl
theorem star_first {m : Nat} {ls : List Ln} {n k : Nat} (s : setF (setD m ls) = .ok) (h8 : ls.length ≤ 8) (h : ((chc ls.length).map (starOf m ls)).findSome? badLn = some k) : askF "star" (setD m ls) (setD 2 mostL) = .great k := by
  rw [askT, starF_ok s]
  unfold starW
  rw [if_neg (by omega), h]
  rfl
theorem u1 : (ul (s13 12 ++ [[0, 5]])).length = 13 := by
  rw [ul_len (by decide) (by decide)]
  decide
theorem w1 : askF "star" (setD 2 [([0, 5], s13 12)]) (setD 2 mostL) = .great 12 := star_first (n := 0) (one_ok (by decide) rfl (by decide)) (by decide) (by
  show ((chc 1).map _).findSome? badLn = _
  rw [chc1, List.map_cons, List.findSome?_cons]
  have e : starOf 2 [([0, 5], s13 12)] [0] = ([0, 5], s13 12 ++ [[0, 5]]) := rfl
  rw [e, bad_12 (by decide) (by rw [u1]; decide)])
theorem w2 : askF "star" (setD 2 [([0, 5], s13 12), ([10 ^ 9, 10 ^ 9], [])]) (setD 2 mostL) = .great 12 := star_first (n := 0) (pair_ok (ln_s13 (by decide) rfl (by decide)) (ln_bare rfl (by decide)) (ln_hd (row_hd (by decide)))) (by decide) (by
  show ((chc 2).map _).findSome? badLn = _
  rw [chc2, List.map_cons, List.findSome?_cons]
  have e : starOf 2 [([0, 5], s13 12), ([10 ^ 9, 10 ^ 9], [])] [0] = ([0, 5], s13 12 ++ [[0, 5]]) := rfl
  rw [e, bad_12 (by decide) (by rw [u1]; decide)])
theorem w3 : askF "star" (setD 2 [([0, 6 * 10 ^ 8], []), ([0, 7 * 10 ^ 8], s13 12)]) (setD 2 mostL) = .great (10 ^ 9) := star_first (n := 0) (pair_ok (ln_bare rfl (by decide)) (ln_s13 (by decide) rfl (by decide)) (ln_hd (by rw [row_tl]; exact row_hd (by decide)))) (by decide) (by
  show ((chc 2).map _).findSome? badLn = _
  rw [chc2, List.map_cons, List.findSome?_cons, List.map_cons, List.findSome?_cons]
  have e : starOf 2 [([0, 6 * 10 ^ 8], []), ([0, 7 * 10 ^ 8], s13 12)] [0] = ([0 + 1 * 0, 0 + 1 * (6 * 10 ^ 8)], [[0, 6 * 10 ^ 8]]) := rfl
  have e2 : starOf 2 [([0, 6 * 10 ^ 8], []), ([0, 7 * 10 ^ 8], s13 12)] [0, 1] = ([0 + 1 * 0 + 1 * 0, 0 + 1 * (6 * 10 ^ 8) + 1 * (7 * 10 ^ 8)], [[0, 6 * 10 ^ 8]] ++ s13 12 ++ [[0, 7 * 10 ^ 8]]) := rfl
  rw [e, bad_none (by decide) (Nat.le_trans (ul_unl _).le (by decide)), e2, bad_big (by decide)])
theorem w4 : askF "sum" (setD 2 [([0, 0], s13 7), ([10 ^ 9, 0], [])]) (setD 2 mostL) = .great 12 := by
  rw [askS, sumF_ok (pair_ok (ln_s13 (by decide) rfl (by decide)) (ln_bare rfl (by decide)) (ln_hd (row_hd (by decide)))) most_ok]
  unfold sumW
  rw [if_neg (by decide)]
  have e : prods [([0, 0], s13 7), ([10 ^ 9, 0], [])] mostL = [([0 + 1 * 1, 0 + 1 * 0], s13 7 ++ most6), ([10 ^ 9 + 1 * 1, 0 + 1 * 0], [] ++ most6)] := rfl
  rw [e, List.findSome?_cons, bad_12 (by decide) (by rw [ul_len (by decide) (by decide)]; decide)]
  rfl
theorem w5 : askF "sum" (setD 2 [([10 ^ 9, 0], s13 7)]) (setD 2 mostL) = .great (10 ^ 9) := by
  rw [askS, sumF_ok (one_ok (by decide) rfl (by decide)) most_ok]
  unfold sumW
  rw [if_neg (by decide)]
  have e : prods [([10 ^ 9, 0], s13 7)] mostL = [([10 ^ 9 + 1 * 1, 0 + 1 * 0], s13 7 ++ most6)] := rfl
  rw [e, List.findSome?_cons, bad_big (by decide)]
  rfl
theorem worlds_ok : ∀ x ∈ worlds, refuR (askF x.1 (setD 2 x.2.1) (setD 2 mostL)) = ref2 "TooGreat" (.int x.2.2) := fun x hx => by
  simp only [worlds, List.mem_cons, List.not_mem_nil, or_false] at hx
  rcases hx with rfl | rfl | rfl | rfl | rfl
  · exact congrArg refuR w1
  · exact congrArg refuR w2
  · exact (congrArg refuR w3).trans (by rw [great_eq, nine])
  · exact congrArg refuR w4
  · exact (congrArg refuR w5).trans (by rw [great_eq, nine])
/-! what just fits -/
def lets : List (List Ln) := [[([0, 5], s13 11)], [([1, 12], s13 12)], [([0, 0], s13 12)], [([0, 4 * 10 ^ 8], []), ([0, 6 * 10 ^ 8], [])]]
theorem star_fits {ls : List Ln} (s : setF (setD 2 ls) = .ok) (h8 : ls.length ≤ 8) (n : ∀ c ∈ chc ls.length, (∀ x ∈ (starOf 2 ls c).1, x ≤ 10 ^ 9) ∧ (ul (starOf 2 ls c).2).length ≤ 12) : refuR (askF "star" (setD 2 ls) .none) = .none := by
  rw [askT, starF_ok s]
  unfold starW
  rw [if_neg (by omega), find_none fun l hl => by
    obtain ⟨c, hc, rfl⟩ := List.mem_map.mp hl
    exact bad_none (n c hc).1 (n c hc).2]
  obtain ⟨out, e⟩ := setW_some (ls := starL 2 ls) (fun f hf => by
    obtain ⟨l, hl, rfl⟩ := List.mem_map.mp hf
    rcases List.mem_cons.mp hl with rfl | hl
    · show (ul []).length ≤ 12
      rw [ul_nil]
      decide
    · obtain ⟨c, hc, rfl⟩ := List.mem_map.mp hl
      exact (n c hc).2) (by
    show (_ :: _).length ≤ 400
    rw [List.length_cons, List.length_map, (chc_perm _).length_eq, sub_eq, List.length_map, List.length_range]
    have : 2 ^ ls.length ≤ 2 ^ 8 := Nat.pow_le_pow_right (by decide) h8
    omega)
  show refuR (ofSW 2 (setW (starL 2 ls))) = .none
  rw [e]
  rfl
theorem in_one {P : List Int → Prop} (h : P [0]) : ∀ c ∈ chc 1, P c := fun c hc => by
  rw [chc1] at hc
  rw [List.mem_singleton.mp hc]
  exact h
theorem in_two {P : List Int → Prop} (h : P [0]) (h1 : P [0, 1]) (h2 : P [1]) : ∀ c ∈ chc 2, P c := fun c hc => by
  rw [chc2] at hc
  simp only [List.mem_cons, List.not_mem_nil, or_false] at hc
  rcases hc with rfl | rfl | rfl
  · exact h
  · exact h1
  · exact h2
theorem lets_ok : ∀ ls ∈ lets, refuR (askF "star" (setD 2 ls) .none) = .none := fun ls hl => by
  simp only [lets, List.mem_cons, List.not_mem_nil, or_false] at hl
  rcases hl with rfl | rfl | rfl | rfl
  · exact star_fits (one_ok (by decide) rfl (by decide)) (by decide) (in_one ⟨by show ∀ x ∈ ([0 + 1 * 0, 0 + 1 * 5] : List Int), _; decide, by
      show (ul (s13 11 ++ [[0, 5]])).length ≤ 12
      exact Nat.le_trans (ul_unl _).le (by decide)⟩)
  · exact star_fits (one_ok (by decide) rfl (by decide)) (by decide) (in_one ⟨by show ∀ x ∈ ([0 + 1 * 1, 0 + 1 * 12] : List Int), _; decide, by
      show (ul (s13 12 ++ [[1, 12]])).length ≤ 12
      exact ul_le (qs := s13 12) (by decide)⟩)
  · exact star_fits (one_ok (by decide) rfl (by decide)) (by decide) (in_one ⟨by show ∀ x ∈ ([0 + 1 * 0, 0 + 1 * 0] : List Int), _; decide, by
      show (ul (s13 12 ++ [[0, 0]])).length ≤ 12
      exact ul_le (qs := s13 12) (by decide)⟩)
  · exact star_fits (pair_ok (ln_bare rfl (by decide)) (ln_bare rfl (by decide)) (ln_hd (by rw [row_tl]; exact row_hd (by decide)))) (by decide) (in_two ⟨by show ∀ x ∈ ([0 + 1 * 0, 0 + 1 * (4 * 10 ^ 8)] : List Int), _; decide, Nat.le_trans (ul_unl _).le (by decide)⟩ ⟨by show ∀ x ∈ ([0 + 1 * 0 + 1 * 0, 0 + 1 * (4 * 10 ^ 8) + 1 * (6 * 10 ^ 8)] : List Int), _; decide, Nat.le_trans (ul_unl _).le (by decide)⟩ ⟨by show ∀ x ∈ ([0 + 1 * 0, 0 + 1 * (6 * 10 ^ 8)] : List Int), _; decide, Nat.le_trans (ul_unl _).le (by decide)⟩)
theorem last_fits : refuR (askF "sum" (setD 2 [([10 ^ 9 - 1, 0], s13 6)]) (setD 2 mostL)) = .none := by
  rw [askS, sumF_ok (one_ok (by decide) rfl (by decide)) most_ok]
  have e : prods [([10 ^ 9 - 1, 0], s13 6)] mostL = [([10 ^ 9 - 1 + 1 * 1, 0 + 1 * 0], s13 6 ++ most6)] := rfl
  unfold sumW
  rw [if_neg (by decide), e, List.findSome?_cons, bad_none (by decide) (Nat.le_trans (ul_unl _).le (by decide))]
  obtain ⟨out, e⟩ := setW_some (ls := [([10 ^ 9 - 1 + 1 * 1, 0 + 1 * 0], s13 6 ++ most6)]) (fun f hf => by
    rw [List.mem_singleton.mp hf]
    exact Nat.le_trans (ul_unl _).le (by decide)) (by decide)
  show refuR (ofSW 2 (setW _)) = .none
  rw [e]
  rfl
end Ws
/-! ## Q25k -/
namespace Ws
open PySem PySem.Spec PyProof.Rows L2 RZ SD
local macro_rules | `(tactic| walk_at "nf") => `(tactic| dsimp only [tNext, tSeq, tDrop, tRet, tRetN, tIfS, tAsg, gName, gTup, gCons, gNil, tVar, tC, tOp, tUn, rI, rI0, rU, rEq, rNe, tTest, tChain, tAnd, tOr, tNot, tAndV, tOrV, tNotV, tIf, tCB, tCKw, tCons, tNil, tTup, tLst, tCa, tCallS, tB, rIxT, rIxL, rIxS, cxOf, Cx.nox, Cx.wish, Cx.blk, L2.start, tPar, tPar3, tNever, tYes, tBits, tRz, tBM, rAppend, tyV, tXf, suiteEnds, gSub, rSetL, tBreak, rMax, tDGet, sDPut, tSl, tNoPart, tPart, tDisp, tPairs, tDGet2, tDNewK, tAugS, ipI, rGetL, tDIn, tDNotIn, tBM0, rPop])
local macro_rules | `(tactic| walk_at "sx") => `(tactic| simp only [wipe, List.cons.injEq, and_assoc, exists_and_left, and_true, List.map_cons, List.map_nil, List.length_cons, List.length_nil, List.cons_append, List.nil_append, List.append_nil, Nat.reduceAdd, Nat.reduceSub, List.replicate, List.getElem?_cons_zero, List.getElem?_cons_succ, List.set_cons_zero, List.set_cons_succ, Option.some.injEq, V.int.injEq, V.bl.injEq, V.ref.injEq, V.str.injEq, exists_eq_left', exists_eq_left, true_and, Bool.true_eq_false, Bool.false_eq_true, if_true, if_false])

local macro_rules | `(tactic| walk_at "qe") => `(tactic| repeat' first | exact Lit.int | exact Lit.str | exact Lit.non | exact Lit.bl | exact Lits.nil | exact Lit.var rfl (by assumption) | refine Lits.cons ?_ ?_ | refine Lit.tup ?_ (Nat.le_of_ble_eq_true rfl) | refine Lit.lst ?_ (Nat.le_of_ble_eq_true rfl))
section
variable {K : PySem.W.Frag} {H0 : Hp} {σ : L2.St}
theorem Lit.mul {t u : TE} {i j : Int} (h1 : Lit K H0 t σ (.int i)) (h2 : Lit K H0 u σ (.int j)) (c : CMul i j) : Lit K H0 (tOp (rI CMul fun i j => V.int (i * j)) t u) σ (.int (i * j)) := fun H Q e q =>
  h1 H _ e fun H1 v e1 hv => h2 H1 _ (e.trans e1) fun H2 x e2 hx => by
    cases hv
    cases hx
    exact ⟨_, _, rfl, rfl, c, q _ _ (e1.trans e2) (.int _)⟩
theorem Lit.sub {t u : TE} {i j : Int} (h1 : Lit K H0 t σ (.int i)) (h2 : Lit K H0 u σ (.int j)) : Lit K H0 (tOp (rI0 fun i j => V.int (i - j)) t u) σ (.int (i - j)) := fun H Q e q =>
  h1 H _ e fun H1 v e1 hv => h2 H1 _ (e.trans e1) fun H2 x e2 hx => by
    cases hv
    cases hx
    exact ⟨_, _, rfl, rfl, q _ _ (e1.trans e2) (.int _)⟩
theorem sq_apG {i : Nat} {te : TE} {u : TS} {D : Ends} {Hb H : Hp} {F : Addr} {ys : List V} {ds : List PyData} {d : PyData} (g : Gro K Hb H F ys ds) (hi : σ[i]? = some (some (.ref F))) (e : Same Hb H) (h : Lit K H te σ d) (nl : noList d = true) (few : ds.length ≤ 100) (k : ∀ H' y, Same Hb H' → Gro K Hb H' F (ys ++ [y]) (ds ++ [d]) → u D σ H') :
    tSeq (tDrop (tBM K "list" rAppend (tVar i) (tCons te tNil))) u D σ H := by
  refine ⟨_, hi, .inl ⟨rfl, _, .of g.h⟩, ?_⟩
  refine h H _ (Same.refl _) fun H1 y e1 hy => ?_
  have g1 := g.same e1
  have yl := g1.dp.length
  exact ⟨F, ys, y, rfl, rfl, g1.h, slt (by omega), k _ y ((e.trans e1).mut g1.z) (g1.app hy nl)⟩
theorem if_none {wt t1 t2 : TE} {r : TS} {D : Ends} {H : Hp} {w : Str} {d1 d2 : PyData} (h0 : Lit K H wt σ (.str w)) (h1 : Lit K H t1 σ d1) (h2 : Lit K H t2 σ d2) (e : refuR (askF w d1 d2) = .none) (k : ∀ H', Same H H' → D.nx σ H') :
    tIfS (tTest (tOp (fun x y H Q => y = V.non ∧ Q (V.bl !decide (x = V.non)) H) (tCa (spRefusal K) E0 (tCons wt (tCons t1 (tCons t2 tNil)))) (tC V.non))) r tNext D σ H :=
  h0 H _ (Same.refl _) fun H1 v e1 hv => h1 H1 _ e1 fun H2 x e2 hx => h2 H2 _ (e1.trans e2) fun H3 y e3 hy => by
    cases hv
    refine ⟨w, x, y, d1, d2, rfl, hx.to e3, hy, fun H4 u e4 hu => ?_⟩
    rw [e] at hu
    cases hu
    exact ⟨rfl, _, rfl, k _ (((e1.trans e2).trans e3).trans e4)⟩
end
def worldD (x : Str × List Ln × Int) : PyData := .tuple [.str x.1, linesD x.2.1, .int x.2.2]
theorem noList_linesD (ls : List Ln) : noList (linesD ls) = true := noListAll_of fun y hy => by
  obtain ⟨q, _, rfl⟩ := List.mem_map.mp hy
  exact noList_ln q
theorem noList_world (x : Str × List Ln × Int) : noList (worldD x) = true := by
  show (noList (.str x.1) && (noList (linesD x.2.1) && (noList (.int x.2.2) && true))) = true
  rw [noList_linesD]
  rfl
def spGreatR (K : PySem.W.Frag) : Sp := fun vs H Q _ => vs = [] ∧ ∀ H', Same H H' → Q (.bl true) H'
abbrev s__law_great_right : Stmt := top 49
abbrev nm__law_great_right : List Str := ["steps", "great", "most", "worlds", "word", "lines_so", "bound", "told", "lets", "k"]
abbrev pr__law_great_right : List Str := []
theorem sc__law_great_right : FnScope nm__law_great_right pr__law_great_right (defScope s__law_great_right) := ⟨rfl, rfl, rfl, by decide +kernel, rfl, by decide +kernel, by decide +kernel⟩
section
variable {P : Program} {w : World} {K : PySem.W.Frag} {mg : Str → Option Value} {base : Heap}
theorem ok_great_right (B : Bl mg) (F1 : Df P w K mg base CX0 9 "_law_refusal" pr__law_refusal (spRefusal K)) (FL : DfG P w K mg base CX0 1 "_law_like" pr__law_like (spLike K)) (D : Dt K mg "_law_great_right" s__law_great_right pr__law_great_right) : DfG P w K mg base CX0 10 "_law_great_right" pr__law_great_right (spGreatR K) := by
  refine D.okG sc__law_great_right (fun vs H Q E h => ?_) (fun f cdv A outer s H vs Q E hG hr h => ?_)
  · obtain ⟨rfl, _⟩ := h
    rfl
  · obtain ⟨rfl, k⟩ := h
    refine ⟨_, (pss_cons (ps_set (i := 0) sc__law_great_right.nd rfl (Or.inl rfl) (pe_callTy call_tuple_of (by rfl) B.tuple PyProof.Rows.boot_tuple (pa_cons (pe_lc (own := [("k", 9)]) (g := gName 9) (tt := tYes) (by rfl) sc__law_great_right.nd (pi_range2 (by rfl) B.range (pa_cons pe_int (pa_cons pe_int pa_nil))) (blkOk_by (own := [("k", 9)]) (N := nm__law_great_right) (sc := defScope s__law_great_right) (by decide +kernel)) (fun _ _ _ _ _ => pg_name (i := 9) sc__law_great_right.nd rfl (Or.inl rfl)) (fun _ _ _ _ _ => pts_nil) (fun _ _ _ _ _ => (pe_tup (pa_cons (pv 9) (pa_cons (pe_op op_sub pe_int (pv 9)) pa_nil))))) pa_nil))) (pss_cons (ps_par (i := 1) (j := 2) (by rfl) sc__law_great_right.nd rfl rfl (by decide) rfl rfl (pa_cons (pe_op op_pow pe_int pe_int) (pa_cons (pe_callTy call_tuple_of (by rfl) B.tuple PyProof.Rows.boot_tuple (pa_cons (pe_lc (own := [("k", 9)]) (g := gName 9) (tt := tYes) (by rfl) sc__law_great_right.nd (pi_range1 (by rfl) B.range (pa_cons pe_int pa_nil)) (blkOk_by (own := [("k", 9)]) (N := nm__law_great_right) (sc := defScope s__law_great_right) (by decide +kernel)) (fun _ _ _ _ _ => pg_name (i := 9) sc__law_great_right.nd rfl (Or.inl rfl)) (fun _ _ _ _ _ => pts_nil) (fun _ _ _ _ _ => (pe_tup (pa_cons (pv 9) (pa_cons pe_int pa_nil))))) pa_nil)) pa_nil)) (by rfl)) (pss_cons (ps_set (i := 3) sc__law_great_right.nd rfl (Or.inl rfl) (pe_lst (pa_cons (pe_tup (pa_cons pe_str (pa_cons (pe_tup (pa_cons (pe_tup (pa_cons (pe_tup (pa_cons pe_int (pa_cons pe_int pa_nil))) (pa_cons (pv 0) pa_nil))) pa_nil)) (pa_cons pe_int pa_nil)))) (pa_cons (pe_tup (pa_cons pe_str (pa_cons (pe_tup (pa_cons (pe_tup (pa_cons (pe_tup (pa_cons pe_int (pa_cons pe_int pa_nil))) (pa_cons (pv 0) pa_nil))) (pa_cons (pe_tup (pa_cons (pe_tup (pa_cons (pv 1) (pa_cons (pv 1) pa_nil))) (pa_cons (pe_tup pa_nil) pa_nil))) pa_nil))) (pa_cons pe_int pa_nil)))) pa_nil)))) (pss_cons (ps_expr (pe_bm PySem.F.plainAttrs_list PySem.F.slot_list_append PySem.F.type_list_append mt_append (pv 3) (pa_cons (pe_tup (pa_cons pe_str (pa_cons (pe_tup (pa_cons (pe_tup (pa_cons (pe_tup (pa_cons pe_int (pa_cons (pe_op op_mul pe_int (pe_op op_pow pe_int pe_int)) pa_nil))) (pa_cons (pe_tup pa_nil) pa_nil))) (pa_cons (pe_tup (pa_cons (pe_tup (pa_cons pe_int (pa_cons (pe_op op_mul pe_int (pe_op op_pow pe_int pe_int)) pa_nil))) (pa_cons (pv 0) pa_nil))) pa_nil))) (pa_cons (pv 1) pa_nil)))) pa_nil))) (pss_cons (ps_expr (pe_bm PySem.F.plainAttrs_list PySem.F.slot_list_append PySem.F.type_list_append mt_append (pv 3) (pa_cons (pe_tup (pa_cons pe_str (pa_cons (pe_tup (pa_cons (pe_tup (pa_cons (pe_tup (pa_cons pe_int (pa_cons pe_int pa_nil))) (pa_cons (pe_slice (show SlR _ (rSlZ K) from sl_tupZ) (pv 0) po_none (po_some pe_int)) pa_nil))) (pa_cons (pe_tup (pa_cons (pe_tup (pa_cons (pv 1) (pa_cons pe_int pa_nil))) (pa_cons (pe_tup pa_nil) pa_nil))) pa_nil))) (pa_cons pe_int pa_nil)))) pa_nil))) (pss_cons (ps_expr (pe_bm PySem.F.plainAttrs_list PySem.F.slot_list_append PySem.F.type_list_append mt_append (pv 3) (pa_cons (pe_tup (pa_cons pe_str (pa_cons (pe_tup (pa_cons (pe_tup (pa_cons (pe_tup (pa_cons (pv 1) (pa_cons pe_int pa_nil))) (pa_cons (pe_slice (show SlR _ (rSlZ K) from sl_tupZ) (pv 0) po_none (po_some pe_int)) pa_nil))) pa_nil)) (pa_cons (pv 1) pa_nil)))) pa_nil))) (pss_cons (ps_for PassesOwn.never rfl (pi_list (pv 3)) (pg_tup rfl (pgs_cons (pg_name (i := 4) sc__law_great_right.nd rfl (Or.inl rfl)) (pgs_cons (pg_name (i := 5) sc__law_great_right.nd rfl (Or.inl rfl)) (pgs_cons (pg_name (i := 6) sc__law_great_right.nd rfl (Or.inl rfl)) pgs_nil)))) (pss_cons (ps_set (i := 7) sc__law_great_right.nd rfl (Or.inl rfl) (pe_f F1 (hr.mono (by decide)) pass0 (pa_cons (pv 4) (pa_cons (pe_tup (pa_cons pe_int (pa_cons (pv 5) pa_nil))) (pa_cons (pe_tup (pa_cons pe_int (pa_cons (pe_tup (pa_cons (pe_tup (pa_cons (pe_tup (pa_cons pe_int (pa_cons pe_int pa_nil))) (pa_cons (pv 2) pa_nil))) pa_nil)) pa_nil))) pa_nil))))) (pss_one (ps_if (pt_not (pt_val (pe_fG FL hG (hr.mono (by decide)) pass0 (pa_cons (pv 7) (pa_cons (pe_lst (pa_cons pe_str (pa_cons (pv 6) pa_nil))) pa_nil))))) (pss_one (ps_ret pe_bl)) pss_nil)))) (pss_cons (ps_set (i := 8) sc__law_great_right.nd rfl (Or.inl rfl) (pe_lst (pa_cons (pe_tup (pa_cons (pe_tup (pa_cons (pe_tup (pa_cons pe_int (pa_cons pe_int pa_nil))) (pa_cons (pe_slice (show SlR _ (rSlZ K) from sl_tupZ) (pv 0) po_none (po_some pe_int)) pa_nil))) pa_nil)) (pa_cons (pe_tup (pa_cons (pe_tup (pa_cons (pe_tup (pa_cons pe_int (pa_cons pe_int pa_nil))) (pa_cons (pv 0) pa_nil))) pa_nil)) (pa_cons (pe_tup (pa_cons (pe_tup (pa_cons (pe_tup (pa_cons pe_int (pa_cons pe_int pa_nil))) (pa_cons (pv 0) pa_nil))) pa_nil)) pa_nil))))) (pss_cons (ps_expr (pe_bm PySem.F.plainAttrs_list PySem.F.slot_list_append PySem.F.type_list_append mt_append (pv 8) (pa_cons (pe_tup (pa_cons (pe_tup (pa_cons (pe_tup (pa_cons pe_int (pa_cons (pe_op op_mul pe_int (pe_op op_pow pe_int pe_int)) pa_nil))) (pa_cons (pe_tup pa_nil) pa_nil))) (pa_cons (pe_tup (pa_cons (pe_tup (pa_cons pe_int (pa_cons (pe_op op_mul pe_int (pe_op op_pow pe_int pe_int)) pa_nil))) (pa_cons (pe_tup pa_nil) pa_nil))) pa_nil))) pa_nil))) (pss_cons (ps_for PassesOwn.never rfl (pi_list (pv 8)) (pg_name (i := 5) sc__law_great_right.nd rfl (Or.inl rfl)) (pss_one (ps_if (pt_cmpR op_notN (pe_f F1 (hr.mono (by decide)) pass0 (pa_cons pe_str (pa_cons (pe_tup (pa_cons pe_int (pa_cons (pv 5) pa_nil))) (pa_cons pe_non pa_nil)))) pe_non (nomark _)) (pss_one (ps_ret pe_bl)) pss_nil))) (pss_one (ps_ret (pe_cmpR op_isN (pe_f F1 (hr.mono (by decide)) pass0 (pa_cons pe_str (pa_cons (pe_tup (pa_cons pe_int (pa_cons (pe_tup (pa_cons (pe_tup (pa_cons (pe_tup (pa_cons (pe_op op_sub (pv 1) pe_int) (pa_cons pe_int pa_nil))) (pa_cons (pe_slice (show SlR _ (rSlZ K) from sl_tupZ) (pv 0) po_none (po_some pe_int)) pa_nil))) pa_nil)) pa_nil))) (pa_cons (pe_tup (pa_cons pe_int (pa_cons (pe_tup (pa_cons (pe_tup (pa_cons (pe_tup (pa_cons pe_int (pa_cons pe_int pa_nil))) (pa_cons (pv 2) pa_nil))) pa_nil)) pa_nil))) pa_nil)))) pe_non (nomark _)))))))))))))), ?_⟩
    dsimp only [cxOf, Cx.nox, L2.start]
    have ok2 : ∀ {te : TE} {H2 : Hp} {σ : L2.St} {a b : TE} {r : Sq.Row} {x y : Int} {ps : List Sq.Row}, Lit K H2 a σ (.int x) → Lit K H2 b σ (.int y) → Lit K H2 te σ (rowsD ps) → Lit K H2 (tTup (tCons (tTup (tCons a (tCons b tNil))) (tCons te tNil))) σ (lineD ([x, y], ps)) := fun ha hb ht => Lit.tup (Lits.cons (Lit.tup (Lits.cons ha (Lits.cons hb Lits.nil)) (Nat.le_of_ble_eq_true rfl)) (Lits.cons ht Lits.nil)) (Nat.le_of_ble_eq_true rfl)
    have nilL : ∀ {H2 : Hp} {σ : L2.St}, Lit K H2 (tTup tNil) σ (rowsD []) := Lit.tup Lits.nil (Nat.zero_le _)
    refine sq_lit (K := K) (d := rowsD (s13 12)) ?_ fun H1 stv e1 hst => ?_
    · have := Lit.comp (K := K) (H0 := H) (σ := [none, none, none, none, none, none, none, none, none, none]) (lo := 1) (n := 12) (j := 9) (vs := [9]) (wi := iRng2 (tCons (tC (V.int 1)) (tCons (tC (V.int 13)) tNil))) (te := tTup (tCons (tVar 9) (tCons (tOp (rI0 fun i j => V.int (i - j)) (tC (V.int 13)) (tVar 9)) tNil))) (fun k => intsD [1 + (k : Int), 13 - (1 + (k : Int))]) (by decide) (fun k => noList_ints _) (fun H R r => ⟨1, 13, rfl, by decide, r⟩) (fun x => rfl) (fun k H1 hk e => Lit.tup (Lits.cons (Lit.var rfl (.int _)) (Lits.cons (Lit.sub Lit.int (Lit.var rfl (.int _))) Lits.nil)) (Nat.le_of_ble_eq_true rfl))
      have e : PyData.tuple ((List.range 12).map fun (k : Nat) => intsD [1 + (k : Int), 13 - (1 + (k : Int))]) = rowsD (s13 12) := by
        unfold rowsD s13
        rw [List.map_map]
        rfl
      rw [e] at this
      exact this
    refine sq_par (K := K) (d1 := .int (10 ^ 9)) (d2 := rowsD most6) (Lits.cons (Lit.pow (i := 10) (j := 9) Lit.int Lit.int ⟨by decide, by decide⟩) (Lits.cons ?_ Lits.nil)) fun H2 gv mv e2 hg hm => ?_
    · have := Lit.comp (K := K) (H0 := H1) (σ := [some stv, none, none, none, none, none, none, none, none, none]) (lo := 0) (n := 6) (j := 9) (vs := [9]) (wi := iRng1 (tCons (tC (V.int 6)) tNil)) (te := tTup (tCons (tVar 9) (tCons (tC (V.int 20)) tNil))) (fun k => intsD [(k : Int), 20]) (by decide) (fun k => noList_ints _) (fun H R r => ⟨6, rfl, by decide, by decide, r⟩) (fun x => rfl) (fun k H1 hk e => by
        rw [Int.zero_add]
        exact Lit.tup (Lits.cons (Lit.var rfl (.int _)) (Lits.cons Lit.int Lits.nil)) (Nat.le_of_ble_eq_true rfl))
      have e : PyData.tuple ((List.range 6).map fun (k : Nat) => intsD [(k : Int), 20]) = rowsD most6 := by
        unfold rowsD most6
        rw [List.map_map]
        rfl
      rw [e] at this
      exact this
    have hst2 := hst.to e2
    have tkS : ∀ {H3 : Hp} {σ : L2.St} (k : Nat), k ≤ 12 → σ[0]? = some (some stv) → Dp K H3 stv (rowsD (s13 12)) → Lit K H3 (tSl (rSlZ K) (tVar 0) tNoPart (tPart (tC (V.int (k : Nat))))) σ (rowsD (s13 k)) := fun {H3} {σ} k hk hs hd => by
      have := Lit.take k (Lit.var hs hd)
      have e : ((s13 12).map intsD).take k = (s13 k).map intsD := by
        unfold s13
        rw [← List.map_take, ← List.map_take, List.take_range, Nat.min_eq_left hk]
      rw [e] at this
      exact this
    have e8 : ∀ {H3 : Hp} {σ : L2.St}, Lit K H3 (tOp (rI CPow fun i j => V.int (i ^ j.toNat)) (tC (V.int 10)) (tC (V.int 8))) σ (.int (10 ^ 8)) := Lit.pow (i := 10) (j := 8) Lit.int Lit.int ⟨by decide, by decide⟩
    refine sq_go (Lits.mk (K := K) (H0 := H2) (ds := [worldD (Str.ofString "star", [([0, 5], s13 12)], 12), worldD (Str.ofString "star", [([0, 5], s13 12), ([10 ^ 9, 10 ^ 9], [])], 12)]) (Lits.cons (Lit.tup (Lits.cons Lit.str (Lits.cons (Lit.tup (Lits.cons (ok2 (r := []) Lit.int Lit.int (Lit.var rfl hst2)) Lits.nil) (Nat.le_of_ble_eq_true rfl)) (Lits.cons Lit.int Lits.nil))) (Nat.le_of_ble_eq_true rfl)) (Lits.cons (Lit.tup (Lits.cons Lit.str (Lits.cons (Lit.tup (Lits.cons (ok2 (r := []) Lit.int Lit.int (Lit.var rfl hst2)) (Lits.cons (ok2 (r := []) (Lit.var rfl hg) (Lit.var rfl hg) nilL) Lits.nil)) (Nat.le_of_ble_eq_true rfl)) (Lits.cons Lit.int Lits.nil))) (Nat.le_of_ble_eq_true rfl)) Lits.nil)) (Same.refl _) (fun H3 F ys e3 nF hF hFa => ?_) (Nat.le_of_ble_eq_true rfl))
    have g3 : Gro K H2 H3 F ys [worldD (Str.ofString "star", [([0, 5], s13 12)], 12), worldD (Str.ofString "star", [([0, 5], s13 12), ([10 ^ 9, 10 ^ 9], [])], 12)] := ⟨hF, hFa, nF, by
      show (noList (worldD _) && (noList (worldD _) && true)) = true
      rw [noList_world, noList_world]
      rfl⟩
    refine sq_apG (K := K) (d := worldD (Str.ofString "star", [([0, 6 * 10 ^ 8], []), ([0, 7 * 10 ^ 8], s13 12)], 10 ^ 9)) g3 rfl e3 (Lit.tup (Lits.cons Lit.str (Lits.cons (Lit.tup (Lits.cons (ok2 (r := []) Lit.int (Lit.mul (i := 6) (j := 10 ^ 8) Lit.int e8 (.inl ⟨by decide, by decide⟩)) nilL) (Lits.cons (ok2 (r := []) Lit.int (Lit.mul (i := 7) (j := 10 ^ 8) Lit.int e8 (.inl ⟨by decide, by decide⟩)) (Lit.var rfl (hst2.to e3))) Lits.nil)) (Nat.le_of_ble_eq_true rfl)) (Lits.cons (Lit.var rfl (hg.to e3)) Lits.nil))) (Nat.le_of_ble_eq_true rfl)) (noList_world _) (Nat.le_of_ble_eq_true rfl) fun H4 y4 e4 g4 => ?_
    refine sq_apG (K := K) (d := worldD (Str.ofString "sum", [([0, 0], s13 7), ([10 ^ 9, 0], [])], 12)) g4 rfl e4 (Lit.tup (Lits.cons Lit.str (Lits.cons (Lit.tup (Lits.cons (ok2 (r := []) Lit.int Lit.int (tkS 7 (by decide) rfl (hst2.to e4))) (Lits.cons (ok2 (r := []) (Lit.var rfl (hg.to e4)) Lit.int nilL) Lits.nil)) (Nat.le_of_ble_eq_true rfl)) (Lits.cons Lit.int Lits.nil))) (Nat.le_of_ble_eq_true rfl)) (noList_world _) (Nat.le_of_ble_eq_true rfl) fun H5 y5 e5 g5 => ?_
    refine sq_apG (K := K) (d := worldD (Str.ofString "sum", [([10 ^ 9, 0], s13 7)], 10 ^ 9)) g5 rfl e5 (Lit.tup (Lits.cons Lit.str (Lits.cons (Lit.tup (Lits.cons (ok2 (r := []) (Lit.var rfl (hg.to e5)) Lit.int (tkS 7 (by decide) rfl (hst2.to e5))) Lits.nil) (Nat.le_of_ble_eq_true rfl)) (Lits.cons (Lit.var rfl (hg.to e5)) Lits.nil))) (Nat.le_of_ble_eq_true rfl)) (noList_world _) (Nat.le_of_ble_eq_true rfl) fun H6 y6 e6 g6 => ?_
    have hst6 := hst2.to e6
    have hg6 := hg.to e6
    have hm6 := hm.to e6
    have moLit : ∀ {H7 : Hp} {σ : L2.St}, σ[2]? = some (some mv) → Dp K H7 mv (rowsD most6) → Lit K H7 (tTup (tCons (tC (V.int 2)) (tCons (tTup (tCons (tTup (tCons (tTup (tCons (tC (V.int 1)) (tCons (tC (V.int 0)) tNil))) (tCons (tVar 2) tNil))) tNil)) tNil))) σ (setD 2 mostL) := fun hs hd => Lit.tup (Lits.cons Lit.int (Lits.cons (Lit.tup (Lits.cons (ok2 (r := []) Lit.int Lit.int (Lit.var hs hd)) Lits.nil) (Nat.le_of_ble_eq_true rfl)) Lits.nil)) (Nat.le_of_ble_eq_true rfl)
    refine sq_fr ⟨_, rfl, F, rfl, ⟨_, .of g6.h⟩, for_it (walk_list (K := K) (a := F) (xs := _)) (fun i σ H' => Same H6 H' ∧ ∃ v4 v5 v6 v7 : Option V, σ = [some stv, some gv, some mv, some (.ref F), v4, v5, v6, v7, none, none]) ⟨Same.refl _, _, _, _, _, rfl⟩ (fun i σ H' _ q => .of (q.1 _ _ g6.h)) (fun i x σ Hz H7 hi q y => ?_) (fun σ H7 q => ?_)⟩
    · obtain ⟨e7, v4, v5, v6, v7, rfl⟩ := q
      obtain ⟨rfl, hx⟩ := y
      obtain ⟨d, hd1, hd2⟩ := g6.dp.getV hx
      obtain ⟨wx, hwx, rfl⟩ : ∃ wx ∈ worlds, d = worldD wx := by
        have := List.mem_of_getElem? hd1
        have e : [worldD (Str.ofString "star", [([0, 5], s13 12)], 12), worldD (Str.ofString "star", [([0, 5], s13 12), ([10 ^ 9, 10 ^ 9], [])], 12)] ++ [worldD (Str.ofString "star", [([0, 6 * 10 ^ 8], []), ([0, 7 * 10 ^ 8], s13 12)], 10 ^ 9)] ++ [worldD (Str.ofString "sum", [([0, 0], s13 7), ([10 ^ 9, 0], [])], 12)] ++ [worldD (Str.ofString "sum", [([10 ^ 9, 0], s13 7)], 10 ^ 9)] = worlds.map worldD := rfl
        rw [e] at this
        obtain ⟨w, h1, h2⟩ := List.mem_map.mp this
        exact ⟨w, h1, h2.symm⟩
      obtain ⟨T, ws, rfl, hT, hws⟩ := (hd2.to e7).tup_inv
      obtain ⟨a1, a2, a3, rfl, ha1, ha2, ha3⟩ : ∃ a b c, ws = [a, b, c] ∧ Dp K H7 a (.str wx.1) ∧ Dp K H7 b (linesD wx.2.1) ∧ Dp K H7 c (.int wx.2.2) := by
        cases hws with
        | cons h1 t => cases t with
          | cons h2 t => cases t with
            | cons h3 t => cases t; exact ⟨_, _, _, rfl, h1, h2, h3⟩
      have hR := worlds_ok wx hwx
      have hm7 := hm6.to e7
      refine ⟨T, _, rfl, hT, rfl, _, _, rfl, _, _, rfl, _, _, rfl, rfl, ?_⟩
      refine told_ref (K := K) (d1 := setD 2 wx.2.1) (Lit.var rfl ha1) (Lit.tup (Lits.cons Lit.int (Lits.cons (Lit.var rfl ha2) Lits.nil)) (Nat.le_of_ble_eq_true rfl)) (moLit rfl hm7) hR fun H8 told e8 ht => ?_
      have ha38 := ha3.to e8
      have bd : wx.2.2.natAbs < 10 ^ 60 := by
        simp only [worlds, List.mem_cons, List.not_mem_nil, or_false] at hwx
        rcases hwx with rfl | rfl | rfl | rfl | rfl <;> decide
      refine if_yes (yes_like (K := K) (N := 130) (Lit.var rfl ht) (Lit.lst (Lits.cons Lit.str (Lits.cons (Lit.var rfl ha38) Lits.nil)) (Nat.le_of_ble_eq_true rfl)) (sm2s rfl (by decide) (Sm.int' bd)) (by decide)) fun H9 e9 => ⟨(e7.trans e8).trans e9, _, _, _, _, rfl⟩
    · obtain ⟨e7, v4, v5, v6, v7, rfl⟩ := q
      have hst7 := hst6.to e7
      have hg7 := hg6.to e7
      have hm7 := hm6.to e7
      have e07 : Same H2 H7 := e6.trans e7
      dsimp only
      refine sq_go (Lits.mk (K := K) (H0 := H7) (ds := [linesD [([0, 5], s13 11)], linesD [([1, 12], s13 12)], linesD [([0, 0], s13 12)]]) (Lits.cons (Lit.tup (Lits.cons (ok2 (r := []) Lit.int Lit.int (tkS 11 (by decide) rfl hst7)) Lits.nil) (Nat.le_of_ble_eq_true rfl)) (Lits.cons (Lit.tup (Lits.cons (ok2 (r := []) Lit.int Lit.int (Lit.var rfl hst7)) Lits.nil) (Nat.le_of_ble_eq_true rfl)) (Lits.cons (Lit.tup (Lits.cons (ok2 (r := []) Lit.int Lit.int (Lit.var rfl hst7)) Lits.nil) (Nat.le_of_ble_eq_true rfl)) Lits.nil))) (Same.refl _) (fun H8 G ys8 e8' nG hG hGa => ?_) (Nat.le_of_ble_eq_true rfl))
      have g8 : Gro K H7 H8 G ys8 [linesD [([0, 5], s13 11)], linesD [([1, 12], s13 12)], linesD [([0, 0], s13 12)]] := ⟨hG, hGa, nG, by
        show (noList (linesD _) && (noList (linesD _) && (noList (linesD _) && true))) = true
        rw [noList_linesD, noList_linesD, noList_linesD]
        rfl⟩
      refine sq_apG (K := K) (d := linesD [([0, 4 * 10 ^ 8], []), ([0, 6 * 10 ^ 8], [])]) g8 rfl e8' (Lit.tup (Lits.cons (ok2 (r := []) Lit.int (Lit.mul (i := 4) (j := 10 ^ 8) Lit.int e8 (.inl ⟨by decide, by decide⟩)) nilL) (Lits.cons (ok2 (r := []) Lit.int (Lit.mul (i := 6) (j := 10 ^ 8) Lit.int e8 (.inl ⟨by decide, by decide⟩)) nilL) Lits.nil)) (Nat.le_of_ble_eq_true rfl)) (noList_linesD _) (Nat.le_of_ble_eq_true rfl) fun H9 y9 e9 g9 => ?_
      refine sq_fr ⟨_, rfl, G, rfl, ⟨_, .of g9.h⟩, for_it (walk_list (K := K) (a := G) (xs := _)) (fun i σ H' => Same H9 H' ∧ ∃ v5 : Option V, σ = [some stv, some gv, some mv, some (.ref F), v4, v5, v6, v7, some (.ref G), none]) ⟨Same.refl _, _, rfl⟩ (fun i σ H' _ q => .of (q.1 _ _ g9.h)) (fun i x σ Hz HA hi q y => ?_) (fun σ HA q => ?_)⟩
      · obtain ⟨eA, v5', rfl⟩ := q
        obtain ⟨rfl, hx⟩ := y
        obtain ⟨d, hd1, hd2⟩ := g9.dp.getV hx
        obtain ⟨ls, hls, rfl⟩ : ∃ ls ∈ lets, d = linesD ls := by
          have := List.mem_of_getElem? hd1
          have e : [linesD [([0, 5], s13 11)], linesD [([1, 12], s13 12)], linesD [([0, 0], s13 12)]] ++ [linesD [([0, 4 * 10 ^ 8], []), ([0, 6 * 10 ^ 8], [])]] = lets.map linesD := rfl
          rw [e] at this
          obtain ⟨w, h1, h2⟩ := List.mem_map.mp this
          exact ⟨w, h1, h2.symm⟩
        have hxA := hd2.to eA
        dsimp only [gName]
        exact if_none (K := K) (d1 := setD 2 ls) (d2 := .none) Lit.str (Lit.tup (Lits.cons Lit.int (Lits.cons (Lit.var rfl hxA) Lits.nil)) (Nat.le_of_ble_eq_true rfl)) Lit.non (lets_ok ls hls) fun HB eB => ⟨eA.trans eB, _, rfl⟩
      · obtain ⟨eA, v5', rfl⟩ := q
        have hstA := (hst7.to e9).to eA
        have hgA := (hg7.to e9).to eA
        have hmA := (hm7.to e9).to eA
        dsimp only
        refine ret_none (K := K) (d1 := setD 2 [([10 ^ 9 - 1, 0], s13 6)]) (d2 := setD 2 mostL) Lit.str (Lit.tup (Lits.cons Lit.int (Lits.cons (Lit.tup (Lits.cons (ok2 (r := []) (Lit.sub (Lit.var rfl hgA) Lit.int) Lit.int (tkS 6 (by decide) rfl hstA)) Lits.nil) (Nat.le_of_ble_eq_true rfl)) Lits.nil)) (Nat.le_of_ble_eq_true rfl)) (moLit rfl hmA) last_fits fun HB eB => k _ ((((e1.trans e2).trans e07).trans e9).trans (eA.trans eB))
end
end Ws
/-! ## M25 -/
/-! which rows a set has: unions, sums, stars -/
namespace Ws
namespace St
open PySem.W
abbrev Row := List Int
def pl (x y : Row) : Row := Sq.addk x y 1
theorem get_addk {x y : Row} {k : Int} {i : Nat} (h1 : i < x.length) (h2 : i < y.length) : (Sq.addk x y k).getD i 0 = x.getD i 0 + k * y.getD i 0 := by
  have h : i < (Sq.addk x y k).length := by
    show i < (List.zipWith _ x y).length
    rw [List.length_zipWith]
    omega
  rw [List.getD_eq_getElem?_getD, List.getElem?_eq_getElem h, List.getD_eq_getElem?_getD, List.getElem?_eq_getElem h1, List.getD_eq_getElem?_getD, List.getElem?_eq_getElem h2]
  exact List.getElem_zipWith ..
theorem len_addk {m : Nat} {x y : Row} {k : Int} (h1 : x.length = m) (h2 : y.length = m) : (Sq.addk x y k).length = m := by
  show (List.zipWith _ x y).length = m
  rw [List.length_zipWith, h1, h2, Nat.min_self]
theorem len_pl {m : Nat} {x y : Row} (h1 : x.length = m) (h2 : y.length = m) : (pl x y).length = m := len_addk h1 h2
theorem ext {m : Nat} {x y : Row} (h1 : x.length = m) (h2 : y.length = m) (h : ∀ i, i < m → x.getD i 0 = y.getD i 0) : x = y := by
  refine List.ext_getElem (by omega) fun i i1 i2 => ?_
  have := h i (by omega)
  rw [List.getD_eq_getElem?_getD, List.getElem?_eq_getElem i1, List.getD_eq_getElem?_getD, List.getElem?_eq_getElem i2] at this
  exact this
theorem get_pl {m : Nat} {x y : Row} {i : Nat} (h1 : x.length = m) (h2 : y.length = m) (hi : i < m) : (pl x y).getD i 0 = x.getD i 0 + y.getD i 0 := by
  unfold pl
  rw [get_addk (by omega) (by omega), Int.one_mul]
theorem zero_get (m i : Nat) : (List.replicate m (0 : Int)).getD i 0 = 0 := by
  rw [List.getD_eq_getElem?_getD]
  by_cases h : i < m
  · rw [List.getElem?_replicate, if_pos h]; rfl
  · rw [List.getElem?_replicate, if_neg h]; rfl
theorem len0 (m : Nat) : (List.replicate m (0 : Int)).length = m := List.length_replicate
theorem pl_comm {m : Nat} {x y : Row} (h1 : x.length = m) (h2 : y.length = m) : pl x y = pl y x := ext (len_pl h1 h2) (len_pl h2 h1) fun i hi => by rw [get_pl h1 h2 hi, get_pl h2 h1 hi, Int.add_comm]
theorem pl_assoc {m : Nat} {x y z : Row} (h1 : x.length = m) (h2 : y.length = m) (h3 : z.length = m) : pl (pl x y) z = pl x (pl y z) := ext (len_pl (len_pl h1 h2) h3) (len_pl h1 (len_pl h2 h3)) fun i hi => by
  rw [get_pl (len_pl h1 h2) h3 hi, get_pl h1 h2 hi, get_pl h1 (len_pl h2 h3) hi, get_pl h2 h3 hi, Int.add_assoc]
theorem pl_zero {m : Nat} {x : Row} (h1 : x.length = m) : pl x (List.replicate m 0) = x := ext (len_pl h1 (len0 m)) h1 fun i hi => by rw [get_pl h1 (len0 m) hi, zero_get, Int.add_zero]
theorem zero_pl {m : Nat} {x : Row} (h1 : x.length = m) : pl (List.replicate m 0) x = x := by rw [pl_comm (len0 m) h1, pl_zero h1]
/-- sums of periods -/
inductive Cmb (m : Nat) (ps : List Row) : Row → Prop
  | zero : Cmb m ps (List.replicate m 0)
  | add {r p : Row} : p ∈ ps → Cmb m ps r → Cmb m ps (pl r p)
theorem Cmb.len {m : Nat} {ps : List Row} (hp : ∀ p ∈ ps, p.length = m) {r : Row} (h : Cmb m ps r) : r.length = m := by
  induction h with
  | zero => exact len0 m
  | add h _ ih => exact len_pl ih (hp _ h)
theorem Cmb.mono {m : Nat} {ps qs : List Row} (h : ∀ p ∈ ps, p ∈ qs) {r : Row} (c : Cmb m ps r) : Cmb m qs r := by
  induction c with
  | zero => exact .zero
  | add hp _ ih => exact .add (h _ hp) ih
theorem Cmb.sum {m : Nat} {ps : List Row} (hp : ∀ p ∈ ps, p.length = m) {r s : Row} (c : Cmb m ps r) (d : Cmb m ps s) : Cmb m ps (pl r s) := by
  induction d with
  | zero => rw [pl_zero (c.len hp)]; exact c
  | @add s p h d ih =>
    rw [← pl_assoc (c.len hp) (d.len hp) (hp p h)]
    exact .add h ih
theorem Cmb.split {m : Nat} {ps qs : List Row} (hp : ∀ p ∈ ps, p.length = m) (hq : ∀ p ∈ qs, p.length = m) {r : Row} (c : Cmb m (ps ++ qs) r) : ∃ r1 r2, Cmb m ps r1 ∧ Cmb m qs r2 ∧ r = pl r1 r2 := by
  induction c with
  | zero => exact ⟨_, _, .zero, .zero, (pl_zero (len0 m)).symm⟩
  | @add r p h c ih =>
    obtain ⟨r1, r2, c1, c2, rfl⟩ := ih
    rcases List.mem_append.mp h with h | h
    · refine ⟨pl r1 p, r2, .add h c1, c2, ?_⟩
      rw [pl_assoc (c1.len hp) (c2.len hq) (hp p h), pl_comm (c2.len hq) (hp p h), pl_assoc (c1.len hp) (hp p h) (c2.len hq)]
    · exact ⟨r1, pl r2 p, c1, .add h c2, pl_assoc (c1.len hp) (c2.len hq) (hq p h)⟩
theorem Cmb.join {m : Nat} {ps qs : List Row} (hp : ∀ p ∈ ps, p.length = m) (hq : ∀ p ∈ qs, p.length = m) {r1 r2 : Row} (c : Cmb m ps r1) (d : Cmb m qs r2) : Cmb m (ps ++ qs) (pl r1 r2) :=
  Cmb.sum (fun p h => (List.mem_append.mp h).elim (hp p) (hq p)) (c.mono fun p h => List.mem_append.mpr (.inl h)) (d.mono fun p h => List.mem_append.mpr (.inr h))
/-- a row in a line, in a set -/
def InL (m : Nat) (l : Ln) (row : Row) : Prop := ∃ r, Cmb m l.2 r ∧ row = pl l.1 r
def InS (m : Nat) (ls : List Ln) (row : Row) : Prop := ∃ l ∈ ls, InL m l row
structure LnM (m : Nat) (l : Ln) : Prop where
  b : l.1.length = m
  p : ∀ p ∈ l.2, p.length = m
theorem nz_zero {m : Nat} {p : Row} (hl : p.length = m) (h : nzR p = false) : p = List.replicate m 0 := by
  refine ext hl (len0 m) fun i hi => ?_
  rw [zero_get]
  have hi2 : i < p.length := by omega
  have : p.getD i 0 ∈ p := by
    rw [List.getD_eq_getElem?_getD, List.getElem?_eq_getElem hi2]
    exact List.getElem_mem hi2
  have h2 := List.any_eq_false.mp h _ this
  simpa using h2
theorem cmb_ul {m : Nat} {ps : List Row} (hp : ∀ p ∈ ps, p.length = m) {r : Row} : Cmb m (ul ps) r ↔ Cmb m ps r := by
  have u := ul_unl ps
  constructor
  · exact fun c => c.mono fun p h => ((u.mem p).mp h).1
  · intro c
    induction c with
    | zero => exact .zero
    | @add r p h c ih =>
      cases z : nzR p with
      | true => exact .add ((u.mem p).mpr ⟨h, z⟩) ih
      | false =>
        rw [nz_zero (hp p h) z, pl_zero (c.len hp)]
        exact ih
theorem inL_cl {m : Nat} {l : Ln} (h : LnM m l) {row : Row} : InL m (cl l) row ↔ InL m l row := by
  unfold InL
  constructor
  · rintro ⟨r, c, e⟩
    exact ⟨r, (cmb_ul h.p).mp c, e⟩
  · rintro ⟨r, c, e⟩
    exact ⟨r, (cmb_ul h.p).mpr c, e⟩
theorem inS_cn {m : Nat} {ls : List Ln} (h : ∀ l ∈ ls, LnM m l) {row : Row} : InS m (cnL ls) row ↔ InS m ls row := by
  have c := cnf_canon knd_ln (ls.map cl)
  constructor
  · rintro ⟨f, hf, i⟩
    obtain ⟨l, hl, rfl⟩ := List.mem_map.mp ((c.mem f).mp hf)
    exact ⟨l, hl, (inL_cl (h l hl)).mp i⟩
  · rintro ⟨l, hl, i⟩
    exact ⟨cl l, (c.mem _).mpr (List.mem_map.mpr ⟨l, hl, rfl⟩), (inL_cl (h l hl)).mpr i⟩
theorem inS_app {m : Nat} {a b : List Ln} {row : Row} : InS m (a ++ b) row ↔ InS m a row ∨ InS m b row := by
  constructor
  · rintro ⟨l, hl, i⟩
    rcases List.mem_append.mp hl with h | h
    · exact .inl ⟨l, h, i⟩
    · exact .inr ⟨l, h, i⟩
  · rintro (⟨l, hl, i⟩ | ⟨l, hl, i⟩)
    · exact ⟨l, List.mem_append.mpr (.inl hl), i⟩
    · exact ⟨l, List.mem_append.mpr (.inr hl), i⟩
theorem four {m : Nat} {a b c d : Row} (h1 : a.length = m) (h2 : b.length = m) (h3 : c.length = m) (h4 : d.length = m) : pl (pl a b) (pl c d) = pl (pl a c) (pl b d) := ext (len_pl (len_pl h1 h2) (len_pl h3 h4)) (len_pl (len_pl h1 h3) (len_pl h2 h4)) fun i hi => by
  rw [get_pl (len_pl h1 h2) (len_pl h3 h4) hi, get_pl h1 h2 hi, get_pl h3 h4 hi, get_pl (len_pl h1 h3) (len_pl h2 h4) hi, get_pl h1 h3 hi, get_pl h2 h4 hi]
  omega
theorem inL_pr {m : Nat} {x y : Ln} (hx : LnM m x) (hy : LnM m y) {row : Row} : InL m (prL x y) row ↔ ∃ u v, InL m x u ∧ InL m y v ∧ row = pl u v := by
  constructor
  · rintro ⟨r, c, rfl⟩
    obtain ⟨r1, r2, c1, c2, rfl⟩ := Cmb.split hx.p hy.p c
    exact ⟨_, _, ⟨r1, c1, rfl⟩, ⟨r2, c2, rfl⟩, four hx.b hy.b (c1.len hx.p) (c2.len hy.p)⟩
  · rintro ⟨_, _, ⟨r1, c1, rfl⟩, ⟨r2, c2, rfl⟩, rfl⟩
    exact ⟨pl r1 r2, Cmb.join hx.p hy.p c1 c2, four hx.b (c1.len hx.p) hy.b (c2.len hy.p)⟩
theorem inS_prods {m : Nat} {a b : List Ln} (ha : ∀ l ∈ a, LnM m l) (hb : ∀ l ∈ b, LnM m l) {row : Row} : InS m (prods a b) row ↔ ∃ u v, InS m a u ∧ InS m b v ∧ row = pl u v := by
  constructor
  · rintro ⟨l, hl, i⟩
    obtain ⟨x, hx, hl⟩ := List.mem_flatMap.mp hl
    obtain ⟨y, hy, rfl⟩ := List.mem_map.mp hl
    obtain ⟨u, v, iu, iv, e⟩ := (inL_pr (ha x hx) (hb y hy)).mp i
    exact ⟨u, v, ⟨x, hx, iu⟩, ⟨y, hy, iv⟩, e⟩
  · rintro ⟨u, v, ⟨x, hx, iu⟩, ⟨y, hy, iv⟩, e⟩
    exact ⟨prL x y, List.mem_flatMap.mpr ⟨x, hx, List.mem_map.mpr ⟨y, hy, rfl⟩⟩, (inL_pr (ha x hx) (hb y hy)).mpr ⟨u, v, iu, iv, e⟩⟩
/-! ### fills -/
def NN (r : Row) : Prop := ∀ x ∈ r, 0 ≤ x
theorem nn_get {r : Row} (h : NN r) (i : Nat) : 0 ≤ r.getD i 0 := by
  rw [List.getD_eq_getElem?_getD]
  cases e : r[i]? with
  | none => exact Int.le_refl 0
  | some x => exact h x (List.mem_of_getElem? e)
theorem nn_of {m : Nat} {r : Row} (hl : r.length = m) (h : ∀ i, i < m → 0 ≤ r.getD i 0) : NN r := fun x hx => by
  obtain ⟨i, hi, rfl⟩ := List.getElem_of_mem hx
  have := h i (by omega)
  rw [List.getD_eq_getElem?_getD, List.getElem?_eq_getElem hi] at this
  exact this
theorem neg_iff {r : Row} : Sq.negB r = false ↔ NN r := by
  unfold Sq.negB NN
  rw [List.any_eq_false]
  constructor
  · intro h x hx
    have := h x hx
    rw [decide_eq_true_eq] at this
    omega
  · intro h x hx
    rw [decide_eq_true_eq]
    have := h x hx
    omega
theorem zer_iff {m : Nat} {r : Row} (hl : r.length = m) : Sq.zerB r = true ↔ r = List.replicate m 0 := by
  unfold Sq.zerB
  rw [List.all_eq_true]
  constructor
  · intro h
    exact List.eq_replicate_iff.mpr ⟨hl, fun x hx => of_decide_eq_true (h x hx)⟩
  · rintro rfl x hx
    rw [(List.mem_replicate.mp hx).2]
    rfl
theorem less_get {r p : Row} {k : Nat} {i : Nat} (h1 : i < r.length) (h2 : i < p.length) : (Sq.less r p k).getD i 0 = r.getD i 0 - k * p.getD i 0 := by
  have h : i < (Sq.less r p k).length := by
    show i < (List.zipWith _ r p).length
    rw [List.length_zipWith]
    omega
  rw [List.getD_eq_getElem?_getD, List.getElem?_eq_getElem h, List.getD_eq_getElem?_getD, List.getElem?_eq_getElem h1, List.getD_eq_getElem?_getD, List.getElem?_eq_getElem h2]
  exact List.getElem_zipWith ..
theorem len_less {m : Nat} {r p : Row} {k : Nat} (h1 : r.length = m) (h2 : p.length = m) : (Sq.less r p k).length = m := by
  show (List.zipWith _ r p).length = m
  rw [List.length_zipWith, h1, h2, Nat.min_self]
theorem Cmb.nn {m : Nat} {ps : List Row} (hp : ∀ p ∈ ps, p.length = m ∧ NN p) {r : Row} (c : Cmb m ps r) : NN r := by
  induction c with
  | zero => exact fun x hx => by rw [(List.mem_replicate.mp hx).2]; exact Int.le_refl 0
  | @add r p h c ih =>
    have rl := c.len fun p h => (hp p h).1
    refine nn_of (len_pl rl (hp p h).1) fun i hi => ?_
    rw [get_pl rl (hp p h).1 hi]
    have := nn_get ih i
    have := nn_get (hp p h).2 i
    omega
theorem Cmb.times {m : Nat} {ps : List Row} {p : Row} (hp : p ∈ ps) (hl : ∀ p ∈ ps, p.length = m) : ∀ (k : Nat) {r left : Row}, left.length = m → r = Sq.less left p k → Cmb m ps r → Cmb m ps left
  | 0, r, left, h, e, c => by
    have : left = r := by
      rw [e]
      exact ext h (len_less h (hl p hp)) fun i hi => by rw [less_get (by omega) (by rw [hl p hp]; exact hi)]; simp
    rw [this]
    exact c
  | k + 1, r, left, h, e, c => by
    have l1 : (Sq.less left p 1).length = m := len_less h (hl p hp)
    have c2 : Cmb m ps (Sq.less left p 1) := Cmb.times hp hl k (left := Sq.less left p 1) l1 (by
      rw [e]
      refine ext (len_less h (hl p hp)) (len_less l1 (hl p hp)) fun i hi => ?_
      have ip : i < p.length := by rw [hl p hp]; exact hi
      rw [less_get (by omega) ip, less_get (by omega) ip, less_get (by omega) ip, Int.natCast_add, Int.add_mul]
      omega) c
    have : left = pl (Sq.less left p 1) p := ext h (len_pl l1 (hl p hp)) fun i hi => by
      rw [get_pl l1 (hl p hp) hi, less_get (by omega) (by rw [hl p hp]; exact hi)]
      omega
    rw [this]
    exact .add hp c2
theorem Cmb.out {m : Nat} {p : Row} {ps : List Row} (hp : p.length = m) (hl : ∀ q ∈ ps, q.length = m) {left : Row} (c : Cmb m (p :: ps) left) : ∃ k : Nat, Cmb m ps (Sq.less left p k) := by
  have hl2 : ∀ q ∈ p :: ps, q.length = m := fun q h => by
    rcases List.mem_cons.mp h with rfl | h
    · exact hp
    · exact hl q h
  induction c with
  | zero =>
    refine ⟨0, ?_⟩
    have : Sq.less (List.replicate m 0) p 0 = List.replicate m 0 := ext (len_less (len0 m) hp) (len0 m) fun i hi => by rw [less_get (by rw [len0]; exact hi) (by omega)]; simp
    rw [this]
    exact .zero
  | @add r q h c ih =>
    obtain ⟨k, ck⟩ := ih
    have rl := c.len hl2
    rcases List.mem_cons.mp h with rfl | h
    · refine ⟨k + 1, ?_⟩
      have : Sq.less (pl r q) q (k + 1) = Sq.less r q k := ext (len_less (len_pl rl hp) hp) (len_less rl hp) fun i hi => by
        rw [less_get (by rw [len_pl rl hp]; exact hi) (by omega), get_pl rl hp hi, less_get (by omega) (by omega), Int.natCast_add, Int.add_mul]
        omega
      rw [this]
      exact ck
    · refine ⟨k, ?_⟩
      have ql := hl q h
      have : Sq.less (pl r q) p k = pl (Sq.less r p k) q := ext (len_less (len_pl rl ql) hp) (len_pl (len_less rl hp) ql) fun i hi => by
        rw [less_get (by rw [len_pl rl ql]; exact hi) (by omega), get_pl rl ql hi, get_pl (len_less rl hp) ql hi, less_get (by omega) (by omega)]
        omega
      rw [this]
      exact .add h ck
theorem mx_ge {r : Row} {x : Int} (hx : x ∈ r) : x ≤ (Sq.mx r : Int) := by
  have : ∀ (r : Row) (a : Int), a ≤ r.foldl max a ∧ ∀ x ∈ r, x ≤ r.foldl max a := fun r => by
    induction r with
    | nil => exact fun a => ⟨Int.le_refl a, fun x hx => absurd hx List.not_mem_nil⟩
    | cons y r ih =>
      intro a
      obtain ⟨h1, h2⟩ := ih (max a y)
      refine ⟨Int.le_trans (Int.le_max_left a y) h1, fun x hx => ?_⟩
      rcases List.mem_cons.mp hx with rfl | hx
      · exact Int.le_trans (Int.le_max_right a x) h1
      · exact h2 x hx
  obtain ⟨h1, h2⟩ := this r 0
  have := h2 x hx
  unfold Sq.mx
  omega
theorem fills_iff {m : Nat} : ∀ (ps : List Row), (∀ p ∈ ps, p.length = m ∧ NN p ∧ nzR p = true) → ∀ left : Row, left.length = m → (Sq.fills ps left = true ↔ Cmb m ps left)
  | [], _, left, hl => by
    show (!Sq.negB left && Sq.zerB left) = true ↔ _
    rw [Bool.and_eq_true, zer_iff hl]
    constructor
    · rintro ⟨_, rfl⟩
      exact .zero
    · intro c
      cases c with
      | zero => exact ⟨by rw [neg_iff.mpr (fun x hx => by rw [(List.mem_replicate.mp hx).2]; exact Int.le_refl 0)]; rfl, rfl⟩
      | add h _ => exact absurd h List.not_mem_nil
  | p :: ps, hp, left, hl => by
    obtain ⟨p1, p2, p3⟩ := hp p List.mem_cons_self
    have hps : ∀ q ∈ ps, q.length = m ∧ NN q ∧ nzR q = true := fun q h => hp q (List.mem_cons_of_mem _ h)
    have hl2 : ∀ q ∈ p :: ps, q.length = m := fun q h => (hp q h).1
    have ih := fills_iff ps hps
    show (!Sq.negB left && (Sq.zerB left || (List.range (Sq.mx left + 1)).any fun k => !Sq.negB (Sq.less left p k) && Sq.fills ps (Sq.less left p k))) = true ↔ _
    rw [Bool.and_eq_true, Bool.or_eq_true, zer_iff hl, List.any_eq_true]
    constructor
    · rintro ⟨_, rfl | ⟨k, _, hk⟩⟩
      · exact .zero
      · rw [Bool.and_eq_true] at hk
        have c := (ih _ (len_less hl p1)).mp hk.2
        exact Cmb.times List.mem_cons_self hl2 k hl rfl (c.mono fun q h => List.mem_cons_of_mem _ h)
    · intro c
      have nl := c.nn fun q h => ⟨(hp q h).1, (hp q h).2.1⟩
      refine ⟨by rw [neg_iff.mpr nl]; rfl, .inr ?_⟩
      obtain ⟨k, ck⟩ := c.out p1 fun q h => (hps q h).1
      have nk := ck.nn fun q h => ⟨(hps q h).1, (hps q h).2.1⟩
      refine ⟨k, List.mem_range.mpr ?_, by rw [Bool.and_eq_true]; exact ⟨by rw [neg_iff.mpr nk]; rfl, (ih _ (len_less hl p1)).mpr ck⟩⟩
      obtain ⟨x, hx, hz⟩ := List.any_eq_true.mp p3
      obtain ⟨i, hi, rfl⟩ := List.getElem_of_mem hx
      have h0 : p[i] ≠ 0 := by simpa using hz
      have h1 := p2 _ hx
      have gi := nn_get nk i
      rw [less_get (by omega) hi] at gi
      have e : p.getD i 0 = p[i] := by rw [List.getD_eq_getElem?_getD, List.getElem?_eq_getElem hi]; rfl
      rw [e] at gi
      have il : i < left.length := by omega
      have e2 : left.getD i 0 = left[i] := by rw [List.getD_eq_getElem?_getD, List.getElem?_eq_getElem il]; rfl
      have := mx_ge (List.getElem_mem il)
      rw [e2] at gi
      have kk : (k : Int) ≤ k * p[i] := by
        have := Int.mul_le_mul_of_nonneg_left (show (1 : Int) ≤ p[i] by omega) (Int.natCast_nonneg k)
        omega
      omega
theorem subr_get {m : Nat} {r p : Row} {i : Nat} (h1 : r.length = m) (h2 : p.length = m) (hi : i < m) : (Sq.subr r p).getD i 0 = r.getD i 0 - p.getD i 0 := by
  have h : i < (Sq.subr r p).length := by
    show i < (List.zipWith _ r p).length
    rw [List.length_zipWith]
    omega
  rw [List.getD_eq_getElem?_getD, List.getElem?_eq_getElem h, List.getD_eq_getElem?_getD, List.getElem?_eq_getElem (show i < r.length by omega), List.getD_eq_getElem?_getD, List.getElem?_eq_getElem (show i < p.length by omega)]
  exact List.getElem_zipWith ..
theorem subr_eq {m : Nat} {row x y : Row} (hr : row.length = m) (hx : x.length = m) (hy : y.length = m) : Sq.subr row x = y ↔ row = pl x y := by
  constructor
  · rintro rfl
    exact ext hr (len_pl hx hy) fun i hi => by rw [get_pl hx hy hi, subr_get hr hx hi]; omega
  · rintro rfl
    exact ext (subr_len (len_pl hx hy) hx) hy fun i hi => by rw [subr_get (len_pl hx hy) hx hi, get_pl hx hy hi]; omega
structure LnN (m : Nat) (l : Ln) : Prop extends LnM m l where
  n : ∀ p ∈ l.2, NN p ∧ nzR p = true
theorem has_iff {m : Nat} {ls : List Ln} (h : ∀ l ∈ ls, LnN m l) {row : Row} (hr : row.length = m) : hasR ls row = true ↔ InS m ls row := by
  unfold hasR
  rw [List.any_eq_true]
  constructor
  · rintro ⟨l, hl, z⟩
    have o := h l hl
    have sl : (Sq.subr row l.1).length = m := subr_len hr o.b
    have c := (fills_iff l.2 (fun p hp => ⟨o.p p hp, o.n p hp⟩) _ sl).mp z
    exact ⟨l, hl, _, c, (subr_eq hr o.b sl).mp rfl⟩
  · rintro ⟨l, hl, r, c, e⟩
    have o := h l hl
    have cl := c.len o.p
    refine ⟨l, hl, (fills_iff l.2 (fun p hp => ⟨o.p p hp, o.n p hp⟩) _ (subr_len hr o.b)).mpr ?_⟩
    rw [(subr_eq hr o.b cl).mpr e]
    exact c
end St
end Ws
/-! ## M25b -/
/-! which rows a star has -/
namespace Ws
namespace St
open PySem.W
inductive Star (m : Nat) (A : Row → Prop) : Row → Prop
  | zero : Star m A (List.replicate m 0)
  | add {r a : Row} : A a → Star m A r → Star m A (pl r a)
section
variable {m : Nat} {A : Row → Prop} (hA : ∀ a, A a → a.length = m)
include hA
theorem Star.len {r : Row} (s : Star m A r) : r.length = m := by
  induction s with
  | zero => exact len0 m
  | add h _ ih => exact len_pl ih (hA _ h)
theorem Star.cmb {qs : List Row} (hq : ∀ q ∈ qs, A q) {r s : Row} (c : Cmb m qs r) (h : Star m A s) : Star m A (pl s r) := by
  induction c with
  | zero => rw [pl_zero (h.len hA)]; exact h
  | @add r q hm c ih =>
    rw [← pl_assoc (h.len hA) (c.len fun q hq' => hA q (hq q hq')) (hA q (hq q hm))]
    exact .add (hq q hm) ih
end
theorem inS_len {m : Nat} {ls : List Ln} (h : ∀ l ∈ ls, LnM m l) : ∀ a, InS m ls a → a.length = m := fun a ⟨l, hl, r, c, e⟩ => by
  rw [e]
  exact len_pl (h l hl).b (c.len (h l hl).p)
theorem inS_base {m : Nat} {ls : List Ln} (h : ∀ l ∈ ls, LnM m l) {l : Ln} (hl : l ∈ ls) : InS m ls l.1 := ⟨l, hl, _, .zero, (pl_zero (h l hl).b).symm⟩
structure Acc (m : Nat) (A : Row → Prop) (acc : Ln) : Prop extends LnM m acc where
  s : ∀ r, Cmb m acc.2 r → Star m A (pl acc.1 r)
theorem getD_at' {ls : List Ln} {j : Nat} (hj : j < ls.length) : ls.getD ((j : Int)).toNat ([], []) = ls[j] := by
  rw [Int.toNat_natCast, List.getD_eq_getElem?_getD, List.getElem?_eq_getElem hj]
  rfl
theorem Acc.step {m : Nat} {ls : List Ln} (h : ∀ l ∈ ls, LnM m l) {acc : Ln} (a : Acc m (InS m ls) acc) {j : Nat} (hj : j < ls.length) : Acc m (InS m ls) (stL ls acc (j : Int)) := by
  have hl := h _ (List.getElem_mem hj)
  have hb := inS_base h (List.getElem_mem hj)
  have hA := inS_len h
  unfold stL
  rw [getD_at' hj]
  have pb : ∀ p ∈ [(ls[j]).1], p.length = m := fun p hp => by rw [List.mem_singleton.mp hp]; exact hl.b
  have pap : ∀ p ∈ acc.2 ++ (ls[j]).2, p.length = m := fun p hp => (List.mem_append.mp hp).elim (a.p p) (hl.p p)
  refine ⟨⟨len_pl a.b hl.b, fun p hp => (List.mem_append.mp hp).elim (pap p) (pb p)⟩, fun r c => ?_⟩
  obtain ⟨r12, r3, c12, c3, rfl⟩ := Cmb.split pap pb c
  obtain ⟨r1, r2, c1, c2, rfl⟩ := Cmb.split a.p hl.p c12
  have l1 := c1.len a.p
  have l2 := c2.len hl.p
  have l3 := c3.len pb
  show Star m _ (pl (pl acc.1 (ls[j]).1) (pl (pl r1 r2) r3))
  rw [← pl_assoc (len_pl a.b hl.b) (len_pl l1 l2) l3, four a.b hl.b l1 l2]
  refine Star.cmb hA (fun q hq => by rw [List.mem_singleton.mp hq]; exact hb) c3 ?_
  exact .add ⟨_, List.getElem_mem hj, r2, c2, rfl⟩ (a.s r1 c1)
theorem Acc.fold {m : Nat} {ls : List Ln} (h : ∀ l ∈ ls, LnM m l) : ∀ (c : List Int) {acc : Ln}, (∀ k ∈ c, ∃ j : Nat, j < ls.length ∧ k = (j : Int)) → Acc m (InS m ls) acc → Acc m (InS m ls) (c.foldl (stL ls) acc)
  | [], _, _, a => a
  | k :: c, acc, hk, a => by
    obtain ⟨j, hj, rfl⟩ := hk k List.mem_cons_self
    exact Acc.fold h c (fun k hk' => hk k (List.mem_cons_of_mem _ hk')) (a.step h hj)
theorem cmb_nil {m : Nat} {r : Row} (c : Cmb m [] r) : r = List.replicate m 0 := by
  cases c with
  | zero => rfl
  | add h _ => exact absurd h List.not_mem_nil
theorem acc0 (m : Nat) (A : Row → Prop) : Acc m A (List.replicate m 0, []) := ⟨⟨len0 m, fun p hp => absurd hp List.not_mem_nil⟩, fun r c => by
  rw [cmb_nil c, pl_zero (len0 m)]
  exact .zero⟩
theorem star_of {m : Nat} {ls : List Ln} (h : ∀ l ∈ ls, LnM m l) {row : Row} (i : InS m (starL m ls) row) : Star m (InS m ls) row := by
  obtain ⟨l, hl, r, c, rfl⟩ := i
  rcases List.mem_cons.mp hl with rfl | hl
  · exact (acc0 m _).s r c
  · obtain ⟨ch, hc, rfl⟩ := List.mem_map.mp hl
    exact (Acc.fold h ch (chc_in hc).2 (acc0 m _)).s r c
theorem starL_ln {m : Nat} {ls : List Ln} (h : ∀ l ∈ ls, LnM m l) : ∀ l ∈ starL m ls, LnM m l := fun l hl => by
  rcases List.mem_cons.mp hl with rfl | hl
  · exact (acc0 m (InS m ls)).toLnM
  · obtain ⟨ch, hc, rfl⟩ := List.mem_map.mp hl
    exact (Acc.fold h ch (chc_in hc).2 (acc0 m _)).toLnM
/-! the other way: by the places used -/
def bk (ls : List Ln) (k : Nat) : Row := (ls.getD k ([], [])).1
def pk (ls : List Ln) (k : Nat) : List Row := (ls.getD k ([], [])).2
def sumb (ls : List Ln) (c : List Nat) (z : Row) : Row := c.foldl (fun acc k => pl acc (bk ls k)) z
structure Ok (m : Nat) (ls : List Ln) (c : List Nat) : Prop where
  b : ∀ k ∈ c, (bk ls k).length = m
  p : ∀ k ∈ c, ∀ p ∈ pk ls k, p.length = m
theorem sumb_len {m : Nat} {ls : List Ln} : ∀ (c : List Nat) (z : Row), (∀ k ∈ c, (bk ls k).length = m) → z.length = m → (sumb ls c z).length = m
  | [], _, _, h => h
  | k :: c, z, h, hz => sumb_len c _ (fun k hk => h k (List.mem_cons_of_mem _ hk)) (len_pl hz (h k List.mem_cons_self))
theorem sumb_perm {m : Nat} {ls : List Ln} {c d : List Nat} (p : c.Perm d) : (∀ k ∈ c, (bk ls k).length = m) → ∀ z : Row, z.length = m → sumb ls c z = sumb ls d z := by
  induction p with
  | nil => exact fun _ z _ => rfl
  | cons x p ih => exact fun h z hz => ih (fun k hk => h k (List.mem_cons_of_mem _ hk)) _ (len_pl hz (h x List.mem_cons_self))
  | swap x y l =>
    intro h z hz
    have hx := h x (List.mem_cons_of_mem _ List.mem_cons_self)
    have hy := h y List.mem_cons_self
    show sumb ls l (pl (pl z (bk ls y)) (bk ls x)) = sumb ls l (pl (pl z (bk ls x)) (bk ls y))
    rw [pl_assoc hz hy hx, pl_comm hy hx, ← pl_assoc hz hx hy]
  | trans p q ih1 ih2 => exact fun h z hz => (ih1 h z hz).trans (ih2 (fun k hk => h k (p.mem_iff.mpr hk)) z hz)
/-- a row got with the places c -/
def Got (m : Nat) (ls : List Ln) (c : List Nat) (row : Row) : Prop := ∃ (qs : List Row) (r : Row), (∀ q ∈ qs, ∃ k ∈ c, q ∈ pk ls k ∨ q = bk ls k) ∧ Cmb m qs r ∧ row = pl (sumb ls c (List.replicate m 0)) r
theorem star_got {m : Nat} {ls : List Ln} (h : ∀ l ∈ ls, LnM m l) {row : Row} (s : Star m (InS m ls) row) : row = List.replicate m 0 ∨ ∃ c : List Nat, c.Nodup ∧ c ≠ [] ∧ (∀ k ∈ c, k < ls.length) ∧ Got m ls c row := by
  have gb : ∀ k, k < ls.length → bk ls k = (ls.getD k ([], [])).1 ∧ (ls.getD k ([], [])) ∈ ls := fun k hk => ⟨rfl, by rw [List.getD_eq_getElem?_getD, List.getElem?_eq_getElem hk]; exact List.getElem_mem hk⟩
  induction s with
  | zero => exact .inl rfl
  | @add r a ha s ih =>
    right
    obtain ⟨l, hl, r2, c2, rfl⟩ := ha
    obtain ⟨j, hj, rfl⟩ := List.getElem_of_mem hl
    have hlj := h _ hl
    have ej : ls.getD j ([], []) = ls[j] := by rw [List.getD_eq_getElem?_getD, List.getElem?_eq_getElem hj]; rfl
    have bj : bk ls j = (ls[j]).1 := by unfold bk; rw [ej]
    have pj : pk ls j = (ls[j]).2 := by unfold pk; rw [ej]
    have l2 := c2.len hlj.p
    rcases ih with rfl | ⟨c, nd, ne, hc, qs, r1, hq, c1, rfl⟩
    · refine ⟨[j], by simp, by simp, fun k hk => by rw [List.mem_singleton.mp hk]; exact hj, (ls[j]).2, r2, fun q hq => ⟨j, by simp, .inl (by rw [pj]; exact hq)⟩, c2, ?_⟩
      show _ = pl (pl (List.replicate m 0) (bk ls j)) r2
      rw [bj, zero_pl (len_pl hlj.b l2), zero_pl hlj.b]
    · have hbl : ∀ k ∈ c, (bk ls k).length = m := fun k hk => by rw [(gb k (hc k hk)).1]; exact (h _ (gb k (hc k hk)).2).b
      have ql : ∀ q ∈ qs, q.length = m := fun q hq' => by
        obtain ⟨k, hk, h1 | h1⟩ := hq q hq'
        · exact (h _ (gb k (hc k hk)).2).p q h1
        · rw [h1]; exact hbl k hk
      have sl := sumb_len (m := m) c (List.replicate m 0) hbl (len0 m)
      have l1 := c1.len ql
      by_cases jc : j ∈ c
      · refine ⟨c, nd, ne, hc, qs ++ (ls[j]).2 ++ [(ls[j]).1], pl (pl r1 r2) (ls[j]).1, fun q hq' => ?_, ?_, ?_⟩
        · rcases List.mem_append.mp hq' with h1 | h1
          · rcases List.mem_append.mp h1 with h2 | h2
            · exact hq q h2
            · exact ⟨j, jc, .inl (by rw [pj]; exact h2)⟩
          · exact ⟨j, jc, .inr (by rw [bj]; exact List.mem_singleton.mp h1)⟩
        · exact .add (List.mem_append.mpr (.inr (List.mem_singleton.mpr rfl))) ((Cmb.join ql hlj.p c1 c2).mono fun p hp => List.mem_append.mpr (.inl hp))
        · rw [four sl l1 hlj.b l2, pl_assoc sl hlj.b (len_pl l1 l2), pl_comm hlj.b (len_pl l1 l2)]
      · have cd : ∀ k ∈ c ++ [j], k < ls.length := fun k hk => (List.mem_append.mp hk).elim (hc k) fun h => by rw [List.mem_singleton.mp h]; exact hj
        refine ⟨c ++ [j], nodup_snoc nd jc, by simp, cd, qs ++ (ls[j]).2, pl r1 r2, fun q hq' => ?_, Cmb.join ql hlj.p c1 c2, ?_⟩
        · rcases List.mem_append.mp hq' with h1 | h1
          · obtain ⟨k, hk, h2⟩ := hq q h1
            exact ⟨k, List.mem_append.mpr (.inl hk), h2⟩
          · exact ⟨j, by simp, .inl (by rw [pj]; exact h1)⟩
        · have e : sumb ls (c ++ [j]) (List.replicate m 0) = pl (sumb ls c (List.replicate m 0)) (bk ls j) := by
            unfold sumb
            rw [List.foldl_append]
            rfl
          rw [e, bj, four sl l1 hlj.b l2]
theorem cast_fold {ls : List Ln} : ∀ (c : List Nat) (acc : Ln), ((c.map fun (k : Nat) => (k : Int)).foldl (stL ls) acc).1 = sumb ls c acc.1 ∧ ∀ q, q ∈ ((c.map fun (k : Nat) => (k : Int)).foldl (stL ls) acc).2 ↔ q ∈ acc.2 ∨ ∃ k ∈ c, q ∈ pk ls k ∨ q = bk ls k
  | [], acc => ⟨rfl, fun q => by simp⟩
  | k :: c, acc => by
    obtain ⟨h1, h2⟩ := cast_fold c (stL ls acc (k : Int))
    rw [List.map_cons, List.foldl_cons]
    refine ⟨h1, fun q => ?_⟩
    rw [h2]
    have e : q ∈ (stL ls acc (k : Int)).2 ↔ q ∈ acc.2 ∨ q ∈ pk ls k ∨ q = bk ls k := by
      unfold stL pk bk
      rw [Int.toNat_natCast, List.mem_append, List.mem_append, List.mem_singleton, or_assoc]
    rw [e]
    constructor
    · rintro ((h | h) | ⟨j, hj, h⟩)
      · exact .inl h
      · exact .inr ⟨k, List.mem_cons_self, h⟩
      · exact .inr ⟨j, List.mem_cons_of_mem _ hj, h⟩
    · rintro (h | ⟨j, hj, h⟩)
      · exact .inl (.inl h)
      · rcases List.mem_cons.mp hj with rfl | hj
        · exact .inl (.inr h)
        · exact .inr ⟨j, hj, h⟩
theorem sub_has : ∀ n, n ≤ 3 → ∀ p : Nat → Bool, (∃ k, k < n ∧ p k = true) → ((List.range n).filter p).map (fun (k : Nat) => (k : Int)) ∈ sub n := by
  intro n hn p ⟨k, hk, h⟩
  match n, hn with
  | 0, _ => omega
  | 1, _ =>
    obtain rfl : k = 0 := by omega
    have e : (List.range 1).filter p = [0] := by simp [List.range_succ, h]
    rw [e]
    decide
  | 2, _ =>
    cases h0 : p 0 <;> cases h1 : p 1
    · exfalso
      have : k = 0 ∨ k = 1 := by omega
      rcases this with rfl | rfl
      · rw [h0] at h; cases h
      · rw [h1] at h; cases h
    all_goals
      simp only [List.range_succ, List.range_zero, List.nil_append, List.cons_append, List.filter_cons, List.filter_nil, h0, h1, if_true, if_false, Bool.false_eq_true]
      decide
  | 3, _ =>
    cases h0 : p 0 <;> cases h1 : p 1 <;> cases h2 : p 2
    · exfalso
      have : k = 0 ∨ k = 1 ∨ k = 2 := by omega
      rcases this with rfl | rfl | rfl
      · rw [h0] at h; cases h
      · rw [h1] at h; cases h
      · rw [h2] at h; cases h
    all_goals
      simp only [List.range_succ, List.range_zero, List.nil_append, List.cons_append, List.filter_cons, List.filter_nil, h0, h1, h2, if_true, if_false, Bool.false_eq_true]
      decide
theorem of_star {m : Nat} {ls : List Ln} (h : ∀ l ∈ ls, LnM m l) (few : ls.length ≤ 3) {row : Row} (s : Star m (InS m ls) row) : InS m (starL m ls) row := by
  rcases star_got h s with rfl | ⟨c, nd, ne, hc, qs, r, hq, cr, rfl⟩
  · exact ⟨_, List.mem_cons_self, _, .zero, (pl_zero (len0 m)).symm⟩
  · obtain ⟨k0, t0, e0⟩ := List.exists_cons_of_ne_nil ne
    have k0c : k0 ∈ c := by rw [e0]; exact List.mem_cons_self
    have mem : ((List.range ls.length).filter fun k => decide (k ∈ c)).map (fun (k : Nat) => (k : Int)) ∈ sub ls.length := sub_has _ few _ ⟨k0, hc k0 k0c, decide_eq_true k0c⟩
    have pm : ((List.range ls.length).filter fun k => decide (k ∈ c)).Perm c := (List.perm_ext_iff_of_nodup (List.Pairwise.filter _ List.nodup_range) nd).mpr fun k => by
      rw [List.mem_filter, List.mem_range, decide_eq_true_eq]
      exact ⟨fun h => h.2, fun h => ⟨hc k h, h⟩⟩
    have hbl : ∀ k ∈ c, (bk ls k).length = m := fun k hk => by
      have hk2 := hc k hk
      unfold bk
      rw [List.getD_eq_getElem?_getD, List.getElem?_eq_getElem hk2]
      exact (h _ (List.getElem_mem hk2)).b
    obtain ⟨f1, f2⟩ := cast_fold (ls := ls) ((List.range ls.length).filter fun k => decide (k ∈ c)) (List.replicate m 0, [])
    refine ⟨starOf m ls (((List.range ls.length).filter fun k => decide (k ∈ c)).map fun (k : Nat) => (k : Int)), List.mem_cons_of_mem _ (List.mem_map.mpr ⟨_, (chc_perm _).mem_iff.mpr mem, rfl⟩), r, ?_, ?_⟩
    · refine cr.mono fun q hq' => ?_
      obtain ⟨k, hk, h1⟩ := hq q hq'
      exact (f2 q).mpr (.inr ⟨k, pm.mem_iff.mpr hk, h1⟩)
    · show _ = pl (starOf m ls _).1 r
      rw [show (starOf m ls _).1 = _ from f1, ← sumb_perm pm.symm hbl _ (len0 m)]
theorem star_iff {m : Nat} {ls : List Ln} (h : ∀ l ∈ ls, LnM m l) (few : ls.length ≤ 3) {row : Row} : InS m (starL m ls) row ↔ Star m (InS m ls) row := ⟨star_of h, of_star h few⟩
/-! the law's own star lines: the same set -/
theorem chc_U : ∀ n, n ≤ 3 → chcU n = sub n := by decide
theorem cast_foldV {ls : List Ln} : ∀ (c : List Int) (acc acc' : Ln), acc.1 = acc'.1 → (∀ q, q ∈ acc.2 ↔ q ∈ acc'.2) → (c.foldl (stL ls) acc).1 = (c.foldl (stV ls) acc').1 ∧ ∀ q, q ∈ (c.foldl (stL ls) acc).2 ↔ q ∈ (c.foldl (stV ls) acc').2
  | [], _, _, h1, h2 => ⟨h1, h2⟩
  | k :: c, acc, acc', h1, h2 => cast_foldV c _ _ (by show Sq.addk acc.1 _ 1 = Sq.addk acc'.1 _ 1; rw [h1]) fun q => by
    show q ∈ acc.2 ++ (ls.getD k.toNat ([], [])).2 ++ [(ls.getD k.toNat ([], [])).1] ↔ q ∈ acc'.2 ++ [(ls.getD k.toNat ([], [])).1] ++ (ls.getD k.toNat ([], [])).2
    simp only [List.mem_append, h2]
    constructor
    · rintro ((h | h) | h)
      · exact .inl (.inl h)
      · exact .inr h
      · exact .inl (.inr h)
    · rintro ((h | h) | h)
      · exact .inl (.inl h)
      · exact .inr h
      · exact .inl (.inr h)
theorem cl_same (m : Nat) (ls : List Ln) (c : List Int) : cl (starOf m ls c) = cl (starV m ls c) := by
  obtain ⟨h1, h2⟩ := cast_foldV (ls := ls) c (List.replicate m 0, []) (List.replicate m 0, []) rfl fun q => Iff.rfl
  unfold cl
  have e1 : (starOf m ls c).1 = (starV m ls c).1 := h1
  have e2 : ul (starOf m ls c).2 = ul (starV m ls c).2 := (ul_unl _).uniq ⟨(ul_unl (starV m ls c).2).asc, fun r => by
    rw [(ul_unl (starV m ls c).2).mem]
    constructor
    · exact fun h => ⟨(h2 r).mpr h.1, h.2⟩
    · exact fun h => ⟨(h2 r).mp h.1, h.2⟩⟩
  rw [e1, e2]
theorem cnL_star {m : Nat} {ls : List Ln} (few : ls.length ≤ 3) : cnL (starU m ls) = cnL (starL m ls) := by
  have c1 := cnf_canon knd_ln ((starU m ls).map cl)
  have c2 := cnf_canon knd_ln ((starL m ls).map cl)
  refine (c1.asc knd_ln).uniq (c2.asc knd_ln) fun x => ?_
  have hm : ∀ c, c ∈ chcU ls.length ↔ c ∈ chc ls.length := fun c => by rw [chc_U _ few, (chc_perm _).mem_iff]
  show x ∈ cnf lineD ((starU m ls).map cl) ↔ x ∈ cnf lineD ((starL m ls).map cl)
  rw [c1.mem, c2.mem]
  unfold starU starL
  rw [List.map_cons, List.map_cons, List.mem_cons, List.mem_cons, List.map_map, List.map_map]
  constructor
  · rintro (h | h)
    · exact .inl h
    · obtain ⟨c, hc, rfl⟩ := List.mem_map.mp h
      exact .inr (List.mem_map.mpr ⟨c, (hm c).mp hc, cl_same m ls c⟩)
  · rintro (h | h)
    · exact .inl h
    · obtain ⟨c, hc, rfl⟩ := List.mem_map.mp h
      exact .inr (List.mem_map.mpr ⟨c, (hm c).mpr hc, (cl_same m ls c).symm⟩)
end St
end Ws
/-! ## M25c -/
/-! the rows of a grid -/
namespace Ws
namespace St
open PySem.W
structure LnA (m : Nat) (l : Ln) : Prop extends LnN m l where
  bn : NN l.1
theorem nn_pl {m : Nat} {x y : Row} (h1 : x.length = m) (h2 : y.length = m) (a : NN x) (b : NN y) : NN (pl x y) := nn_of (len_pl h1 h2) fun i hi => by
  rw [get_pl h1 h2 hi]
  have := nn_get a i
  have := nn_get b i
  omega
theorem nn_zero (m : Nat) : NN (List.replicate m 0) := fun x hx => by rw [(List.mem_replicate.mp hx).2]; exact Int.le_refl 0
theorem inS_nn {m : Nat} {ls : List Ln} (h : ∀ l ∈ ls, LnA m l) {row : Row} (i : InS m ls row) : NN row := by
  obtain ⟨l, hl, r, c, rfl⟩ := i
  have o := h l hl
  exact nn_pl o.b (c.len o.p) o.bn (c.nn fun p hp => ⟨o.p p hp, (o.n p hp).1⟩)
theorem star_nn {m : Nat} {ls : List Ln} (h : ∀ l ∈ ls, LnA m l) {row : Row} (s : Star m (InS m ls) row) : NN row := by
  have hA := inS_len fun l hl => (h l hl).toLnM
  induction s with
  | zero => exact nn_zero m
  | add ha s ih => exact nn_pl (s.len hA) (hA _ ha) ih (inS_nn h ha)
/-! the grid -/
def In7 (m : Nat) (row : Row) : Prop := row.length = m ∧ ∀ x ∈ row, 0 ≤ x ∧ x < 7
theorem grid_has : ∀ (m : Nat) (row : Row), In7 m row → row ∈ gridR 7 m
  | 0, row, h => by
    have : row = [] := List.eq_nil_of_length_eq_zero h.1
    rw [this]
    exact List.mem_singleton.mpr rfl
  | m + 1, row, h => by
    obtain ⟨h1, h2⟩ := h
    have hne : row ≠ [] := fun e => by rw [e] at h1; cases h1
    have e := List.dropLast_concat_getLast hne
    have hl := h2 _ (List.getLast_mem hne)
    refine List.mem_flatMap.mpr ⟨row.dropLast, grid_has m _ ⟨by rw [List.length_dropLast, h1]; rfl, fun x hx => h2 x ((List.dropLast_sublist row).subset hx)⟩, List.mem_map.mpr ⟨(row.getLast hne).toNat, List.mem_range.mpr (by omega), ?_⟩⟩
    rw [show (((row.getLast hne).toNat : Nat) : Int) = row.getLast hne by omega]
    exact e
theorem grid_in {m : Nat} {row : Row} (h : row ∈ gridR 7 m) : In7 m row := gridR_row 7 m row h
theorem part_in {m : Nat} {row u v : Row} (h : In7 m row) (hu : u.length = m) (hv : v.length = m) (nu : NN u) (nv : NN v) (e : row = pl u v) : In7 m u ∧ In7 m v := by
  have g : ∀ i, i < m → u.getD i 0 < 7 ∧ v.getD i 0 < 7 := fun i hi => by
    have hi2 : i < row.length := by rw [h.1]; exact hi
    have := h.2 _ (List.getElem_mem hi2)
    have e2 : row.getD i 0 = row[i] := by rw [List.getD_eq_getElem?_getD, List.getElem?_eq_getElem hi2]; rfl
    have e3 : row.getD i 0 = u.getD i 0 + v.getD i 0 := by rw [e, get_pl hu hv hi]
    have := nn_get nu i
    have := nn_get nv i
    omega
  have up : ∀ {w : Row}, w.length = m → NN w → (∀ i, i < m → w.getD i 0 < 7) → In7 m w := fun {w} hw nw gw => ⟨hw, fun x hx => ⟨nw x hx, by
    obtain ⟨i, hi, rfl⟩ := List.getElem_of_mem hx
    have := gw i (by omega)
    rw [List.getD_eq_getElem?_getD, List.getElem?_eq_getElem hi] at this
    exact this⟩⟩
  exact ⟨up hu nu fun i hi => (g i hi).1, up hv nv fun i hi => (g i hi).2⟩
theorem ge_iff {m : Nat} {row p : Row} (hr : row.length = m) (hp : p.length = m) : geB row p = true ↔ NN (Sq.subr row p) := by
  unfold geB NN
  rw [List.all_eq_true]
  exact ⟨fun h x hx => of_decide_eq_true (h x hx), fun h x hx => decide_eq_true (h x hx)⟩
theorem hit_iff {one found : List Row} {row : Row} : hitB one found row = true ↔ ∃ p ∈ one, geB row p = true ∧ Sq.subr row p ∈ found := by
  unfold hitB
  rw [List.any_eq_true]
  constructor
  · rintro ⟨p, hp, h⟩
    obtain ⟨h1, h2⟩ := List.mem_filter.mp hp
    obtain ⟨z, hz, e⟩ := List.any_eq_true.mp h
    have e := of_decide_eq_true e
    subst e
    exact ⟨p, h1, h2, hz⟩
  · rintro ⟨p, h1, h2, h3⟩
    exact ⟨p, List.mem_filter.mpr ⟨h1, h2⟩, List.any_eq_true.mpr ⟨_, h3, decide_eq_true rfl⟩⟩
section
variable {m : Nat} {a b : List Ln} (ha : ∀ l ∈ a, LnA m l) (hb : ∀ l ∈ b, LnA m l)
include ha hb
theorem sums_iff {row : Row} (hr : row ∈ gridR 7 m) : row ∈ sumsR ((gridR 7 m).filter (hasR a)) ((gridR 7 m).filter (hasR b)) (gridR 7 m) ↔ InS m (prods a b) row := by
  have g := grid_in hr
  have la : ∀ l ∈ a, LnM m l := fun l hl => (ha l hl).toLnM
  have lb : ∀ l ∈ b, LnM m l := fun l hl => (hb l hl).toLnM
  unfold sumsR
  rw [List.mem_filter, hit_iff, inS_prods la lb]
  constructor
  · rintro ⟨_, p, hp, hge, hs⟩
    obtain ⟨p1, p2⟩ := List.mem_filter.mp hp
    obtain ⟨s1, s2⟩ := List.mem_filter.mp hs
    have pl' := (grid_in p1).1
    have sl := (grid_in s1).1
    exact ⟨p, Sq.subr row p, (has_iff (fun l hl => (ha l hl).toLnN) pl').mp p2, (has_iff (fun l hl => (hb l hl).toLnN) sl).mp s2, (subr_eq g.1 pl' sl).mp rfl⟩
  · rintro ⟨u, v, iu, iv, e⟩
    have lu := inS_len la u iu
    have lv := inS_len lb v iv
    obtain ⟨gu, gv⟩ := part_in g lu lv (inS_nn ha iu) (inS_nn hb iv) e
    have es : Sq.subr row u = v := (subr_eq g.1 lu lv).mpr e
    refine ⟨hr, u, List.mem_filter.mpr ⟨grid_has m u gu, (has_iff (fun l hl => (ha l hl).toLnN) lu).mpr iu⟩, ?_, ?_⟩
    · rw [ge_iff g.1 lu, es]
      exact inS_nn hb iv
    · rw [es]
      exact List.mem_filter.mpr ⟨grid_has m v gv, (has_iff (fun l hl => (hb l hl).toLnN) lv).mpr iv⟩
end
/-! the grid's order -/
theorem lt_snoc : ∀ {r s : Row} {x y : Int}, r.length = s.length → dataLt (intsD r) (intsD s) = true → dataLt (intsD (r ++ [x])) (intsD (s ++ [y])) = true
  | [], [], _, _, _, h => by rw [lt_irr] at h; cases h
  | [], _ :: _, _, _, h, _ => by simp at h
  | _ :: _, [], _, _, h, _ => by simp at h
  | a :: r, b :: s, x, y, hl, h => by
    rcases Int.lt_trichotomy a b with c | c | c
    · exact row_hd c
    · subst c
      rw [row_tl] at h
      show dataLt (intsD (a :: (r ++ [x]))) (intsD (a :: (s ++ [y]))) = true
      rw [row_tl]
      exact lt_snoc (by simpa using hl) h
    · have := lt_not (row_hd (r := s) (s := r) c)
      rw [this] at h
      cases h
theorem lt_last : ∀ {r : Row} {x y : Int}, x < y → dataLt (intsD (r ++ [x])) (intsD (r ++ [y])) = true
  | [], _, _, h => row_hd h
  | a :: r, x, y, h => by
    show dataLt (intsD (a :: (r ++ [x]))) (intsD (a :: (r ++ [y]))) = true
    rw [row_tl]
    exact lt_last h
theorem grid_asc : ∀ m, Asc intsD (gridR 7 m)
  | 0 => List.pairwise_singleton ..
  | m + 1 => by
    have ih := grid_asc m
    rw [gridR_succ]
    have len : ∀ r ∈ gridR 7 m, r.length = m := fun r hr => (grid_in hr).1
    revert len ih
    generalize gridR 7 m = g
    intro ih len
    induction g with
    | nil => exact List.Pairwise.nil
    | cons r g ihg =>
      obtain ⟨h1, h2⟩ := List.pairwise_cons.mp ih
      rw [List.flatMap_cons]
      refine List.pairwise_append.mpr ⟨?_, ihg h2 fun s hs => len s (List.mem_cons_of_mem _ hs), fun x hx y hy => ?_⟩
      · unfold extR
        rw [List.pairwise_map]
        exact List.pairwise_lt_range.imp fun {i j} (h : i < j) => lt_last (Int.ofNat_lt.mpr h)
      · obtain ⟨i, _, rfl⟩ := List.mem_map.mp hx
        obtain ⟨s, hs, hy⟩ := List.mem_flatMap.mp hy
        obtain ⟨j, _, rfl⟩ := List.mem_map.mp hy
        exact lt_snoc (by rw [len r List.mem_cons_self, len s (List.mem_cons_of_mem _ hs)]) (h1 s hs)
theorem less_lt : ∀ {row p : Row}, row.length = p.length → NN p → nzR p = true → dataLt (intsD (Sq.subr row p)) (intsD row) = true
  | [], [], _, _, h => by cases h
  | [], _ :: _, h, _, _ => by simp at h
  | _ :: _, [], h, _, _ => by simp at h
  | x :: row, q :: p, hl, hn, hz => by
    have q0 := hn q List.mem_cons_self
    show dataLt (intsD ((x - q) :: Sq.subr row p)) (intsD (x :: row)) = true
    by_cases c : q = 0
    · subst c
      rw [show x - 0 = x by omega, row_tl]
      refine less_lt (by simpa using hl) (fun y hy => hn y (List.mem_cons_of_mem _ hy)) ?_
      unfold nzR at hz ⊢
      rw [List.any_cons] at hz
      simpa using hz
    · exact row_hd (by omega)
theorem grid_head (m : Nat) : ∃ rest, gridR 7 m = List.replicate m 0 :: rest := by
  induction m with
  | zero => exact ⟨[], rfl⟩
  | succ m ih =>
    obtain ⟨rest, e⟩ := ih
    refine ⟨((List.range 6).map fun (k : Nat) => List.replicate m 0 ++ [((k + 1 : Nat) : Int)]) ++ rest.flatMap (extR 7), ?_⟩
    rw [gridR_succ, e, List.flatMap_cons]
    have e7 : extR 7 (List.replicate m 0) = (List.replicate m 0 ++ [0]) :: (List.range 6).map fun (k : Nat) => List.replicate m 0 ++ [((k + 1 : Nat) : Int)] := rfl
    rw [e7, List.cons_append]
    congr 1
    exact (List.replicate_succ' ..).symm
theorem star_last {m : Nat} {A : Row → Prop} (hA : ∀ a, A a → a.length = m) {row : Row} (s : Star m A row) : row = List.replicate m 0 ∨ ∃ p r, A p ∧ p ≠ List.replicate m 0 ∧ Star m A r ∧ row = pl r p := by
  induction s with
  | zero => exact .inl rfl
  | @add r a ha s ih =>
    by_cases c : a = List.replicate m 0
    · rw [c, pl_zero (s.len hA)]
      exact ih
    · exact .inr ⟨a, r, ha, c, s, rfl⟩
theorem nz_of {m : Nat} {p : Row} (hl : p.length = m) (h : p ≠ List.replicate m 0) : nzR p = true := by
  cases z : nzR p with
  | true => rfl
  | false => exact absurd (nz_zero hl z) h
theorem star_rows {m : Nat} {ls : List Ln} (h : ∀ l ∈ ls, LnA m l) {rest : List Row} (eg : gridR 7 m = List.replicate m 0 :: rest) : ∀ i, i ≤ rest.length → ∀ row, row ∈ starRowsR ((gridR 7 m).filter (hasR ls)) (List.replicate m 0) (rest.take i) ↔ row ∈ List.replicate m 0 :: rest.take i ∧ Star m (InS m ls) row := by
  have lm : ∀ l ∈ ls, LnM m l := fun l hl => (h l hl).toLnM
  have hA := inS_len lm
  have asc := grid_asc m
  intro i
  induction i with
  | zero =>
    intro _ row
    show row ∈ [List.replicate m 0] ↔ row ∈ [List.replicate m 0] ∧ _
    rw [List.mem_singleton]
    exact ⟨fun e => ⟨e, by rw [e]; exact .zero⟩, fun e => e.1⟩
  | succ i ih =>
    intro hi row
    have hx : i < rest.length := by omega
    have ih := ih (by omega)
    have tk : rest.take (i + 1) = rest.take i ++ [rest[i]] := List.take_succ_eq_append_getElem hx
    have sp : gridR 7 m = (List.replicate m 0 :: rest.take i) ++ rest[i] :: rest.drop (i + 1) := by
      rw [eg, List.cons_append, ← List.drop_eq_getElem_cons hx, List.take_append_drop]
    have xg : rest[i] ∈ gridR 7 m := by rw [sp]; exact List.mem_append.mpr (.inr List.mem_cons_self)
    have gx := grid_in xg
    rw [sp] at asc
    obtain ⟨_, a2, a3⟩ := List.pairwise_append.mp asc
    have before : ∀ s, s ∈ gridR 7 m → dataLt (intsD s) (intsD rest[i]) = true → s ∈ List.replicate m 0 :: rest.take i := fun s hs hlt => by
      rw [sp] at hs
      rcases List.mem_append.mp hs with h1 | h1
      · exact h1
      · exfalso
        rcases List.mem_cons.mp h1 with e | h1
        · rw [e, lt_irr] at hlt
          cases hlt
        · have := (List.pairwise_cons.mp a2).1 s h1
          rw [lt_not this] at hlt
          cases hlt
    have hit : hitB (((gridR 7 m).filter (hasR ls)).filter fun p => !decide (p = List.replicate m 0)) (starRowsR ((gridR 7 m).filter (hasR ls)) (List.replicate m 0) (rest.take i)) rest[i] = true ↔ Star m (InS m ls) rest[i] := by
      rw [hit_iff]
      constructor
      · rintro ⟨p, hp, _, hs⟩
        obtain ⟨p1, _⟩ := List.mem_filter.mp hp
        obtain ⟨p1, p2⟩ := List.mem_filter.mp p1
        have pl' := (grid_in p1).1
        obtain ⟨_, st⟩ := (ih _).mp hs
        have sl := st.len hA
        have e := (subr_eq gx.1 pl' sl).mp rfl
        rw [e, pl_comm pl' sl]
        exact .add ((has_iff (fun l hl => (h l hl).toLnN) pl').mp p2) st
      · intro st
        rcases star_last hA st with e | ⟨p, r, ap, pz, sr, e⟩
        · exfalso
          have := a3 _ List.mem_cons_self _ List.mem_cons_self
          rw [e, lt_irr] at this
          cases this
        · have lp := hA p ap
          have lr := sr.len hA
          obtain ⟨gr, gp⟩ := part_in gx lr lp (star_nn h sr) (inS_nn h ap) e
          have es : Sq.subr rest[i] p = r := (subr_eq gx.1 lp lr).mpr (by rw [e, pl_comm lr lp])
          refine ⟨p, List.mem_filter.mpr ⟨List.mem_filter.mpr ⟨grid_has m p gp, (has_iff (fun l hl => (h l hl).toLnN) lp).mpr ap⟩, by rw [decide_eq_false pz]; rfl⟩, ?_, ?_⟩
          · rw [ge_iff gx.1 lp, es]
            exact star_nn h sr
          · rw [es]
            refine (ih r).mpr ⟨before r (grid_has m r gr) ?_, sr⟩
            rw [← es]
            exact less_lt (by rw [gx.1, lp]) (inS_nn h ap) (nz_of lp pz)
    have fold : starRowsR ((gridR 7 m).filter (hasR ls)) (List.replicate m 0) (rest.take (i + 1)) = if hitB (((gridR 7 m).filter (hasR ls)).filter fun p => !decide (p = List.replicate m 0)) (starRowsR ((gridR 7 m).filter (hasR ls)) (List.replicate m 0) (rest.take i)) rest[i] = true then starRowsR ((gridR 7 m).filter (hasR ls)) (List.replicate m 0) (rest.take i) ++ [rest[i]] else starRowsR ((gridR 7 m).filter (hasR ls)) (List.replicate m 0) (rest.take i) := by
      rw [tk]
      unfold starRowsR
      rw [List.foldl_append]
      rfl
    rw [fold, tk, ← List.cons_append, List.mem_append, List.mem_singleton]
    by_cases c : Star m (InS m ls) rest[i]
    · rw [if_pos (hit.mpr c), List.mem_append, List.mem_singleton, ih]
      constructor
      · rintro (⟨h1, h2⟩ | rfl)
        · exact ⟨.inl h1, h2⟩
        · exact ⟨.inr rfl, c⟩
      · rintro ⟨h1 | rfl, h2⟩
        · exact .inl ⟨h1, h2⟩
        · exact .inr rfl
    · rw [if_neg (fun e => c (hit.mp e)), ih]
      constructor
      · rintro ⟨h1, h2⟩
        exact ⟨.inl h1, h2⟩
      · rintro ⟨h1 | rfl, h2⟩
        · exact ⟨h1, h2⟩
        · exact absurd h2 c
end St
end Ws
/-! ## N25 -/
/-! what is told of the lines that are drawn -/
namespace Ws
open PySem PySem.Spec PyProof.Rows L2
theorem setW_cn {ls : List Ln} (n : ∀ l ∈ ls, (ul l.2).length ≤ 12) (h : ls.length ≤ 400) : setW ls = .ok (cnL ls) := setW_ok (fun f hf => by
  obtain ⟨l, hl, rfl⟩ := List.mem_map.mp hf
  exact n l hl) rfl (by
  have := (cnf_canon knd_ln (ls.map cl)).le
  rw [List.length_map] at this
  exact Nat.le_trans this h)
/-- small lines -/
structure Few (m t r : Nat) (l : Ln) : Prop where
  b : l.1.length = m
  bb : ∀ x ∈ l.1, 0 ≤ x ∧ x ≤ (t : Int)
  p : ∀ p ∈ l.2, p.length = m ∧ ∀ x ∈ p, 0 ≤ x ∧ x ≤ 2
  n : l.2.length ≤ r
theorem addk_few {m s t : Nat} {x y : Sq.Row} (h1 : x.length = m) (h2 : y.length = m) (b1 : ∀ z ∈ x, 0 ≤ z ∧ z ≤ (s : Int)) (b2 : ∀ z ∈ y, 0 ≤ z ∧ z ≤ (t : Int)) : (Sq.addk x y 1).length = m ∧ ∀ z ∈ Sq.addk x y 1, 0 ≤ z ∧ z ≤ ((s + t : Nat) : Int) := by
  have hl := St.len_pl h1 h2
  refine ⟨hl, fun z hz => ?_⟩
  obtain ⟨i, hi, rfl⟩ := List.getElem_of_mem hz
  have im : i < m := by have : (Sq.addk x y 1).length = m := hl; omega
  have ix : i < x.length := by omega
  have iy : i < y.length := by omega
  have e := St.get_pl h1 h2 im
  have e0 : (St.pl x y).getD i 0 = (Sq.addk x y 1)[i] := by
    rw [List.getD_eq_getElem?_getD, show (St.pl x y)[i]? = some ((Sq.addk x y 1)[i]) from List.getElem?_eq_getElem hi]
    rfl
  have e1 : x.getD i 0 = x[i] := by rw [List.getD_eq_getElem?_getD, List.getElem?_eq_getElem ix]; rfl
  have e2 : y.getD i 0 = y[i] := by rw [List.getD_eq_getElem?_getD, List.getElem?_eq_getElem iy]; rfl
  rw [e0, e1, e2] at e
  have := b1 _ (List.getElem_mem ix)
  have := b2 _ (List.getElem_mem iy)
  omega
theorem SmLn.few {m r : Nat} {l : Ln} (h : SmLn m r l) : Few m 2 r l := ⟨h.ok.bl, fun x hx => by have := h.b3 x hx; have := h.ok.bb x hx; omega, fun p hp => ⟨(h.ok.pl p hp).1, fun x hx => by have := h.p3 p hp x hx; have := (h.ok.pl p hp).2 x hx; omega⟩, h.n⟩
theorem Few.lnM {m t r : Nat} {l : Ln} (h : Few m t r l) : St.LnM m l := ⟨h.b, fun p hp => (h.p p hp).1⟩
theorem Few.cl {m t r : Nat} {l : Ln} (h : Few m t r l) (ht : t ≤ 100) (hr : r ≤ 6) : St.LnA m (Ws.cl l) ∧ OkLn m (Ws.cl l) ∧ (Ws.cl l).2.length ≤ 6 := by
  have u := ul_unl l.2
  have ul := u.le
  have n := h.n
  have pm : ∀ p ∈ (Ws.cl l).2, (p.length = m ∧ ∀ x ∈ p, 0 ≤ x ∧ x ≤ 2) ∧ nzR p = true := fun p hp => ⟨h.p p ((u.mem p).mp hp).1, ((u.mem p).mp hp).2⟩
  exact ⟨⟨⟨⟨h.b, fun p hp => (pm p hp).1.1⟩, fun p hp => ⟨fun x hx => ((pm p hp).1.2 x hx).1, (pm p hp).2⟩⟩, fun x hx => (h.bb x hx).1⟩, ⟨h.b, fun x hx => by have := h.bb x hx; omega, fun p hp => ⟨(pm p hp).1.1, fun x hx => by have := (pm p hp).1.2 x hx; omega⟩, by show (Ws.ul l.2).length ≤ 16; omega⟩, by show (Ws.ul l.2).length ≤ 6; omega⟩
theorem cn_in {m : Nat} {ls : List Ln} {P : Ln → Prop} (h : ∀ l ∈ ls, P (cl l)) : ∀ l ∈ cnL ls, P l := fun l hl => by
  obtain ⟨x, hx, rfl⟩ := List.mem_map.mp (((cnf_canon knd_ln (ls.map cl)).mem l).mp hl)
  exact h x hx
theorem cn_len (ls : List Ln) : (cnL ls).length ≤ ls.length := by
  have := (cnf_canon knd_ln (ls.map cl)).le
  rw [List.length_map] at this
  exact this
theorem LsOk.few {m : Nat} {ls : List Ln} (o : LsOk m ls) : ∃ r, r ≤ 2 ∧ (∀ l ∈ ls, Few m 2 r l) ∧ ls.length * (r + 1) ≤ 6 := by
  obtain ⟨r, r2, ln, b⟩ := o.ln
  exact ⟨r, r2, fun l hl => (ln l hl).few, b⟩
theorem LsOk.few2 {m : Nat} {ls : List Ln} (o : LsOk m ls) : ∀ l ∈ ls, Few m 2 2 l := fun l hl => by
  obtain ⟨r, r2, h, _⟩ := o.few
  have := h l hl
  exact ⟨this.b, this.bb, this.p, Nat.le_trans this.n r2⟩
theorem prods_few {m : Nat} {a b : List Ln} (ha : ∀ l ∈ a, Few m 2 2 l) (hb : ∀ l ∈ b, Few m 2 2 l) : ∀ l ∈ prods a b, Few m 4 4 l := fun l hl => by
  obtain ⟨x, hx, hl⟩ := List.mem_flatMap.mp hl
  obtain ⟨y, hy, rfl⟩ := List.mem_map.mp hl
  have fx := ha x hx
  have fy := hb y hy
  obtain ⟨h1, h2⟩ := addk_few fx.b fy.b fx.bb fy.bb
  refine ⟨h1, h2, fun p hp => (List.mem_append.mp hp).elim (fx.p p) (fy.p p), ?_⟩
  show (x.2 ++ y.2).length ≤ 4
  rw [List.length_append]
  have := fx.n
  have := fy.n
  omega
theorem fold_few {m r : Nat} {ls : List Ln} (h : ∀ l ∈ ls, Few m 2 r l) : ∀ (c : List Int) (t : Nat) (acc : Ln), Few m (2 * t) ((r + 1) * t) acc → (∀ k ∈ c, ∃ j : Nat, j < ls.length ∧ k = (j : Int)) → Few m (2 * (t + c.length)) ((r + 1) * (t + c.length)) (c.foldl (stL ls) acc)
  | [], t, acc, a, _ => a
  | k :: c, t, acc, a, hk => by
    obtain ⟨j, hj, rfl⟩ := hk k List.mem_cons_self
    have fl := h _ (List.getElem_mem hj)
    have st : Few m (2 * (t + 1)) ((r + 1) * (t + 1)) (stL ls acc (j : Int)) := by
      unfold stL
      rw [St.getD_at' hj]
      obtain ⟨h1, h2⟩ := addk_few a.b fl.b a.bb fl.bb
      refine ⟨h1, fun x hx => by have := h2 x hx; omega, fun p hp => ?_, ?_⟩
      · rcases List.mem_append.mp hp with h3 | h3
        · exact (List.mem_append.mp h3).elim (a.p p) (fl.p p)
        · rw [List.mem_singleton.mp h3]
          exact ⟨fl.b, fl.bb⟩
      · show (acc.2 ++ (ls[j]).2 ++ [(ls[j]).1]).length ≤ _
        rw [List.length_append, List.length_append, List.length_singleton]
        have := a.n
        have := fl.n
        rw [Nat.mul_succ]
        omega
    have := fold_few h c (t + 1) _ st fun k hk' => hk k (List.mem_cons_of_mem _ hk')
    rw [List.length_cons, Nat.add_comm c.length 1, ← Nat.add_assoc]
    exact this
theorem starL_few {m : Nat} {ls : List Ln} (o : LsOk m ls) : ∀ l ∈ starL m ls, Few m 6 6 l := fun l hl => by
  obtain ⟨r, r2, h, b⟩ := o.few
  have n3 := o.n
  have z : Few m (2 * 0) ((r + 1) * 0) (List.replicate m 0, []) := ⟨List.length_replicate, fun x hx => by rw [(List.mem_replicate.mp hx).2]; exact ⟨Int.le_refl 0, Int.le_refl 0⟩, fun p hp => absurd hp List.not_mem_nil, Nat.zero_le _⟩
  rcases List.mem_cons.mp hl with rfl | hl
  · exact ⟨z.b, fun x hx => by have := z.bb x hx; omega, z.p, Nat.zero_le _⟩
  · obtain ⟨c, hc, rfl⟩ := List.mem_map.mp hl
    obtain ⟨cl', cm⟩ := chc_in hc
    have := fold_few h c 0 _ z cm
    rw [Nat.zero_add] at this
    refine ⟨this.b, fun x hx => by have := this.bb x hx; omega, this.p, Nat.le_trans this.n ?_⟩
    rw [Nat.mul_comm]
    exact Nat.le_trans (Nat.mul_le_mul_right _ cl') b
theorem few_ul {m t r : Nat} {l : Ln} (h : Few m t r l) (hr : r ≤ 12) : (ul l.2).length ≤ 12 := Nat.le_trans (ul_unl _).le (Nat.le_trans h.n hr)
theorem few_bad {m t r : Nat} {l : Ln} (h : Few m t r l) (ht : t ≤ 100) (hr : r ≤ 12) : badLn l = none := bad_none (fun x hx => by have := h.bb x hx; omega) (few_ul h hr)
theorem union_is {m : Nat} {a b : List Ln} (ha : LsOk m a) (hb : LsOk m b) : unionF (setD m a) (setD m b) = .ok m (cnL (a ++ b)) := by
  rw [unionF_ok ha.set hb.set]
  unfold unionW
  have := ha.n
  have := hb.n
  rw [setW_cn (fun l hl => (List.mem_append.mp hl).elim (fun h => few_ul (ha.few2 l h) (by decide)) fun h => few_ul (hb.few2 l h) (by decide)) (by rw [List.length_append]; omega)]
  rfl
theorem sum_is {m : Nat} {a b : List Ln} (ha : LsOk m a) (hb : LsOk m b) : sumF (setD m a) (setD m b) = .ok m (cnL (prods a b)) := by
  have la := ha.n
  have lb := hb.n
  have l9 : a.length * b.length ≤ 3 * 3 := Nat.mul_le_mul la lb
  have pf := prods_few ha.few2 hb.few2
  rw [sumF_ok ha.set hb.set]
  unfold sumW
  rw [if_neg (by omega), find_none fun l hl => few_bad (pf l hl) (by decide) (by decide)]
  show ofSW m (setW (prods a b)) = _
  rw [setW_cn (fun l hl => few_ul (pf l hl) (by decide)) (by rw [prods_len]; omega)]
  rfl
theorem star_len {m : Nat} {ls : List Ln} (n : ls.length ≤ 3) : (starL m ls).length ≤ 8 := by
  show (_ :: _).length ≤ 8
  rw [List.length_cons, List.length_map, (chc_perm _).length_eq, sub_eq, List.length_map, List.length_range]
  have : 2 ^ ls.length ≤ 2 ^ 3 := Nat.pow_le_pow_right (by decide) n
  have : 0 < 2 ^ ls.length := Nat.two_pow_pos _
  omega
theorem star_is {m : Nat} {a : List Ln} (ha : LsOk m a) : starF (setD m a) = .ok m (cnL (starL m a)) := by
  have la := ha.n
  have sf := starL_few ha
  rw [starF_ok ha.set]
  unfold starW
  rw [if_neg (by omega), find_none fun l hl => few_bad (sf l (List.mem_cons_of_mem _ hl)) (by decide) (by decide)]
  show ofSW m (setW (starL m a)) = _
  rw [setW_cn (fun l hl => few_ul (sf l hl) (by decide)) (by have := star_len (m := m) la; omega)]
  rfl
/-! has, of the sets -/
theorem has_cn {m t r : Nat} {ls : List Ln} (h : ∀ l ∈ ls, Few m t r l) (ht : t ≤ 100) (hr : r ≤ 6) {row : Sq.Row} (rl : row.length = m) : hasR (cnL ls) row = true ↔ St.InS m ls row := by
  rw [St.has_iff (m := m) (fun l hl => (cn_in (m := m) (P := St.LnA m) (fun x hx => ((h x hx).cl ht hr).1) l hl).toLnN) rl, St.inS_cn fun l hl => (h l hl).lnM]
theorem lsA {m : Nat} {ls : List Ln} (o : LsOk m ls) : ∀ l ∈ ls, St.LnA m l := fun l hl => by
  obtain ⟨r, _, ln, _⟩ := o.ln
  have s := ln l hl
  exact ⟨⟨⟨s.ok.bl, fun p hp => (s.ok.pl p hp).1⟩, fun p hp => ⟨fun x hx => ((s.ok.pl p hp).2 x hx).1, s.nz p hp⟩⟩, fun x hx => (s.ok.bb x hx).1⟩
section
variable {m : Nat} {a b : List Ln} (ha : LsOk m a) (hb : LsOk m b) {row : Sq.Row} (hr : row ∈ gridR 7 m)
include ha hb hr
theorem has_union : hasR (cnL (a ++ b)) row = (decide (row ∈ (gridR 7 m).filter (hasR a)) || decide (row ∈ (gridR 7 m).filter (hasR b))) := by
  have rl := (St.grid_in hr).1
  rw [Bool.eq_iff_iff, has_cn (m := m) (t := 2) (r := 2) (fun l hl => (List.mem_append.mp hl).elim (ha.few2 l) (hb.few2 l)) (by decide) (by decide) rl, St.inS_app, Bool.or_eq_true, decide_eq_true_eq, decide_eq_true_eq, List.mem_filter, List.mem_filter, St.has_iff (m := m) (fun l hl => (lsA ha l hl).toLnN) rl, St.has_iff (m := m) (fun l hl => (lsA hb l hl).toLnN) rl]
  exact ⟨fun h => h.elim (fun h => .inl ⟨hr, h⟩) fun h => .inr ⟨hr, h⟩, fun h => h.elim (fun h => .inl h.2) fun h => .inr h.2⟩
theorem has_sums : hasR (cnL (prods a b)) row = decide (row ∈ sumsR ((gridR 7 m).filter (hasR a)) ((gridR 7 m).filter (hasR b)) (gridR 7 m)) := by
  have rl := (St.grid_in hr).1
  rw [Bool.eq_iff_iff, has_cn (m := m) (t := 4) (r := 4) (prods_few ha.few2 hb.few2) (by decide) (by decide) rl, decide_eq_true_eq, St.sums_iff (lsA ha) (lsA hb) hr]
end
theorem has_star {m : Nat} {a : List Ln} (ha : LsOk m a) {rest : List Sq.Row} (eg : gridR 7 m = List.replicate m 0 :: rest) {row : Sq.Row} (hr : row ∈ gridR 7 m) : hasR (cnL (starL m a)) row = decide (row ∈ starRowsR ((gridR 7 m).filter (hasR a)) (List.replicate m 0) rest) := by
  have rl := (St.grid_in hr).1
  have := St.star_rows (lsA ha) eg rest.length (Nat.le_refl _) row
  rw [List.take_length] at this
  rw [Bool.eq_iff_iff, has_cn (m := m) (t := 6) (r := 6) (starL_few ha) (by decide) (by decide) rl, decide_eq_true_eq, this, St.star_iff (fun l hl => (lsA ha l hl).toLnM) ha.n]
  rw [← eg]
  exact ⟨fun h => ⟨hr, h⟩, fun h => h.2⟩
end Ws
/-! ## Q25l -/
namespace Ws
open PySem PySem.Spec PyProof.Rows L2 RZ SD
section
variable {K : PySem.W.Frag} {H0 : Hp} {σ : L2.St} {BS TG BU : Addr}
theorem Lit.ix1 {te : TE} {a b : PyData} (h : Lit K H0 te σ (.tuple [a, b])) : Lit K H0 (tOp (rIxT K) te (tC (V.int 1))) σ b := fun H Q e q =>
  h H _ e fun H1 v e1 hv => by
    obtain ⟨p, ys, rfl, hp, hys⟩ := hv.tup_inv
    obtain ⟨x, y, rfl, h1, h2⟩ := hys.two
    exact ⟨p, [x, y], 1, y, rfl, rfl, hp, rfl, q _ _ e1 h2⟩
theorem Lit.union {t1 t2 : TE} {d1 d2 : PyData} {m : Nat} {out : List Ln} (h1 : Lit K H0 t1 σ d1) (h2 : Lit K H0 t2 σ d2) (e : unionF d1 d2 = .ok m out) : Lit K H0 (tCallS (spUnion K BS TG BU) (fun _ => E0) (tCons t1 (tCons t2 tNil))) σ (setD m out) := fun H Q e0 q =>
  h1 H _ e0 fun H1 x e1 hx => h2 H1 _ (e0.trans e1) fun H2 y e2 hy => by
    refine ⟨x, y, d1, d2, rfl, hx.to e2, hy, ?_⟩
    rw [e]
    exact fun H4 u e4 hu => q _ _ ((e1.trans e2).trans e4) hu
theorem Lit.sumOf {t1 t2 : TE} {d1 d2 : PyData} {m : Nat} {out : List Ln} (h1 : Lit K H0 t1 σ d1) (h2 : Lit K H0 t2 σ d2) (e : sumF d1 d2 = .ok m out) : Lit K H0 (tCallS (spSumOf K BS TG BU) (fun _ => E0) (tCons t1 (tCons t2 tNil))) σ (setD m out) := fun H Q e0 q =>
  h1 H _ e0 fun H1 x e1 hx => h2 H1 _ (e0.trans e1) fun H2 y e2 hy => by
    refine ⟨x, y, d1, d2, rfl, hx.to e2, hy, ?_⟩
    rw [e]
    exact fun H4 u e4 hu => q _ _ ((e1.trans e2).trans e4) hu
theorem Lit.star {t1 : TE} {d1 : PyData} {m : Nat} {out : List Ln} (h1 : Lit K H0 t1 σ d1) (e : starF d1 = .ok m out) : Lit K H0 (tCallS (spStar K BS TG BU) (fun _ => E0) (tCons t1 tNil)) σ (setD m out) := fun H Q e0 q =>
  h1 H _ e0 fun H1 x e1 hx => by
    refine ⟨x, d1, rfl, hx, ?_⟩
    rw [e]
    exact fun H4 u e4 hu => q _ _ (e1.trans e4) hu
theorem Lit.clean {te : TE} {m : Nat} {raw : List Ln} (h : Lit K H0 te σ (linesD raw)) (c : ClIn m raw) : Lit K H0 (tCa (spClean K) E0 (tCons te tNil)) σ (linesD (cnL raw)) := fun H Q e q =>
  h H _ e fun H1 v e1 hv => ⟨m, v, raw, rfl, .inl hv, c, fun H2 u e2 hu => q _ _ (e1.trans e2) hu⟩
theorem Lit.cleanL {te : TE} {m : Nat} {raw : List Ln} (h : Lit K H0 te σ (.list (raw.map lineD))) (c : ClIn m raw) : Lit K H0 (tCa (spClean K) E0 (tCons te tNil)) σ (linesD (cnL raw)) := fun H Q e q =>
  h H _ e fun H1 v e1 hv => ⟨m, v, raw, rfl, .inr hv, c, fun H2 u e2 hu => q _ _ (e1.trans e2) hu⟩
theorem Lit.ix0 {te : TE} {a b : PyData} (h : Lit K H0 te σ (.tuple [a, b])) : Lit K H0 (tOp (rIxT K) te (tC (V.int 0))) σ a := fun H Q e q =>
  h H _ e fun H1 v e1 hv => by
    obtain ⟨p, ys, rfl, hp, hys⟩ := hv.tup_inv
    obtain ⟨x, y, rfl, h1, h2⟩ := hys.two
    exact ⟨p, [x, y], 0, x, rfl, rfl, hp, rfl, q _ _ e1 h1⟩
theorem Lit.catL {t u : TE} {xs ys : List Ln} (h1 : Lit K H0 t σ (linesD xs)) (h2 : Lit K H0 u σ (linesD ys)) (hl : xs.length + ys.length ≤ 100000) : Lit K H0 (tOp (rCatZ K) t u) σ (linesD (xs ++ ys)) := by
  have := Lit.cat h1 h2 (by rw [List.length_map, List.length_map]; exact hl)
  rw [← List.map_append] at this
  exact this
theorem Lit.catR {t u : TE} {xs ys : List Sq.Row} (h1 : Lit K H0 t σ (rowsD xs)) (h2 : Lit K H0 u σ (rowsD ys)) (hl : xs.length + ys.length ≤ 100000) : Lit K H0 (tOp (rCatZ K) t u) σ (rowsD (xs ++ ys)) := by
  have := Lit.cat h1 h2 (by rw [List.length_map, List.length_map]; exact hl)
  rw [← List.map_append] at this
  exact this
theorem Lit.plus {t u : TE} {xs ys : List Int} (h1 : Lit K H0 t σ (intsD xs)) (h2 : Lit K H0 u σ (intsD ys)) (hl : xs.length ≤ 1000) : Lit K H0 (tCa (spPlus K) E0 (tCons t (tCons u tNil))) σ (intsD (Sq.addk xs ys 1)) := fun H Q e q =>
  h1 H _ e fun H1 v e1 hv => h2 H1 _ (e.trans e1) fun H2 x e2 hx => ⟨v, x, xs, ys, rfl, hv.to e2, hx, hl, fun H3 u e3 hu => q _ _ ((e1.trans e2).trans e3) hu⟩
theorem sq_par3 {i j l : Nat} {ta : TA} {u : TS} {D : Ends} {H : Hp} {d1 d2 d3 : PyData} (r : Lits K H ta σ [d1, d2, d3]) (k : ∀ H' v w x, Same H H' → Dp K H' v d1 → Dp K H' w d2 → Dp K H' x d3 → u D (((σ.set i (some v)).set j (some w)).set l (some x)) H') : tSeq (tPar3 i j l ta) u D σ H :=
  r H _ (Same.refl _) fun H' vs e hvs => by
    cases hvs with
    | cons h1 t => cases t with
      | cons h2 t => cases t with
        | cons h3 t => cases t; exact ⟨_, _, _, rfl, k _ _ _ _ e h1 h2 h3⟩
theorem sq_yes2 {t1 t2 : TE} {r u : TS} {D : Ends} {H : Hp} (h1 : Yes t1 σ H) (h2 : ∀ H', Same H H' → Yes t2 σ H') (k : ∀ H', Same H H' → u D σ H') : tSeq (tIfS (tOr (tNot (tB t1)) (tNot (tB t2))) r tNext) u D σ H :=
  h1 _ fun H1 e1 => ⟨true, rfl, h2 H1 e1 _ fun H2 e2 => ⟨true, rfl, k _ (e1.trans e2)⟩⟩
end
theorem Few.clL {m t r : Nat} {l : Ln} (h : Few m t r l) (hr : r ≤ 6) : ClL m l := ⟨fun p hp => ⟨(h.p p hp).1, fun x hx => ((h.p p hp).2 x hx).1⟩, by have := h.n; omega⟩
theorem clIn_few {m t r : Nat} {ls : List Ln} (m1 : 1 ≤ m) (h : ∀ l ∈ ls, Few m t r l) (hr : r ≤ 6) (n : ls.length ≤ 1000) : ClIn m ls := ⟨m1, fun l hl => (h l hl).clL hr, n⟩
theorem clIn_app {m : Nat} {a b : List Ln} (ha : LsOk m a) (hb : LsOk m b) : ClIn m (a ++ b) := clIn_few ha.m1 (t := 2) (r := 2) (fun l hl => (List.mem_append.mp hl).elim (ha.few2 l) (hb.few2 l)) (by decide) (by
  rw [List.length_append]
  have := ha.n
  have := hb.n
  omega)
theorem prods_le {m : Nat} {a b : List Ln} (ha : LsOk m a) (hb : LsOk m b) : (prods a b).length ≤ 9 := by
  rw [prods_len]
  exact Nat.mul_le_mul ha.n hb.n
theorem clIn_prods {m : Nat} {a b : List Ln} (ha : LsOk m a) (hb : LsOk m b) : ClIn m (prods a b) := clIn_few ha.m1 (prods_few ha.few2 hb.few2) (by decide) (by have := prods_le ha hb; omega)
theorem has_in {m t r : Nat} {ls : List Ln} (h : ∀ l ∈ ls, Few m t r l) (ht : t ≤ 100) (hr : r ≤ 6) : ∀ l ∈ cnL ls, OkLn m l ∧ l.2.length ≤ 6 := cn_in (m := m) (P := fun l => OkLn m l ∧ l.2.length ≤ 6) fun l hl => ((h l hl).cl ht hr).2
theorem sm_cn {m t r : Nat} {ls : List Ln} (h : ∀ l ∈ ls, Few m t r l) (ht : t ≤ 100) (hr : r ≤ 6) (hm : m ≤ 4) (n : ls.length ≤ 400) : Sm 130000 6 (setD m (cnL ls)) :=
  (sm_set (by omega) (fun l hl => (has_in h ht hr l hl).1.sm (by omega)) (Nat.le_trans (cn_len ls) n)).mono (Nat.le_refl _) (by decide)
theorem LsOk.hasIn {m : Nat} {a : List Ln} (o : LsOk m a) : ∀ l ∈ a, OkLn m l ∧ l.2.length ≤ 6 := fun l hl => by
  obtain ⟨r, r2, ln, _⟩ := o.ln
  exact ⟨(ln l hl).ok, Nat.le_trans (ln l hl).n (by omega)⟩
section
variable {K : PySem.W.Frag} {σ : L2.St}
theorem has_call {te : TE} {H : Hp} {Q : VK} {j m : Nat} {rv : V} {ls : List Ln} {row : Sq.Row} (h : Lit K H te σ (linesD ls)) (hv : σ[j]? = some (some rv)) (hd : Dp K H rv (intsD row)) (m4 : m ≤ 3) (m1 : 1 ≤ m) (hr : row ∈ gridR 7 m) (hl : ∀ l ∈ ls, OkLn m l ∧ l.2.length ≤ 6) (n : ls.length ≤ 1000)
    (k : ∀ H', Same H H' → Q (.bl (hasR ls row)) H') : tCa (spHasR K) E0 (tCons te (tCons (tVar j) tNil)) σ H Q :=
  h H _ (Same.refl _) fun H1 v e1 hv1 => ⟨rv, hv, v, rv, ls, row, m, rfl, hv1, hd.to e1, (St.grid_in hr).1, m1, by omega, fun x hx => by have := (St.grid_in hr).2 x hx; omega, hl, n, fun H2 e2 => k _ (e1.trans e2)⟩
theorem in_call {H : Hp} {Q : VK} {i j : Nat} {rv xv : V} {row : Sq.Row} {found : List Sq.Row} (h1 : σ[i]? = some (some rv)) (h2 : σ[j]? = some (some xv)) (d1 : Dp K H rv (intsD row)) (d2 : Dp K H xv (.list (found.map intsD))) (k : Q (.bl (decide (row ∈ found))) H) : tOp (rInD K) (tVar i) (tVar j) σ H Q := by
  have ea : ((found.map intsD).any fun z => PyData.eqv z (intsD row)) = decide (row ∈ found) := by
    rw [List.any_map, Bool.eq_iff_iff, List.any_eq_true, decide_eq_true_eq]
    constructor
    · rintro ⟨z, hz, h⟩
      have : PyData.eqv (intsD z) (intsD row) = true := h
      rw [eqv_ints, decide_eq_true_eq] at this
      exact this ▸ hz
    · exact fun h => ⟨row, h, by
        show PyData.eqv (intsD row) (intsD row) = true
        rw [eqv_ints, decide_eq_true_eq]⟩
  refine ⟨_, h1, _, h2, intsD row, found.map intsD, d1, d2, (SN.ints _).shaped (by decide), (SN.rowsLi found).shaped (by decide), ?_⟩
  rw [ea]
  exact k
/-- `if _law_has(..) != (row in ..): return False`, where both tell the same -/
theorem if_same {t1 t2 : TE} {r : TS} {D : Ends} {H : Hp} {b : Bool} (h1 : ∀ Q : VK, (∀ H', Same H H' → Q (.bl b) H') → t1 σ H Q) (h2 : ∀ (H1 : Hp) (Q : VK), Same H H1 → Q (.bl b) H1 → t2 σ H1 Q) (k : ∀ H', Same H H' → D.nx σ H') : tIfS (tTest (tOp rNe t1 t2)) r tNext D σ H :=
  h1 _ fun H1 e1 => h2 H1 _ e1 ⟨by cases b <;> rfl, !decide (V.bl b = V.bl b), rfl, by
    rw [decide_eq_true rfl]
    exact k _ e1⟩
theorem or_call {t1 t2 : TE} {H : Hp} {Q : VK} {a b : Bool} (h1 : ∀ Q : VK, Q (.bl a) H → t1 σ H Q) (h2 : ∀ Q : VK, Q (.bl b) H → t2 σ H Q) (k : Q (.bl (a || b)) H) : tOrV t1 t2 σ H Q :=
  h1 _ ⟨a, rfl, by
    cases a with
    | true => exact iteT k
    | false => exact iteF (h2 _ k)⟩
end
end Ws
/-! ## Q25m -/
namespace Ws
open PySem PySem.Spec PyProof.Rows L2 RZ SD
local macro_rules | `(tactic| walk_at "nf") => `(tactic| dsimp only [tNext, tSeq, tDrop, tRet, tRetN, tIfS, tAsg, gName, gTup, gCons, gNil, tVar, tC, tOp, tUn, rI, rI0, rU, rEq, rNe, tTest, tChain, tAnd, tOr, tNot, tAndV, tOrV, tNotV, tIf, tCB, tCKw, tCons, tNil, tTup, tLst, tCa, tCallS, tB, rIxT, rIxL, rIxS, cxOf, Cx.nox, Cx.wish, Cx.blk, L2.start, tPar, tPar3, tNever, tYes, tBits, tRz, tBM, rAppend, tyV, tXf, suiteEnds, gSub, rSetL, tBreak, rMax, tDGet, sDPut, tSl, tNoPart, tPart, tDisp, tPairs, tDGet2, tDNewK, tAugS, ipI, rGetL, tDIn, tDNotIn, tBM0, rPop])
local macro_rules | `(tactic| walk_at "sx") => `(tactic| simp only [wipe, List.cons.injEq, and_assoc, exists_and_left, and_true, List.map_cons, List.map_nil, List.length_cons, List.length_nil, List.cons_append, List.nil_append, List.append_nil, Nat.reduceAdd, Nat.reduceSub, List.replicate, List.getElem?_cons_zero, List.getElem?_cons_succ, List.set_cons_zero, List.set_cons_succ, Option.some.injEq, V.int.injEq, V.bl.injEq, V.ref.injEq, V.str.injEq, exists_eq_left', exists_eq_left, true_and, Bool.true_eq_false, Bool.false_eq_true, if_true, if_false])

local macro_rules | `(tactic| walk_at "qe") => `(tactic| repeat' first | exact Lit.int | exact Lit.str | exact Lit.non | exact Lit.bl | exact Lits.nil | exact Lit.var rfl (by assumption) | refine Lits.cons ?_ ?_ | refine Lit.tup ?_ (Nat.le_of_ble_eq_true rfl) | refine Lit.lst ?_ (Nat.le_of_ble_eq_true rfl))
def spLaw (K : PySem.W.Frag) : Sp := fun vs H Q _ => ∃ (p : Addr) (is : List Int), vs = [.ref p] ∧ SqL K H p (is.map V.int) ∧ is.length ≤ 1000 ∧ ∀ H', Q (.bl true) H'
abbrev s_law : Stmt := top 50
abbrev nm_law : List Str := ["script", "state", "many_so", "one", "other", "both", "starred", "base", "rows", "grid", "row", "firsts", "seconds", "together", "sums", "stars", "due_sums", "due_stars", "picks", "k", "line"]
abbrev pr_law : List Str := ["script"]
theorem sc_law : FnScope nm_law pr_law (defScope s_law) := ⟨rfl, rfl, rfl, by decide +kernel, rfl, by decide +kernel, by decide +kernel⟩
section
variable {P : Program} {w : World} {K : PySem.W.Frag} {mg : Str → Option Value} {base : Heap} {SA BS TG BU : Addr}
theorem comp_lines {tl te : TE} {σ : L2.St} {H : Hp} {Q : VK} {j : Nat} {vs : List Nat} {ls : List Ln} (f : Ln → Ln) (h : Lit K H tl σ (linesD ls)) (n : ls.length ≤ 1000) (w4 : ∀ y : V, wipe ((wipe σ vs).set j (some y)) vs = wipe σ vs)
    (ht : ∀ (y : V) (l : Ln) (H1 : Hp), l ∈ ls → Same H H1 → Dp K H1 y (lineD l) → Lit K H1 te ((wipe σ vs).set j (some y)) (lineD (f l)))
    (q : ∀ H' D ys, Same H H' → H' D = some (.lst ys) → DpAll K H' ys ((ls.map f).map lineD) → Q (.ref D) H') : tLc (iTup K tl) (gName j) tYes te vs σ H Q :=
  h H _ (Same.refl _) fun H1 v e1 hv => by
    obtain ⟨po, os, rfl, hpo, ha⟩ := hv.tup_inv
    have ol := ha.length
    rw [List.length_map] at ol
    refine ⟨po, rfl, ⟨os, hpo⟩, fun D hD => lcF (walk_tup (K := K) (a := po) (xs := os)) hD (by rw [ol, sizeLine_eq]; omega) (fun _ => true) (fun i y H => Dp K H y (lineD (f (ls.getD i ([], []))))) (fun i y H H' e n q => keepN e n n _ _ (noList_ln _) q) (fun H1 e => e.seqT hpo) (fun i x H2 H3 Q1 Q0 hi e2 y q1 q0 => ?_) (fun H2 ys e2 hy g => ?_)⟩
    · obtain ⟨rfl, hx⟩ := y
      obtain ⟨d, hd1, hd2⟩ := ha.getV hx
      rw [List.getElem?_map] at hd1
      obtain ⟨l, hl1, rfl⟩ := Option.map_eq_some_iff.mp hd1
      have er : ls.getD i ([], []) = l := by rw [List.getD_eq_getElem?_getD, hl1]; rfl
      rw [er] at q1
      exact ⟨w4 _, iteT (B := Q0 H3) (ht x l H3 (List.mem_of_getElem? hl1) (e1.trans e2) (hd2.to e2) _ _ (Same.refl _) fun H4 u e4 hu => q1 rfl _ _ hu e4)⟩
    · have hd := g.dp (fun i => lineD (f (ls.getD i ([], [])))) fun i y q => q
      rw [all_kept] at hd
      have em : (List.range os.length).map (fun i => lineD (f (ls.getD i ([], [])))) = (ls.map f).map lineD := by
        rw [ol]
        refine List.ext_getElem (by simp) fun i h1 h2 => ?_
        have : i < ls.length := by simpa using h1
        simp [List.getD_eq_getElem?_getD, List.getElem?_eq_getElem this]
      rw [em] at hd
      exact q _ _ ys (e1.trans e2) hy hd
theorem noList_setM (m : Nat) (ls : List Ln) : noList (setD m ls) = true := noListAll_of fun x hx => by
  rcases List.mem_cons.mp hx with rfl | hx
  · rfl
  · rw [List.mem_singleton.mp hx]
    exact noList_linesD ls
theorem sq_same {K : PySem.W.Frag} {σ : L2.St} {t1 t2 : TE} {r u : TS} {D : Ends} {H : Hp} {b : Bool} (h1 : ∀ Q : VK, (∀ H', Same H H' → Q (.bl b) H') → t1 σ H Q) (h2 : ∀ (H1 : Hp) (Q : VK), Same H H1 → Q (.bl b) H1 → t2 σ H1 Q) (k : ∀ H', Same H H' → u D σ H') : tSeq (tIfS (tTest (tOp rNe t1 t2)) r tNext) u D σ H := if_same h1 h2 k
theorem fun_okG {x : Str} {st : Stmt} {f : Addr} {fd : FuncData} {N ps : List Str} {k : Nat} {sp : Sp} (F : Fun K x x st f fd) (S : FnScope N ps (defScope st)) (len : ∀ vs H Q E, sp vs H Q E → vs.length = ps.length)
    (hbody : ∀ (cdv : Value) (A : Around) (outer : List Env) (s : Shared) (H : Hp) (vs : List V) (Q : VK) (E : XK), A.guards = some [] → Room k (A.deeper (envOfC x (defScope st) s.heap.objs.size f cdv)) → sp vs H Q E →
      ∃ t, PSs (cxOf CX0 P w K mg base N x (defScope st) f cdv A outer s H E).nox (defBody st) t ∧ t { nx := fun _ H' => Q .non H', rt := Q } (start N vs) H) : FnOkG P w K mg base CX0 (k + 1) f fd ps sp := by
  obtain ⟨oc, od, kV, doc, pm, an, cdv, ct, osl, rfl, lk, hcd⟩ := F.ex
  exact fn_ofG lk hcd S len fun A outer s H vs Q E hg hr hsp => let ⟨t, h, q⟩ := hbody cdv A outer s H vs Q E hg hr hsp; ⟨t, h.nox, q⟩
theorem ok_law (B : Bl mg) (FU : DfG P w K mg base CX0 10 "_law_unions_right" pr__law_unions_right (spUnionsR K)) (FG : DfG P w K mg base CX0 10 "_law_great_right" pr__law_great_right (spGreatR K)) (FB : Df P w K mg base CX0 1 "_law_begin" pr__law_begin (spBegin K)) (F0 : Df P w K mg base CX0 2 "_law_draw" pr__law_draw spDrawW) (FLn : Df P w K mg base CX0 4 "_law_lines" pr__law_lines (spLines K)) (FRf : DfG P w K mg base CX0 10 "_law_refusals_right" pr__law_refusals_right (spRefR K)) (FSl : Df P w K mg base CX0 2 "_law_star_lines" pr__law_star_lines (spStarLines K)) (FP : Df P w K mg base CX0 1 "_law_plus" pr__law_plus (spPlus K)) (FL : DfG P w K mg base CX0 1 "_law_like" pr__law_like (spLike K)) (FC : Df P w K mg base CX0 1 "_law_clean" pr__law_clean (spClean K)) (FGr : Df P w K mg base CX0 1 "_law_grid" pr__law_grid (spGrid K)) (FH : Df P w K mg base CX0 9 "_law_has" pr__law_has (spHasR K)) (FSm : Df P w K mg base CX0 2 "_law_sums" pr__law_sums (spSums K)) (FSr : Df P w K mg base CX0 2 "_law_star_rows" pr__law_star_rows (spStarRows K)) (P1 : Df P w K mg base (L2.CX P w) 8 "union" pr_union (spUnion K BS TG BU)) (P2 : Df P w K mg base (L2.CX P w) 8 "sum_of" pr_sum_of (spSumOf K BS TG BU)) (P3 : Df P w K mg base (L2.CX P w) 7 "star" pr_star (spStar K BS TG BU)) {f : Addr} {fd : FuncData} (D : Fun K "law" "law" s_law f fd) :
    FnOkG P w K mg base CX0 11 f fd pr_law (spLaw K) := by
  refine fun_okG D sc_law (fun vs H Q E h => ?_) (fun cdv A outer s H vs Q E hG hr h => ?_)
  · obtain ⟨p, is, rfl, _⟩ := h
    rfl
  · obtain ⟨p, is, rfl, hs, hl, k⟩ := h
    refine ⟨_, (pss_cons (ps_if (PW.pt (pw_or (pt_not (pt_val (pe_fG0 FU hG (hr.mono (by decide)) pass0 pa_nil))) (pw_or1 (pt_not (pt_val (pe_fG0 FG hG (hr.mono (by decide)) pass0 pa_nil)))))) (pss_one (ps_ret pe_bl)) pss_nil) (pss_cons (ps_set (i := 1) sc_law.nd rfl (Or.inr rfl) (pe_f FB (hr.mono (by decide)) pass0 (pa_cons (pv 0) pa_nil))) (pss_cons (ps_set (i := 2) sc_law.nd rfl (Or.inl rfl) (pe_op op_add pe_int (pe_f F0 (hr.mono (by decide)) pass0 (pa_cons (pv 1) (pa_cons pe_int pa_nil))))) (pss_cons (ps_asg (pe_tup (pa_cons (pe_f FLn (hr.mono (by decide)) pass0 (pa_cons (pv 1) (pa_cons (pv 2) pa_nil))) (pa_cons (pe_f FLn (hr.mono (by decide)) pass0 (pa_cons (pv 1) (pa_cons (pv 2) pa_nil))) pa_nil))) (pg_tup rfl (pgs_cons (pg_name (i := 3) sc_law.nd rfl (Or.inr rfl)) (pgs_cons (pg_name (i := 4) sc_law.nd rfl (Or.inr rfl)) pgs_nil)))) (pss_cons (ps_if (pt_not (pt_val (pe_fG FRf hG (hr.mono (by decide)) pass0 (pa_cons (pv 1) (pa_cons (pv 3) pa_nil))))) (pss_one (ps_ret pe_bl)) pss_nil) (pss_cons (ps_par (i := 5) (j := 6) (by rfl) sc_law.nd rfl rfl (by decide) rfl rfl (pa_cons (pe_lst pa_nil) (pa_cons (pe_f FSl (hr.mono (by decide)) pass0 (pa_cons (pv 3) pa_nil)) pa_nil)) (by rfl)) (pss_cons (ps_for PassesOwn.never rfl (pi_tup (pe_ix (show IxR _ (rIxT K) from ix_tup) (pv 3) pe_int (fun _ _ => rfl))) (pg_tup rfl (pgs_cons (pg_name (i := 7) sc_law.nd rfl (Or.inr rfl)) (pgs_cons (pg_name (i := 8) sc_law.nd rfl (Or.inr rfl)) pgs_nil))) (pss_one (ps_set (i := 5) sc_law.nd rfl (Or.inl rfl) (pe_op op_cat (pv 5) (pe_lc (own := [("line", 20)]) (g := gName 20) (tt := tYes) (by rfl) sc_law.nd (pi_tup (pe_ix (show IxR _ (rIxT K) from ix_tup) (pv 4) pe_int (fun _ _ => rfl))) (blkOk_by (own := [("line", 20)]) (N := nm_law) (sc := defScope s_law) (by decide +kernel)) (fun _ _ _ _ _ => pg_name (i := 20) sc_law.nd rfl (Or.inl rfl)) (fun _ _ _ _ _ => pts_nil) (fun _ _ _ _ _ => (pe_tup (pa_cons (pe_f FP (hr.mono (by decide)) pass0 (pa_cons (pv 7) (pa_cons (pe_ix (show IxR _ (rIxT K) from ix_tup) (pv 20) pe_int (fun _ _ => rfl)) pa_nil))) (pa_cons (pe_op (show OpR _ _ (rCatZ K) from op_catZ) (pv 8) (pe_ix (show IxR _ (rIxT K) from ix_tup) (pv 20) pe_int (fun _ _ => rfl))) pa_nil))))))))) (pss_cons (ps_if (pt_not (pt_val (pe_fG FL hG (hr.mono (by decide)) pass0 (pa_cons (pe_fS (E := fun _ => E0) P1 (hr.mono (by decide)) (fun σ => passAt takes0 σ) (pa_cons (pv 3) (pa_cons (pv 4) pa_nil))) (pa_cons (pe_tup (pa_cons (pv 2) (pa_cons (pe_f FC (hr.mono (by decide)) pass0 (pa_cons (pe_op (show OpR _ _ (rCatZ K) from op_catZ) (pe_ix (show IxR _ (rIxT K) from ix_tup) (pv 3) pe_int (fun _ _ => rfl)) (pe_ix (show IxR _ (rIxT K) from ix_tup) (pv 4) pe_int (fun _ _ => rfl))) pa_nil)) pa_nil))) pa_nil))))) (pss_one (ps_ret pe_bl)) pss_nil) (pss_cons (ps_if (pt_not (pt_val (pe_fG FL hG (hr.mono (by decide)) pass0 (pa_cons (pe_fS (E := fun _ => E0) P2 (hr.mono (by decide)) (fun σ => passAt takes0 σ) (pa_cons (pv 3) (pa_cons (pv 4) pa_nil))) (pa_cons (pe_tup (pa_cons (pv 2) (pa_cons (pe_f FC (hr.mono (by decide)) pass0 (pa_cons (pv 5) pa_nil)) pa_nil))) pa_nil))))) (pss_one (ps_ret pe_bl)) pss_nil) (pss_cons (ps_if (pt_not (pt_val (pe_fG FL hG (hr.mono (by decide)) pass0 (pa_cons (pe_fS (E := fun _ => E0) P3 (hr.mono (by decide)) (fun σ => passAt takes0 σ) (pa_cons (pv 3) pa_nil)) (pa_cons (pe_tup (pa_cons (pv 2) (pa_cons (pv 6) pa_nil))) pa_nil))))) (pss_one (ps_ret pe_bl)) pss_nil) (pss_cons (ps_set (i := 9) sc_law.nd rfl (Or.inr rfl) (pe_f FGr (hr.mono (by decide)) pass0 (pa_cons (pv 2) (pa_cons pe_int pa_nil)))) (pss_cons (ps_setLc (i := 11) (own := [("row", 10)]) (g := gName 10) (tt := _) rfl sc_law.nd rfl rfl (sw_true rfl rfl rfl (by decide +kernel)) (pi_list (pv 9)) (blkOk_by (own := [("row", 10)]) (N := nm_law) (sc := defScope s_law) (by decide +kernel)) (fun _ _ _ _ _ => pg_name (i := 10) sc_law.nd rfl (Or.inl rfl)) (fun _ _ _ _ _ => (pts_one (pt_val (pe_f FH (hr.mono (by decide)) pass0 (pa_cons (pe_ix (show IxR _ (rIxT K) from ix_tup) (pv 3) pe_int (fun _ _ => rfl)) (pa_cons (pv 10) pa_nil)))))) (fun _ _ _ _ _ => (pv 10))) (pss_cons (ps_setLc (i := 12) (own := [("row", 10)]) (g := gName 10) (tt := _) rfl sc_law.nd rfl rfl (sw_true rfl rfl rfl (by decide +kernel)) (pi_list (pv 9)) (blkOk_by (own := [("row", 10)]) (N := nm_law) (sc := defScope s_law) (by decide +kernel)) (fun _ _ _ _ _ => pg_name (i := 10) sc_law.nd rfl (Or.inl rfl)) (fun _ _ _ _ _ => (pts_one (pt_val (pe_f FH (hr.mono (by decide)) pass0 (pa_cons (pe_ix (show IxR _ (rIxT K) from ix_tup) (pv 4) pe_int (fun _ _ => rfl)) (pa_cons (pv 10) pa_nil)))))) (fun _ _ _ _ _ => (pv 10))) (pss_cons (ps_par3 (i := 13) (j := 14) (l := 15) rfl sc_law.nd rfl rfl rfl (by decide) (by decide) (by decide) rfl rfl rfl (pa_cons (pe_ix ix_tup (pe_fS (E := fun _ => E0) P1 (hr.mono (by decide)) (fun σ => passAt takes0 σ) (pa_cons (pv 3) (pa_cons (pv 4) pa_nil))) pe_int (fun _ _ => rfl)) (pa_cons (pe_ix ix_tup (pe_fS (E := fun _ => E0) P2 (hr.mono (by decide)) (fun σ => passAt takes0 σ) (pa_cons (pv 3) (pa_cons (pv 4) pa_nil))) pe_int (fun _ _ => rfl)) (pa_cons (pe_ix ix_tup (pe_fS (E := fun _ => E0) P3 (hr.mono (by decide)) (fun σ => passAt takes0 σ) (pa_cons (pv 3) pa_nil)) pe_int (fun _ _ => rfl)) pa_nil))) (by rfl)) (pss_cons (ps_par (i := 16) (j := 17) (by rfl) sc_law.nd rfl rfl (by decide) rfl rfl (pa_cons (pe_f FSm (hr.mono (by decide)) pass0 (pa_cons (pv 11) (pa_cons (pv 12) (pa_cons (pv 9) pa_nil)))) (pa_cons (pe_f FSr (hr.mono (by decide)) pass0 (pa_cons (pv 11) (pa_cons (pv 9) pa_nil))) pa_nil)) (by rfl)) (pss_cons (ps_for PassesOwn.never rfl (pi_list (pv 9)) (pg_name (i := 10) sc_law.nd rfl (Or.inl rfl)) (pss_cons (ps_if (pt_cmpR op_ne (pe_f FH (hr.mono (by decide)) pass0 (pa_cons (pv 13) (pa_cons (pv 10) pa_nil))) (pe_or (pe_cmpR (op_inD (hu65 hr)) (pv 10) (pv 11) (by rfl)) (pe_one (pe_cmpR (op_inD (hu65 hr)) (pv 10) (pv 12) (by rfl)))) (nomark _)) (pss_one (ps_ret pe_bl)) pss_nil) (pss_one (ps_if (pt_cmpR op_ne (pe_f FH (hr.mono (by decide)) pass0 (pa_cons (pv 14) (pa_cons (pv 10) pa_nil))) (pe_cmpR (op_inD (hu65 hr)) (pv 10) (pv 16) (by rfl)) (nomark _)) (pss_one (ps_ret pe_bl)) pss_nil)))) (pss_cons (ps_setLc (i := 18) (own := [("k", 19)]) (g := gName 19) (tt := tYes) rfl sc_law.nd rfl rfl (sw_true rfl rfl rfl (by decide +kernel)) (pi_range1 (by rfl) B.range (pa_cons pe_int pa_nil)) (blkOk_by (own := [("k", 19)]) (N := nm_law) (sc := defScope s_law) (by decide +kernel)) (fun _ _ _ _ _ => pg_name (i := 19) sc_law.nd rfl (Or.inl rfl)) (fun _ _ _ _ _ => pts_nil) (fun _ _ _ _ _ => (pe_f F0 (hr.mono (by decide)) pass0 (pa_cons (pv 1) (pa_cons (pe_callB (show CallR _ (.builtin "len") (fun xs H Q => ∃ p ys, xs = [V.ref p] ∧ (SqL K H p ys ∨ SqT K H p ys) ∧ Q (V.int (ys.length : Nat)) H) from call_len_seq) (by rfl) B.len PySem.boot_len (pa_cons (pv 9) pa_nil)) pa_nil))))) (pss_cons (ps_for PassesOwn.never rfl (pi_list (pe_lc (own := [("k", 19)]) (g := gName 19) (tt := tYes) (by rfl) sc_law.nd (pi_list (pv 18)) (blkOk_by (own := [("k", 19)]) (N := nm_law) (sc := defScope s_law) (by decide +kernel)) (fun _ _ _ _ _ => pg_name (i := 19) sc_law.nd rfl (Or.inl rfl)) (fun _ _ _ _ _ => pts_nil) (fun _ _ _ _ _ => (pe_ix (show IxR _ (rIxL K) from ix_list) (pv 9) (pv 19) (fun _ _ => rfl))))) (pg_name (i := 10) sc_law.nd rfl (Or.inl rfl)) (pss_one (ps_if (pt_cmpR op_ne (pe_f FH (hr.mono (by decide)) pass0 (pa_cons (pv 15) (pa_cons (pv 10) pa_nil))) (pe_cmpR (op_inD (hu65 hr)) (pv 10) (pv 17) (by rfl)) (nomark _)) (pss_one (ps_ret pe_bl)) pss_nil))) (pss_one (ps_ret pe_bl)))))))))))))))))))), ?_⟩
    dsimp only [cxOf, Cx.nox, L2.start]
    refine sq_yes2 (fun Q q => ⟨rfl, fun H' e => q _ e⟩) (fun H0 e0 Q q => ⟨rfl, fun H' e => q _ e⟩) fun H0 e0 => ?_
    refine sq_go ⟨_, rfl, p, is, rfl, e0.seq hs, hl, fun H1 a l c e1 s1 => ?_⟩
    refine sq_go ⟨_, rfl, a, l, c, _, 2, rfl, s1, by omega, by decide, by decide, fun H2 r e2 s2 r1 r2 => ⟨_, _, rfl, rfl, ?_⟩⟩
    obtain ⟨r, rfl⟩ : ∃ j : Nat, r = (j : Nat) := ⟨r.toNat, by omega⟩
    have em : (1 : Int) + (r : Nat) = ((1 + r : Nat) : Int) := by omega
    dsimp only
    rw [em]
    have m2 : 1 + r ≤ 2 := by omega
    have m1 : 1 ≤ 1 + r := by omega
    generalize 1 + r = m at *
    refine sq_as ⟨_, rfl, _, rfl, a, l, c, _, m, rfl, s2, by omega, m1, by omega, fun H3 ov one e3 s3 ho3 lo => ⟨_, rfl, _, rfl, a, l, c, _, m, rfl, s3, by omega, m1, by omega, fun H4 tv other e4 s4 ht4 lt => ⟨Nat.le_of_ble_eq_true rfl, fun t0 ht0 => ?_⟩⟩⟩
    have n5 := Same.new (o := HO.tup [ov, tv]) ht0
    have ho5 := (keepT e4 s3 _ _ (noList_setM m one) ho3).to n5
    have ht5 := ht4.to n5
    have s5 := s4.same n5
    have hT : SqT K (upd H4 t0 (HO.tup [ov, tv])) t0 [ov, tv] := .of upd_same
    generalize upd H4 t0 (HO.tup [ov, tv]) = H5 at *
    refine ⟨t0, _, rfl, hT, rfl, _, _, rfl, _, _, rfl, rfl, ?_⟩
    refine sq_if0 ⟨_, rfl, _, rfl, a, l, c, _, m, _, one, rfl, s5, by omega, ho5, lo, by omega, fun H6 e6 s6 => ⟨true, rfl, iteF ?_⟩⟩
    have ho6 := keepT e6 s5 _ _ (noList_setM m one) ho5
    have ht6 := keepT e6 s5 _ _ (noList_setM m other) ht5
    have l8 : one.length ≤ 8 := Nat.le_trans lo.n (by decide)
    show tSeq (tPar _ _ _) _ _ _ _
    refine ⟨Nat.le_of_ble_eq_true rfl, fun b0 hb0 => ⟨_, rfl, m, _, one, rfl, ho6.to (Same.new hb0), lo.is, l8, fun H7 sv e7a hsv => ⟨_, _, rfl, ?_⟩⟩⟩
    have e7 := (Same.new (o := HO.lst []) hb0).trans e7a
    obtain ⟨p1, u1, rfl, hp1, hu1⟩ := set_view (ho6.to e7)
    obtain ⟨q1, z1, rfl, hq1, hza⟩ := hu1.tup_inv
    have ho7 := ho6.to e7
    have ht7 := ht6.to e7
    have s7 := s6.same e7
    have hb7 : H7 b0 = some (.lst []) := e7a _ _ upd_same
    have on := lo.n
    have tn := lt.n
    have zl := hza.length
    rw [List.length_map] at zl
    dsimp only
    refine sq_fr ⟨_, rfl, p1, _, 1, _, rfl, rfl, hp1, rfl, q1, rfl, ⟨z1, hq1⟩, for_it (walk_tup (K := K) (a := q1) (xs := z1)) (fun i σ H' => Same H7 H' ∧ ∃ (bv : Addr) (ys : List V) (v7 v8 v20 : Option V), σ = [some (.ref p), some (.ref a), some (.int (m : Nat)), some (.ref p1), some tv, some (.ref bv), some sv, v7, v8, none, none, none, none, none, none, none, none, none, none, none, v20] ∧ H' bv = some (.lst ys) ∧ DpAll K H' ys ((prods (one.take i) other).map lineD)) ⟨Same.refl _, b0, [], _, _, _, rfl, hb7, .nil⟩ (fun i σ H' _ q => q.1.seqT hq1) (fun i x σ Hz H8 hi q y => ?_) (fun σ H8 q => ?_)⟩
    · obtain ⟨e8, bv, ys, v7, v8, v20, rfl, hbv, hys⟩ := q
      obtain ⟨rfl, hx⟩ := y
      obtain ⟨d, hd1, hd2⟩ := hza.getV hx
      rw [List.getElem?_map] at hd1
      obtain ⟨l1, hl1, rfl⟩ := Option.map_eq_some_iff.mp hd1
      obtain ⟨pl, b, u, rfl, hb, hu, hv⟩ := ln_v (hd2.to e8)
      have f1 := lo.few2 l1 (List.mem_of_getElem? hl1)
      have yl := hys.length
      have pn : (prods (one.take i) other).length ≤ 9 := by
        rw [prods_len]
        exact Nat.mul_le_mul (show (one.take i).length ≤ 3 by rw [List.length_take]; omega) tn
      rw [List.length_map] at yl
      dsimp only [gName]
      refine ⟨pl, _, rfl, hb, rfl, _, _, rfl, _, _, rfl, rfl, ?_⟩
      refine ⟨_, rfl, comp_lines (K := K) (fun y => (Sq.addk l1.1 y.1 1, l1.2 ++ y.2)) (Lit.ix1 (Lit.var rfl (ht7.to e8))) (by omega) (fun y => rfl) (fun y l2 H9 hl2 e9 hy => ?_) (fun H9 D zs e9 hD hzs => ?_)⟩
      · have f2 := lt.few2 l2 hl2
        refine Lit.tup (Lits.cons (Lit.plus (Lit.var rfl (hu.to e9)) (Lit.ix0 (Lit.var rfl hy)) (by rw [f1.b]; omega)) (Lits.cons (Lit.catR (Lit.var rfl (hv.to e9)) (Lit.ix1 (Lit.var rfl hy)) (by have := f1.n; have := f2.n; omega)) Lits.nil)) (Nat.le_of_ble_eq_true rfl)
      · have zsl := hzs.length
        rw [List.length_map, List.length_map] at zsl
        refine ⟨bv, D, ys, zs, rfl, rfl, e9 _ _ hbv, hD, by rw [sizeLine_eq]; omega, fun r hr => ?_⟩
        have nr := Same.new (o := HO.lst (ys ++ zs)) hr
        refine ⟨(e8.trans e9).trans nr, r, ys ++ zs, _, _, _, rfl, upd_same, ?_⟩
        have et : (prods (one.take (i + 1)) other).map lineD = (prods (one.take i) other).map lineD ++ (other.map fun y => (Sq.addk l1.1 y.1 1, l1.2 ++ y.2)).map lineD := by
          rw [take_succ_of hl1, ← List.map_append]
          unfold prods
          rw [List.flatMap_append, List.flatMap_singleton]
        rw [et]
        exact ((hys.to e9).to nr).append (hzs.to nr)
    · obtain ⟨e8, bv, ys, v7, v8, v20, rfl, hbv, hys⟩ := q
      rw [zl, List.take_length] at hys
      have hboth : Dp K H8 (.ref bv) (.list ((prods one other).map lineD)) := .lst (.of hbv) hys
      have ho8 := ho7.to e8
      have ht8 := ht7.to e8
      have hsv8 := hsv.to e8
      have s8 := s7.same e8
      dsimp only
      have pf := prods_few lo.few2 lt.few2
      have uf : ∀ l ∈ one ++ other, Few m 2 2 l := fun l hl => (List.mem_append.mp hl).elim (lo.few2 l) (lt.few2 l)
      have sf := starL_few lo
      have ul : (one ++ other).length ≤ 400 := by rw [List.length_append]; omega
      have pl9 := prods_le lo lt
      have sl8 := star_len (m := m) on
      refine sq_yes (yes_like (K := K) (N := 130000) (Lit.union (BS := BS) (TG := TG) (BU := BU) (Lit.var rfl ho8) (Lit.var rfl ht8) (union_is lo lt)) (Lit.tup (Lits.cons (Lit.var rfl (.int _)) (Lits.cons (Lit.clean (Lit.catL (Lit.ix1 (Lit.var rfl ho8)) (Lit.ix1 (Lit.var rfl ht8)) (by omega)) (clIn_app lo lt)) Lits.nil)) (Nat.le_of_ble_eq_true rfl)) (sm_cn uf (by decide) (by decide) (by omega) ul) (by decide)) fun H9 e9 => ?_
      have ho9 := ho8.to e9
      have ht9 := ht8.to e9
      refine sq_yes (yes_like (K := K) (N := 130000) (Lit.sumOf (BS := BS) (TG := TG) (BU := BU) (Lit.var rfl ho9) (Lit.var rfl ht9) (sum_is lo lt)) (Lit.tup (Lits.cons (Lit.var rfl (.int _)) (Lits.cons (Lit.cleanL (Lit.var rfl (hboth.to e9)) (clIn_prods lo lt)) Lits.nil)) (Nat.le_of_ble_eq_true rfl)) (sm_cn pf (by decide) (by decide) (by omega) (by omega)) (by decide)) fun HA eA => ?_
      have hoA := ho9.to eA
      have htA := ht9.to eA
      have hsvA := (hsv8.to e9).to eA
      rw [St.cnL_star on] at hsvA
      refine sq_yes (yes_like (K := K) (N := 130000) (Lit.star (BS := BS) (TG := TG) (BU := BU) (Lit.var rfl hoA) (star_is lo)) (Lit.tup (Lits.cons (Lit.var rfl (.int _)) (Lits.cons (Lit.var rfl hsvA) Lits.nil)) (Nat.le_of_ble_eq_true rfl)) (sm_cn sf (by decide) (by decide) (by omega) (by omega)) (by decide)) fun HB eB => ?_
      have hoB := hoA.to eB
      have htB := htA.to eB
      have sB := ((s8.same e9).same eA).same eB
      obtain ⟨rest, eg⟩ := St.grid_head m
      have gl : (gridR 7 m).length ≤ 49 := by
        rw [gridR_len]
        exact Nat.pow_le_pow_right (by decide) m2
      refine sq_go ⟨_, rfl, m, rfl, by omega, fun HC pg gs eC npg hpg hga => ?_⟩
      refine sq_go (parts_comp (K := K) (f := hasR one) (one := gridR 7 m) rfl (.of hpg) hga (by omega) (fun y => rfl) (fun y => rfl) (fun y row H1' R hp e hd kk => has_call (m := m) (Lit.ix1 (Lit.var rfl ((hoB.to eC).to e))) rfl hd (by omega) m1 hp lo.hasIn (by omega) fun H2' e2' => ⟨_, rfl, kk _ e2'⟩) fun HD pf' fs eD npf hpf hfa => ?_)
      have hpgD := eD _ _ hpg
      refine sq_go (parts_comp (K := K) (f := hasR other) (one := gridR 7 m) rfl (.of hpgD) (hga.to eD) (by omega) (fun y => rfl) (fun y => rfl) (fun y row H1' R hp e hd kk => has_call (m := m) (Lit.ix1 (Lit.var rfl (((htB.to eC).to eD).to e))) rfl hd (by omega) m1 hp lt.hasIn (by omega) fun H2' e2' => ⟨_, rfl, kk _ e2'⟩) fun HE ps' ss eE nps hps hsa => ?_)
      have eBE := (eC.trans eD).trans eE
      have hoE := hoB.to eBE
      have htE := htB.to eBE
      refine sq_par3 (K := K) (Lits.cons (Lit.ix1 (Lit.union (BS := BS) (TG := TG) (BU := BU) (Lit.var rfl hoE) (Lit.var rfl htE) (union_is lo lt))) (Lits.cons (Lit.ix1 (Lit.sumOf (BS := BS) (TG := TG) (BU := BU) (Lit.var rfl hoE) (Lit.var rfl htE) (sum_is lo lt))) (Lits.cons (Lit.ix1 (Lit.star (BS := BS) (TG := TG) (BU := BU) (Lit.var rfl hoE) (star_is lo))) Lits.nil))) fun HF v1 v2 v3 eF hv1 hv2 hv3 => ?_
      have gM : RowsM m (gridR 7 m) := fun r hr => (St.grid_in hr).1
      have fM : RowsM m ((gridR 7 m).filter (hasR one)) := fun r hr => gM r (List.mem_filter.mp hr).1
      have sM : RowsM m ((gridR 7 m).filter (hasR other)) := fun r hr => gM r (List.mem_filter.mp hr).1
      have fl : ((gridR 7 m).filter (hasR one)).length ≤ 49 := Nat.le_trans (List.length_filter_le _ _) gl
      have rl : rest.length ≤ 48 := by
        have := congrArg List.length eg
        rw [List.length_cons] at this
        omega
      have hfF : Dp K HF (.ref pf') (.list (((gridR 7 m).filter (hasR one)).map intsD)) := .lst (.of ((eE.trans eF) _ _ hpf)) (hfa.to (eE.trans eF))
      have hsF : Dp K HF (.ref ps') (.list (((gridR 7 m).filter (hasR other)).map intsD)) := .lst (.of (eF _ _ hps)) (hsa.to eF)
      have hgF : Dp K HF (.ref pg) (.list ((gridR 7 m).map intsD)) := .lst (.of (((eD.trans eE).trans eF) _ _ hpg)) (hga.to ((eD.trans eE).trans eF))
      show tSeq (tPar _ _ _) _ _ _ _
      refine ⟨_, rfl, _, rfl, _, rfl, m, _, _, _, _, _, gridR 7 m, rfl, hfF, hsF, hgF, m1, by omega, fM, sM, gM, by omega, by omega, fun HG pu us eG npu hpu hua => ⟨_, rfl, _, rfl, m, _, _, _, rest, List.replicate m 0, rfl, hfF.to eG, by rw [← eg]; exact hgF.to eG, m1, by omega, fM, by rw [← eg]; exact gM, by omega, by omega, fun HI pv ws eI npv hpv hva => ⟨_, _, rfl, ?_⟩⟩⟩
      have eFI := eG.trans eI
      have eCI : Same HC HI := ((eD.trans eE).trans eF).trans eFI
      have hfI := hfF.to eFI
      have hsI := hsF.to eFI
      have hpgI := eCI _ _ hpg
      have hgaI := hga.to eCI
      have huI : Dp K HI (.ref pu) (.list ((sumsR ((gridR 7 m).filter (hasR one)) ((gridR 7 m).filter (hasR other)) (gridR 7 m)).map intsD)) := .lst (.of (eI _ _ hpu)) (hua.to eI)
      have hv1I := hv1.to eFI
      have hv2I := hv2.to eFI
      have hv3I := hv3.to eFI
      have sI := (sB.same eC).same eCI
      have gsl := hga.length
      rw [List.length_map] at gsl
      dsimp only
      refine sq_fr ⟨_, rfl, pg, rfl, ⟨gs, .of hpgI⟩, for_it (walk_list (K := K) (a := pg) (xs := gs)) (fun i σ H' => Same HI H' ∧ ∃ v10 : Option V, σ = [some (.ref p), some (.ref a), some (.int (m : Nat)), some (.ref p1), some tv, some (.ref bv), some sv, v7, v8, some (.ref pg), v10, some (.ref pf'), some (.ref ps'), some v1, some v2, some v3, some (.ref pu), some (.ref pv), none, none, v20]) ⟨Same.refl _, _, rfl⟩ (fun i σ H' _ q => .of (q.1 _ _ hpgI)) (fun i x σ Hz HJ hi q y => ?_) (fun σ HJ q => ?_)⟩
      · obtain ⟨eJ, v10, rfl⟩ := q
        obtain ⟨rfl, hx⟩ := y
        obtain ⟨d, hd1, hd2⟩ := hgaI.getV hx
        rw [List.getElem?_map] at hd1
        obtain ⟨row, hr1, rfl⟩ := Option.map_eq_some_iff.mp hd1
        have hrow := List.mem_of_getElem? hr1
        have hdJ := hd2.to eJ
        dsimp only [gName]
        refine sq_same (K := K) (fun Q q => has_call (m := m) (Lit.var rfl (hv1I.to eJ)) rfl hdJ (by omega) m1 hrow (has_in uf (by decide) (by decide)) (Nat.le_trans (cn_len _) (by omega)) q) (fun H1' Q e q => or_call (a := decide (row ∈ (gridR 7 m).filter (hasR one))) (b := decide (row ∈ (gridR 7 m).filter (hasR other))) (fun Q q => in_call rfl rfl (hdJ.to e) ((hfI.to eJ).to e) q) (fun Q q => in_call rfl rfl (hdJ.to e) ((hsI.to eJ).to e) q) (by rw [← has_union lo lt hrow]; exact q)) fun HK eK => ?_
        exact if_same (fun Q q => has_call (m := m) (Lit.var rfl ((hv2I.to eJ).to eK)) rfl (hdJ.to eK) (by omega) m1 hrow (has_in pf (by decide) (by decide)) (Nat.le_trans (cn_len _) (by omega)) q) (fun H1' Q e q => in_call rfl rfl ((hdJ.to eK).to e) (((huI.to eJ).to eK).to e) (by rw [← has_sums lo lt hrow]; exact q)) fun HL eL => ⟨(eJ.trans eK).trans eL, _, rfl⟩
      · obtain ⟨eJ, v10, rfl⟩ := q
        have hpgJ := eJ _ _ hpgI
        have sJ := sI.same eJ
        have gs1 : 1 ≤ gs.length := by
          rw [gsl, eg]
          exact Nat.succ_le_succ (Nat.zero_le _)
        dsimp only
        obtain ⟨pgA, pgL, _⟩ := sB.off npg
        have sG := (sB.same eC).same (((eD.trans eE).trans eF).trans eG)
        obtain ⟨pvA, pvL, _⟩ := sG.off npv
        refine sq_go ⟨8, rfl, by decide, by decide, fun R hR => lcN (K := K) walk_range 1 hR (slt (by omega)) (fun _ d => ∃ j : Nat, d = .int (j : Nat) ∧ j < gs.length) (fun _ d h => by obtain ⟨j, rfl, _⟩ := h; rfl) sJ (fun _ _ => trivial) (fun i x HK HL Q1 hi eK sK y q1 => ?_) (fun HK zs ds eK sK hy hds hn hP nl => ?_)⟩
        · obtain ⟨rfl, rfl⟩ := y
          refine ⟨rfl, _, rfl, _, rfl, pg, gs, rfl, .inl (.of (eK _ _ hpgJ pgA pgL)), a, l, c, _, gs.length, rfl, sK, by omega, by omega, by omega, fun HM r eM sM r1 r2 => ?_⟩
          exact q1 _ _ (.int r) ⟨r.toNat, by rw [Int.toNat_of_nonneg r1], by omega⟩ (.int _) eM (sM.mono (by omega))
        · have hpgK := eK _ _ hpgJ pgA pgL
          have hgaK := keepTs eK sJ _ _ (noList_intsL _) (hgaI.to eJ)
          have hpvK := eK _ _ (eJ _ _ hpv) pvA pvL
          have hvaK := keepTs eK sJ _ _ (noList_intsL _) (hva.to eJ)
          have hv3K := keepT eK sJ _ _ (noList_linesD _) (hv3I.to eJ)
          have zn := hds.length
          dsimp only
          refine sq_fr ⟨_, rfl, R, rfl, ⟨zs, .of hy⟩, fun D hD => lcF (walk_list (K := K) (a := R) (xs := zs)) hD (by rw [sizeLine_eq]; omega) (fun _ => true) (fun i y H => ∃ row, row ∈ gridR 7 m ∧ Dp K H y (intsD row)) (fun i y H H' e n q => ?_) (fun H1 e => .of (e _ _ hy)) (fun i x H2 H3 Q1 Q0 hi e2 y q1 q0 => ?_) (fun HM ys eM hyM g => ?_)⟩
          · obtain ⟨row, hr, hd⟩ := q
            exact ⟨row, hr, keepN e n n _ _ (noList_ints _) hd⟩
          · obtain ⟨rfl, hx⟩ := y
            obtain ⟨d, hd1, hd2⟩ := hds.getV hx
            obtain ⟨j, rfl, hj⟩ := hP i d hd1
            cases hd2
            obtain ⟨gz, hgz⟩ : ∃ z, gs[j]? = some z := ⟨_, List.getElem?_eq_getElem hj⟩
            obtain ⟨d, hd3, hd4⟩ := hgaK.getV hgz
            rw [List.getElem?_map] at hd3
            obtain ⟨row, hr1, rfl⟩ := Option.map_eq_some_iff.mp hd3
            exact ⟨rfl, iteT (B := Q0 H3) ⟨_, rfl, _, rfl, pg, gs, (j : Int), gz, rfl, rfl, .of (e2 _ _ hpgK), atI_nat hgz, q1 rfl _ _ ⟨row, List.mem_of_getElem? hr1, hd4.to e2⟩ (Same.refl _)⟩⟩
          · have gln := g.len
            rw [all_kept, List.length_range] at gln
            refine ⟨D, rfl, ⟨ys, .of hyM⟩, for_it (walk_list (K := K) (a := D) (xs := ys)) (fun i σ H' => Same HM H' ∧ ∃ v10 : Option V, σ = [some (.ref p), some (.ref a), some (.int (m : Nat)), some (.ref p1), some tv, some (.ref bv), some sv, v7, v8, some (.ref pg), v10, some (.ref pf'), some (.ref ps'), some v1, some v2, some v3, some (.ref pu), some (.ref pv), some (.ref R), none, v20]) ⟨Same.refl _, _, rfl⟩ (fun i σ H' _ q => .of (q.1 _ _ hyM)) (fun i x σ Hz HN hi q y => ?_) (fun σ HN q => ?_)⟩
            · obtain ⟨eN, v10, rfl⟩ := q
              obtain ⟨rfl, hx⟩ := y
              have hi' : i < zs.length := by rw [← gln]; exact (List.getElem?_eq_some_iff.mp hx).1
              obtain ⟨row, hrow, hd⟩ := g.at_ i i x hx (by rw [all_kept, List.getElem?_range hi'])
              have hdN := hd.to eN
              have eMN := eM.trans eN
              dsimp only [gName]
              exact if_same (fun Q q => has_call (m := m) (Lit.var rfl (hv3K.to eMN)) rfl hdN (by omega) m1 hrow (has_in sf (by decide) (by decide)) (Nat.le_trans (cn_len _) (by omega)) q) (fun H1' Q e q => in_call rfl rfl (hdN.to e) (.lst (.of ((eMN.trans e) _ _ hpvK)) (hvaK.to (eMN.trans e))) (by rw [← has_star lo eg hrow]; exact q)) fun HL eL => ⟨eN.trans eL, _, rfl⟩
            · exact k _
end
end Ws
/-! ## Q25z -/
namespace Ws
open PySem PySem.Spec PyProof.Rows L2
theorem hb_is_integer (kV doc pm : Value) (an : Option Addr) (cdv ct : Value) (us : List Value) (hl : us.length = pr_is_integer.length) : bindArgs (PySem.W.fnOf "is_integer" "is_integer" (defArgs s_is_integer) (defBody s_is_integer) (defScope s_is_integer) .none kV doc pm an cdv ct) ⟨us, []⟩ = pure (pr_is_integer.zip us) :=
  match us, hl with
  | [_], _ => rfl
theorem hb_is_between (kV doc pm : Value) (an : Option Addr) (cdv ct : Value) (us : List Value) (hl : us.length = pr_is_between.length) : bindArgs (PySem.W.fnOf "is_between" "is_between" (defArgs s_is_between) (defBody s_is_between) (defScope s_is_between) .none kV doc pm an cdv ct) ⟨us, []⟩ = pure (pr_is_between.zip us) :=
  match us, hl with
  | [_, _, _], _ => rfl
theorem hb_is_tuple_of (kV doc pm : Value) (an : Option Addr) (cdv ct : Value) (us : List Value) (hl : us.length = pr_is_tuple_of.length) : bindArgs (PySem.W.fnOf "is_tuple_of" "is_tuple_of" (defArgs s_is_tuple_of) (defBody s_is_tuple_of) (defScope s_is_tuple_of) .none kV doc pm an cdv ct) ⟨us, []⟩ = pure (pr_is_tuple_of.zip us) :=
  match us, hl with
  | [_, _], _ => rfl
theorem hb_are_between (kV doc pm : Value) (an : Option Addr) (cdv ct : Value) (us : List Value) (hl : us.length = pr_are_between.length) : bindArgs (PySem.W.fnOf "are_between" "are_between" (defArgs s_are_between) (defBody s_are_between) (defScope s_are_between) .none kV doc pm an cdv ct) ⟨us, []⟩ = pure (pr_are_between.zip us) :=
  match us, hl with
  | [_, _, _], _ => rfl
theorem hb_added (kV doc pm : Value) (an : Option Addr) (cdv ct : Value) (us : List Value) (hl : us.length = pr_added.length) : bindArgs (PySem.W.fnOf "added" "added" (defArgs s_added) (defBody s_added) (defScope s_added) .none kV doc pm an cdv ct) ⟨us, []⟩ = pure (pr_added.zip us) :=
  match us, hl with
  | [_, _, _], _ => rfl
theorem hb_is_entry (kV doc pm : Value) (an : Option Addr) (cdv ct : Value) (us : List Value) (hl : us.length = pr_is_entry.length) : bindArgs (PySem.W.fnOf "is_entry" "is_entry" (defArgs s_is_entry) (defBody s_is_entry) (defScope s_is_entry) .none kV doc pm an cdv ct) ⟨us, []⟩ = pure (pr_is_entry.zip us) :=
  match us, hl with
  | [_, _], _ => rfl
theorem hb_is_line (kV doc pm : Value) (an : Option Addr) (cdv ct : Value) (us : List Value) (hl : us.length = pr_is_line.length) : bindArgs (PySem.W.fnOf "is_line" "is_line" (defArgs s_is_line) (defBody s_is_line) (defScope s_is_line) .none kV doc pm an cdv ct) ⟨us, []⟩ = pure (pr_is_line.zip us) :=
  match us, hl with
  | [_, _], _ => rfl
theorem hb_need_set (kV doc pm : Value) (an : Option Addr) (cdv ct : Value) (us : List Value) (hl : us.length = pr_need_set.length) : bindArgs (PySem.W.fnOf "need_set" "need_set" (defArgs s_need_set) (defBody s_need_set) (defScope s_need_set) .none kV doc pm an cdv ct) ⟨us, []⟩ = pure (pr_need_set.zip us) :=
  match us, hl with
  | [_], _ => rfl
theorem hb_need_two_sets (kV doc pm : Value) (an : Option Addr) (cdv ct : Value) (us : List Value) (hl : us.length = pr_need_two_sets.length) : bindArgs (PySem.W.fnOf "need_two_sets" "need_two_sets" (defArgs s_need_two_sets) (defBody s_need_two_sets) (defScope s_need_two_sets) .none kV doc pm an cdv ct) ⟨us, []⟩ = pure (pr_need_two_sets.zip us) :=
  match us, hl with
  | [_, _], _ => rfl
theorem hb_unlike_periods (kV doc pm : Value) (an : Option Addr) (cdv ct : Value) (us : List Value) (hl : us.length = pr_unlike_periods.length) : bindArgs (PySem.W.fnOf "unlike_periods" "unlike_periods" (defArgs s_unlike_periods) (defBody s_unlike_periods) (defScope s_unlike_periods) .none kV doc pm an cdv ct) ⟨us, []⟩ = pure (pr_unlike_periods.zip us) :=
  match us, hl with
  | [_], _ => rfl
theorem hb_set_with (kV doc pm : Value) (an : Option Addr) (cdv ct : Value) (us : List Value) (hl : us.length = pr_set_with.length) : bindArgs (PySem.W.fnOf "set_with" "set_with" (defArgs s_set_with) (defBody s_set_with) (defScope s_set_with) .none kV doc pm an cdv ct) ⟨us, []⟩ = pure (pr_set_with.zip us) :=
  match us, hl with
  | [_, _], _ => rfl
theorem hb_union (kV doc pm : Value) (an : Option Addr) (cdv ct : Value) (us : List Value) (hl : us.length = pr_union.length) : bindArgs (PySem.W.fnOf "union" "union" (defArgs s_union) (defBody s_union) (defScope s_union) .none kV doc pm an cdv ct) ⟨us, []⟩ = pure (pr_union.zip us) :=
  match us, hl with
  | [_, _], _ => rfl
theorem hb_need_line (kV doc pm : Value) (an : Option Addr) (cdv ct : Value) (us : List Value) (hl : us.length = pr_need_line.length) : bindArgs (PySem.W.fnOf "need_line" "need_line" (defArgs s_need_line) (defBody s_need_line) (defScope s_need_line) .none kV doc pm an cdv ct) ⟨us, []⟩ = pure (pr_need_line.zip us) :=
  match us, hl with
  | [_, _], _ => rfl
theorem hb_sum_of (kV doc pm : Value) (an : Option Addr) (cdv ct : Value) (us : List Value) (hl : us.length = pr_sum_of.length) : bindArgs (PySem.W.fnOf "sum_of" "sum_of" (defArgs s_sum_of) (defBody s_sum_of) (defScope s_sum_of) .none kV doc pm an cdv ct) ⟨us, []⟩ = pure (pr_sum_of.zip us) :=
  match us, hl with
  | [_, _], _ => rfl
theorem hb_star (kV doc pm : Value) (an : Option Addr) (cdv ct : Value) (us : List Value) (hl : us.length = pr_star.length) : bindArgs (PySem.W.fnOf "star" "star" (defArgs s_star) (defBody s_star) (defScope s_star) .none kV doc pm an cdv ct) ⟨us, []⟩ = pure (pr_star.zip us) :=
  match us, hl with
  | [_], _ => rfl
theorem hb_choices_among (kV doc pm : Value) (an : Option Addr) (cdv ct : Value) (us : List Value) (hl : us.length = pr_choices_among.length) : bindArgs (PySem.W.fnOf "choices_among" "choices_among" (defArgs s_choices_among) (defBody s_choices_among) (defScope s_choices_among) .none kV doc pm an cdv ct) ⟨us, []⟩ = pure (pr_choices_among.zip us) :=
  match us, hl with
  | [_], _ => rfl
theorem hb__law_mixed (kV doc pm : Value) (an : Option Addr) (cdv ct : Value) (us : List Value) (hl : us.length = pr__law_mixed.length) : bindArgs (PySem.W.fnOf "_law_mixed" "_law_mixed" (defArgs s__law_mixed) (defBody s__law_mixed) (defScope s__law_mixed) .none kV doc pm an cdv ct) ⟨us, []⟩ = pure (pr__law_mixed.zip us) :=
  match us, hl with
  | [_, _], _ => rfl
theorem hb__law_begin (kV doc pm : Value) (an : Option Addr) (cdv ct : Value) (us : List Value) (hl : us.length = pr__law_begin.length) : bindArgs (PySem.W.fnOf "_law_begin" "_law_begin" (defArgs s__law_begin) (defBody s__law_begin) (defScope s__law_begin) .none kV doc pm an cdv ct) ⟨us, []⟩ = pure (pr__law_begin.zip us) :=
  match us, hl with
  | [_], _ => rfl
theorem hb__law_draw (kV doc pm : Value) (an : Option Addr) (cdv ct : Value) (us : List Value) (hl : us.length = pr__law_draw.length) : bindArgs (PySem.W.fnOf "_law_draw" "_law_draw" (defArgs s__law_draw) (defBody s__law_draw) (defScope s__law_draw) .none kV doc pm an cdv ct) ⟨us, []⟩ = pure (pr__law_draw.zip us) :=
  match us, hl with
  | [_, _], _ => rfl
theorem hb__law_row (kV doc pm : Value) (an : Option Addr) (cdv ct : Value) (us : List Value) (hl : us.length = pr__law_row.length) : bindArgs (PySem.W.fnOf "_law_row" "_law_row" (defArgs s__law_row) (defBody s__law_row) (defScope s__law_row) .none kV doc pm an cdv ct) ⟨us, []⟩ = pure (pr__law_row.zip us) :=
  match us, hl with
  | [_, _, _], _ => rfl
theorem hb__law_grid (kV doc pm : Value) (an : Option Addr) (cdv ct : Value) (us : List Value) (hl : us.length = pr__law_grid.length) : bindArgs (PySem.W.fnOf "_law_grid" "_law_grid" (defArgs s__law_grid) (defBody s__law_grid) (defScope s__law_grid) .none kV doc pm an cdv ct) ⟨us, []⟩ = pure (pr__law_grid.zip us) :=
  match us, hl with
  | [_, _], _ => rfl
theorem hb__law_fills (kV doc pm : Value) (an : Option Addr) (cdv ct : Value) (us : List Value) (hl : us.length = pr__law_fills.length) : bindArgs (PySem.W.fnOf "_law_fills" "_law_fills" (defArgs s__law_fills) (defBody s__law_fills) (defScope s__law_fills) .none kV doc pm an cdv ct) ⟨us, []⟩ = pure (pr__law_fills.zip us) :=
  match us, hl with
  | [_, _], _ => rfl
theorem hb__law_has (kV doc pm : Value) (an : Option Addr) (cdv ct : Value) (us : List Value) (hl : us.length = pr__law_has.length) : bindArgs (PySem.W.fnOf "_law_has" "_law_has" (defArgs s__law_has) (defBody s__law_has) (defScope s__law_has) .none kV doc pm an cdv ct) ⟨us, []⟩ = pure (pr__law_has.zip us) :=
  match us, hl with
  | [_, _], _ => rfl
theorem hb__law_like (kV doc pm : Value) (an : Option Addr) (cdv ct : Value) (us : List Value) (hl : us.length = pr__law_like.length) : bindArgs (PySem.W.fnOf "_law_like" "_law_like" (defArgs s__law_like) (defBody s__law_like) (defScope s__law_like) .none kV doc pm an cdv ct) ⟨us, []⟩ = pure (pr__law_like.zip us) :=
  match us, hl with
  | [_, _], _ => rfl
theorem hb__law_minus (kV doc pm : Value) (an : Option Addr) (cdv ct : Value) (us : List Value) (hl : us.length = pr__law_minus.length) : bindArgs (PySem.W.fnOf "_law_minus" "_law_minus" (defArgs s__law_minus) (defBody s__law_minus) (defScope s__law_minus) .none kV doc pm an cdv ct) ⟨us, []⟩ = pure (pr__law_minus.zip us) :=
  match us, hl with
  | [_, _], _ => rfl
theorem hb__law_lines (kV doc pm : Value) (an : Option Addr) (cdv ct : Value) (us : List Value) (hl : us.length = pr__law_lines.length) : bindArgs (PySem.W.fnOf "_law_lines" "_law_lines" (defArgs s__law_lines) (defBody s__law_lines) (defScope s__law_lines) .none kV doc pm an cdv ct) ⟨us, []⟩ = pure (pr__law_lines.zip us) :=
  match us, hl with
  | [_, _], _ => rfl
theorem hb__law_plus (kV doc pm : Value) (an : Option Addr) (cdv ct : Value) (us : List Value) (hl : us.length = pr__law_plus.length) : bindArgs (PySem.W.fnOf "_law_plus" "_law_plus" (defArgs s__law_plus) (defBody s__law_plus) (defScope s__law_plus) .none kV doc pm an cdv ct) ⟨us, []⟩ = pure (pr__law_plus.zip us) :=
  match us, hl with
  | [_, _], _ => rfl
theorem hb__law_clean (kV doc pm : Value) (an : Option Addr) (cdv ct : Value) (us : List Value) (hl : us.length = pr__law_clean.length) : bindArgs (PySem.W.fnOf "_law_clean" "_law_clean" (defArgs s__law_clean) (defBody s__law_clean) (defScope s__law_clean) .none kV doc pm an cdv ct) ⟨us, []⟩ = pure (pr__law_clean.zip us) :=
  match us, hl with
  | [_], _ => rfl
theorem hb__law_choices (kV doc pm : Value) (an : Option Addr) (cdv ct : Value) (us : List Value) (hl : us.length = pr__law_choices.length) : bindArgs (PySem.W.fnOf "_law_choices" "_law_choices" (defArgs s__law_choices) (defBody s__law_choices) (defScope s__law_choices) .none kV doc pm an cdv ct) ⟨us, []⟩ = pure (pr__law_choices.zip us) :=
  match us, hl with
  | [_], _ => rfl
theorem hb__law_star_lines (kV doc pm : Value) (an : Option Addr) (cdv ct : Value) (us : List Value) (hl : us.length = pr__law_star_lines.length) : bindArgs (PySem.W.fnOf "_law_star_lines" "_law_star_lines" (defArgs s__law_star_lines) (defBody s__law_star_lines) (defScope s__law_star_lines) .none kV doc pm an cdv ct) ⟨us, []⟩ = pure (pr__law_star_lines.zip us) :=
  match us, hl with
  | [_], _ => rfl
theorem hb__law_sums (kV doc pm : Value) (an : Option Addr) (cdv ct : Value) (us : List Value) (hl : us.length = pr__law_sums.length) : bindArgs (PySem.W.fnOf "_law_sums" "_law_sums" (defArgs s__law_sums) (defBody s__law_sums) (defScope s__law_sums) .none kV doc pm an cdv ct) ⟨us, []⟩ = pure (pr__law_sums.zip us) :=
  match us, hl with
  | [_, _, _], _ => rfl
theorem hb__law_star_rows (kV doc pm : Value) (an : Option Addr) (cdv ct : Value) (us : List Value) (hl : us.length = pr__law_star_rows.length) : bindArgs (PySem.W.fnOf "_law_star_rows" "_law_star_rows" (defArgs s__law_star_rows) (defBody s__law_star_rows) (defScope s__law_star_rows) .none kV doc pm an cdv ct) ⟨us, []⟩ = pure (pr__law_star_rows.zip us) :=
  match us, hl with
  | [_, _], _ => rfl
theorem hb__law_refusal (kV doc pm : Value) (an : Option Addr) (cdv ct : Value) (us : List Value) (hl : us.length = pr__law_refusal.length) : bindArgs (PySem.W.fnOf "_law_refusal" "_law_refusal" (defArgs s__law_refusal) (defBody s__law_refusal) (defScope s__law_refusal) .none kV doc pm an cdv ct) ⟨us, []⟩ = pure (pr__law_refusal.zip us) :=
  match us, hl with
  | [_, _, _], _ => rfl
theorem hb__law_refusals_right (kV doc pm : Value) (an : Option Addr) (cdv ct : Value) (us : List Value) (hl : us.length = pr__law_refusals_right.length) : bindArgs (PySem.W.fnOf "_law_refusals_right" "_law_refusals_right" (defArgs s__law_refusals_right) (defBody s__law_refusals_right) (defScope s__law_refusals_right) .none kV doc pm an cdv ct) ⟨us, []⟩ = pure (pr__law_refusals_right.zip us) :=
  match us, hl with
  | [_, _], _ => rfl
theorem hb__law_unions_right (kV doc pm : Value) (an : Option Addr) (cdv ct : Value) (us : List Value) (hl : us.length = pr__law_unions_right.length) : bindArgs (PySem.W.fnOf "_law_unions_right" "_law_unions_right" (defArgs s__law_unions_right) (defBody s__law_unions_right) (defScope s__law_unions_right) .none kV doc pm an cdv ct) ⟨us, []⟩ = pure (pr__law_unions_right.zip us) :=
  match us, hl with
  | [], _ => rfl
theorem hb__law_great_right (kV doc pm : Value) (an : Option Addr) (cdv ct : Value) (us : List Value) (hl : us.length = pr__law_great_right.length) : bindArgs (PySem.W.fnOf "_law_great_right" "_law_great_right" (defArgs s__law_great_right) (defBody s__law_great_right) (defScope s__law_great_right) .none kV doc pm an cdv ct) ⟨us, []⟩ = pure (pr__law_great_right.zip us) :=
  match us, hl with
  | [], _ => rfl
theorem hb_law (kV doc pm : Value) (an : Option Addr) (cdv ct : Value) (us : List Value) (hl : us.length = pr_law.length) : bindArgs (PySem.W.fnOf "law" "law" (defArgs s_law) (defBody s_law) (defScope s_law) .none kV doc pm an cdv ct) ⟨us, []⟩ = pure (pr_law.zip us) :=
  match us, hl with
  | [_], _ => rfl
abbrev s_BS : Stmt := inClass (top 10) 0
theorem sc_BS : FnScope ["self", "place"] ["self", "place"] (defScope s_BS) := ⟨rfl, rfl, rfl, by decide +kernel, rfl, by decide +kernel, by decide +kernel⟩
theorem hb_BS (kV doc pm : Value) (an : Option Addr) (cdv ct : Value) (us : List Value) (hl : us.length = (["self", "place"] : List Str).length) : bindArgs (PySem.W.fnOf "__init__" "BadSet.__init__" (defArgs s_BS) (defBody s_BS) (defScope s_BS) .none kV doc pm an cdv ct) ⟨us, []⟩ = pure ((["self", "place"] : List Str).zip us) :=
  match us, hl with
  | [_, _], _ => rfl
abbrev s_TG : Stmt := inClass (top 12) 0
theorem sc_TG : FnScope ["self", "most"] ["self", "most"] (defScope s_TG) := ⟨rfl, rfl, rfl, by decide +kernel, rfl, by decide +kernel, by decide +kernel⟩
theorem hb_TG (kV doc pm : Value) (an : Option Addr) (cdv ct : Value) (us : List Value) (hl : us.length = (["self", "most"] : List Str).length) : bindArgs (PySem.W.fnOf "__init__" "TooGreat.__init__" (defArgs s_TG) (defBody s_TG) (defScope s_TG) .none kV doc pm an cdv ct) ⟨us, []⟩ = pure ((["self", "most"] : List Str).zip us) :=
  match us, hl with
  | [_, _], _ => rfl
abbrev s_BU : Stmt := inClass (top 11) 0
theorem sc_BU : FnScope ["self", "value"] ["self", "value"] (defScope s_BU) := ⟨rfl, rfl, rfl, by decide +kernel, rfl, by decide +kernel, by decide +kernel⟩
theorem hb_BU (kV doc pm : Value) (an : Option Addr) (cdv ct : Value) (us : List Value) (hl : us.length = (["self", "value"] : List Str).length) : bindArgs (PySem.W.fnOf "__init__" "Unlike.__init__" (defArgs s_BU) (defBody s_BU) (defScope s_BU) .none kV doc pm an cdv ct) ⟨us, []⟩ = pure ((["self", "value"] : List Str).zip us) :=
  match us, hl with
  | [_, _], _ => rfl
section
variable {P : Program} {w : World} {K : PySem.W.Frag} {mg : Str → Option Value} {base : Heap} {SA BS TG BU : Addr}
theorem ok_BS {fI : Addr} {fd : FuncData} (T : ErT K mg "BadSet" "place" "BadSet.__init__" s_BS BS fI fd) : ErC P w K mg base "BadSet" "place" BS := T.ok sc_BS fun cdv A outer s H E => pss_one (ps_ost (pv 0) (pv 1))
theorem ok_TG {fI : Addr} {fd : FuncData} (T : ErT K mg "TooGreat" "most" "TooGreat.__init__" s_TG TG fI fd) : ErC P w K mg base "TooGreat" "most" TG := T.ok sc_TG fun cdv A outer s H E => pss_one (ps_ost (pv 0) (pv 1))
theorem ok_BU {fI : Addr} {fd : FuncData} (T : ErT K mg "Unlike" "value" "Unlike.__init__" s_BU BU fI fd) : ErC P w K mg base "Unlike" "value" BU := T.ok sc_BU fun cdv A outer s H E => pss_one (ps_ost (pv 0) (pv 1))
structure DAll (K : PySem.W.Frag) (mg : Str → Option Value) : Prop where
  is_integer : Dt K mg "is_integer" s_is_integer pr_is_integer
  is_between : Dt K mg "is_between" s_is_between pr_is_between
  is_tuple_of : Dt K mg "is_tuple_of" s_is_tuple_of pr_is_tuple_of
  are_between : Dt K mg "are_between" s_are_between pr_are_between
  added : Dt K mg "added" s_added pr_added
  is_entry : Dt K mg "is_entry" s_is_entry pr_is_entry
  is_line : Dt K mg "is_line" s_is_line pr_is_line
  need_set : Dt K mg "need_set" s_need_set pr_need_set
  need_two_sets : Dt K mg "need_two_sets" s_need_two_sets pr_need_two_sets
  unlike_periods : Dt K mg "unlike_periods" s_unlike_periods pr_unlike_periods
  set_with : Dt K mg "set_with" s_set_with pr_set_with
  union : Dt K mg "union" s_union pr_union
  need_line : Dt K mg "need_line" s_need_line pr_need_line
  sum_of : Dt K mg "sum_of" s_sum_of pr_sum_of
  star : Dt K mg "star" s_star pr_star
  choices_among : Dt K mg "choices_among" s_choices_among pr_choices_among
  _law_mixed : Dt K mg "_law_mixed" s__law_mixed pr__law_mixed
  _law_begin : Dt K mg "_law_begin" s__law_begin pr__law_begin
  _law_draw : Dt K mg "_law_draw" s__law_draw pr__law_draw
  _law_row : Dt K mg "_law_row" s__law_row pr__law_row
  _law_grid : Dt K mg "_law_grid" s__law_grid pr__law_grid
  _law_fills : Dt K mg "_law_fills" s__law_fills pr__law_fills
  _law_has : Dt K mg "_law_has" s__law_has pr__law_has
  _law_like : Dt K mg "_law_like" s__law_like pr__law_like
  _law_minus : Dt K mg "_law_minus" s__law_minus pr__law_minus
  _law_lines : Dt K mg "_law_lines" s__law_lines pr__law_lines
  _law_plus : Dt K mg "_law_plus" s__law_plus pr__law_plus
  _law_clean : Dt K mg "_law_clean" s__law_clean pr__law_clean
  _law_choices : Dt K mg "_law_choices" s__law_choices pr__law_choices
  _law_star_lines : Dt K mg "_law_star_lines" s__law_star_lines pr__law_star_lines
  _law_sums : Dt K mg "_law_sums" s__law_sums pr__law_sums
  _law_star_rows : Dt K mg "_law_star_rows" s__law_star_rows pr__law_star_rows
  _law_refusal : Dt K mg "_law_refusal" s__law_refusal pr__law_refusal
  _law_refusals_right : Dt K mg "_law_refusals_right" s__law_refusals_right pr__law_refusals_right
  _law_unions_right : Dt K mg "_law_unions_right" s__law_unions_right pr__law_unions_right
  _law_great_right : Dt K mg "_law_great_right" s__law_great_right pr__law_great_right
theorem all_ok (X : Ex25 K mg SA BS TG BU) (B : Bl mg) (C2 : CsL mg) (C3 : CsS mg) (T : ErS P w K mg base BS TG BU) (D : DAll K mg) {f : Addr} {fd : FuncData} (F : Fun K "law" "law" s_law f fd) : FnOkG P w K mg base CX0 11 f fd pr_law (spLaw K) := by
  have is_integer : Df P w K mg base CX0 1 "is_integer" pr_is_integer (spIsInteger K) := ok_is_integer B D.is_integer
  have is_between : Df P w K mg base CX0 2 "is_between" pr_is_between (spIsBetween K) := ok_is_between B is_integer D.is_between
  have is_tuple_of : Df P w K mg base CX0 1 "is_tuple_of" pr_is_tuple_of (spIsTupleOf K) := ok_is_tuple_of B D.is_tuple_of
  have are_between : Df P w K mg base CX0 3 "are_between" pr_are_between (spAreBetween K) := ok_are_between B is_between D.are_between
  have is_entry : Df P w K mg base CX0 4 "is_entry" pr_is_entry (spIsEntry K) := ok_is_entry C2 is_tuple_of are_between D.is_entry
  have is_line : Df P w K mg base CX0 5 "is_line" pr_is_line (spIsLine K) := ok_is_line B C2 is_tuple_of is_entry D.is_line
  have need_set : Df P w K mg base (L2.CX P w) 6 "need_set" pr_need_set (spNeedSet K BS TG) := ok_need_set B C2 T is_tuple_of is_between is_line D.need_set
  have added : Df P w K mg base CX0 1 "added" pr_added (spAdded K) := ok_added B D.added
  have unlike : Df P w K mg base CX0 1 "unlike_periods" pr_unlike_periods (spUnlike K) := ok_unlike B D.unlike_periods
  have set_with : Df P w K mg base (L2.CX P w) 4 "set_with" pr_set_with (spSetWith K TG) := ok_set_with B C2 T unlike D.set_with
  have set_withL : Df P w K mg base (L2.CX P w) 4 "set_with" pr_set_with (spSetWithL K TG) := ok_set_withL B C2 T unlike D.set_with
  have need_two : Df P w K mg base (L2.CX P w) 7 "need_two_sets" pr_need_two_sets (spNeedTwo K BS TG BU) := ok_need_two B T need_set D.need_two_sets
  have union : Df P w K mg base (L2.CX P w) 8 "union" pr_union (spUnion K BS TG BU) := ok_union B need_two set_with D.union
  have need_line : Df P w K mg base (L2.CX P w) 4 "need_line" pr_need_line (spNeedLine K TG) := ok_need_line B C2 T unlike D.need_line
  have among : Df P w K mg base CX0 1 "choices_among" pr_choices_among (spAmong K) := ok_among B D.choices_among
  have sum_of : Df P w K mg base (L2.CX P w) 8 "sum_of" pr_sum_of (spSumOf K BS TG BU) := ok_sum_of B C2 T need_two set_withL need_line added D.sum_of
  have star : Df P w K mg base (L2.CX P w) 7 "star" pr_star (spStar K BS TG BU) := ok_star B C2 C3 T need_set set_withL need_line added among D.star
  have mixed : Df P w K mg base CX0 1 "_law_mixed" pr__law_mixed spMixed := ok_mixed B D._law_mixed
  have draw : Df P w K mg base CX0 2 "_law_draw" pr__law_draw spDrawW := ok_draw B mixed D._law_draw
  have like : DfG P w K mg base CX0 1 "_law_like" pr__law_like (spLike K) := ok_like B D._law_like
  have begin_ : Df P w K mg base CX0 1 "_law_begin" pr__law_begin (spBegin K) := ok_begin B D._law_begin
  have rowL : Df P w K mg base CX0 3 "_law_row" pr__law_row (spRowL K) := ok_rowL B draw D._law_row
  have minus : Df P w K mg base CX0 1 "_law_minus" pr__law_minus (spMinus K) := ok_minus B D._law_minus
  have plus : Df P w K mg base CX0 1 "_law_plus" pr__law_plus (spPlus K) := ok_plus B D._law_plus
  have f0 : Df P w K mg base CX0 1 "_law_fills" pr__law_fills (spFills K 0) := fills0 D._law_fills
  have f7 : Df P w K mg base CX0 8 "_law_fills" pr__law_fills (spFills K 7) := ok_fills B (ok_fills B (ok_fills B (ok_fills B (ok_fills B (ok_fills B (ok_fills B f0 D._law_fills) D._law_fills) D._law_fills) D._law_fills) D._law_fills) D._law_fills) D._law_fills
  have has : Df P w K mg base CX0 9 "_law_has" pr__law_has (spHasR K) := ok_has B f7 D._law_has
  have clean : Df P w K mg base CX0 1 "_law_clean" pr__law_clean (spClean K) := ok_clean B D._law_clean
  have lines : Df P w K mg base CX0 4 "_law_lines" pr__law_lines (spLines K) := ok_lines B draw rowL D._law_lines
  have grid : Df P w K mg base CX0 1 "_law_grid" pr__law_grid (spGrid K) := ok_grid B D._law_grid
  have choices : Df P w K mg base CX0 1 "_law_choices" pr__law_choices (spChoices K) := ok_choices B D._law_choices
  have star_lines : Df P w K mg base CX0 2 "_law_star_lines" pr__law_star_lines (spStarLines K) := ok_star_lines B choices plus clean D._law_star_lines
  have sums : Df P w K mg base CX0 2 "_law_sums" pr__law_sums (spSums K) := ok_sums B minus D._law_sums
  have star_rows : Df P w K mg base CX0 2 "_law_star_rows" pr__law_star_rows (spStarRows K) := ok_star_rows B minus D._law_star_rows
  have refusal : Df P w K mg base CX0 9 "_law_refusal" pr__law_refusal (spRefusal K) := ok_refusal X B T union sum_of star D._law_refusal
  have unions_right : DfG P w K mg base CX0 10 "_law_unions_right" pr__law_unions_right (spUnionsR K) := ok_unions_right B refusal union like D._law_unions_right
  have ref_right : DfG P w K mg base CX0 10 "_law_refusals_right" pr__law_refusals_right (spRefR K) := ok_ref_right B draw refusal like D._law_refusals_right
  have great_right : DfG P w K mg base CX0 10 "_law_great_right" pr__law_great_right (spGreatR K) := ok_great_right B refusal like D._law_great_right
  exact ok_law B unions_right great_right begin_ draw lines ref_right star_lines plus like clean grid has sums star_rows union sum_of star F
/-! ### what the top has written -/
theorem lit_int {h : Heap} {x : Str} {i : Int} (y : ∃ v, mg x = some v ∧ PySem.W.ReadsLit h v (.int i) []) : ∃ t, mg x = some (.int i t) := by
  obtain ⟨v, e, r⟩ := y
  cases r
  exact ⟨_, e⟩
theorem Bl.mk' {h : Heap} (X : K.In h) (G : h.Ns mainGlobals mg) (z1 : PySem.W.nsIn K mainGlobals "isinstance" = some none) (z2 : PySem.W.nsIn K mainGlobals "int" = some none) (z3 : PySem.W.nsIn K mainGlobals "bool" = some none) (z4 : PySem.W.nsIn K mainGlobals "tuple" = some none)
    (z5 : PySem.W.nsIn K mainGlobals "list" = some none) (z6 : PySem.W.nsIn K mainGlobals "str" = some none) (z7 : PySem.W.nsIn K mainGlobals "len" = some none) (z8 : PySem.W.nsIn K mainGlobals "all" = some none) (z9 : PySem.W.nsIn K mainGlobals "any" = some none) (z10 : PySem.W.nsIn K mainGlobals "sum" = some none)
    (z11 : PySem.W.nsIn K mainGlobals "max" = some none) (z12 : PySem.W.nsIn K mainGlobals "min" = some none) (z13 : PySem.W.nsIn K mainGlobals "range" = some none) (z14 : PySem.W.nsIn K mainGlobals "enumerate" = some none) (z15 : PySem.W.nsIn K mainGlobals "repr" = some none) (z16 : PySem.W.nsIn K mainGlobals "abs" = some none)
    (z17 : PySem.W.nsIn K mainGlobals "sorted" = some none) (z18 : PySem.W.nsIn K mainGlobals "zip" = some none) (z19 : PySem.W.nsIn K mainGlobals "set" = some none) : Bl mg :=
  have m := fun {x : Str} (z : PySem.W.nsIn K mainGlobals x = some none) => PySem.W.mg_none_of X G z
  ⟨m z1, m z2, m z3, m z4, m z5, m z6, m z7, m z8, m z9, m z10, m z11, m z12, m z13, m z14, m z15, m z16, m z17, m z18, m z19⟩
theorem CsL.mk' {h : Heap} {t2 t3 : Tok} (X : K.In h) (G : h.Ns mainGlobals mg) (y1 : ∃ v, mg "MOST_FACTOR" = some v ∧ PySem.W.ReadsLit h v (.int (10 ^ 9)) [])
    (y2 : PySem.W.nsIn K mainGlobals "MOST_PERIODS" = some (some (.int 12 t2))) (y3 : PySem.W.nsIn K mainGlobals "MOST_LINES" = some (some (.int 400 t3))) : CsL mg :=
  ⟨lit_int y1, ⟨_, PySem.W.mg_of X G y2⟩, ⟨_, PySem.W.mg_of X G y3⟩⟩
theorem Ex25.mk' {h : Heap} (mS : mg "BadSet" = some (.ref BS)) (mT : mg "TooGreat" = some (.ref TG)) (mU : mg "Unlike" = some (.ref BU)) (X : K.In h) (G : h.Ns mainGlobals mg) (n1 : PySem.W.nsIn K mainGlobals "SayError" = some (some (.ref SA)))
    (s1 : PySem.W.subIn K (.ref BS) (.type "BaseException") = some true) (s2 : PySem.W.isClsIn K BS = true) (s3 : PySem.W.typeIn K (.ref BS) = some (.type "type"))
    (g1 : PySem.W.subIn K (.ref TG) (.type "BaseException") = some true) (g2 : PySem.W.isClsIn K TG = true) (g3 : PySem.W.typeIn K (.ref TG) = some (.type "type"))
    (u1 : PySem.W.subIn K (.ref BU) (.type "BaseException") = some true) (u2 : PySem.W.isClsIn K BU = true) (u3 : PySem.W.typeIn K (.ref BU) = some (.type "type"))
    (ss : PySem.W.subIn K (.ref BS) (.ref BS) = some true) (us : PySem.W.subIn K (.ref BU) (.ref BS) = some false) (uu : PySem.W.subIn K (.ref BU) (.ref BU) = some true) (gs : PySem.W.subIn K (.ref TG) (.ref BS) = some false) (gu : PySem.W.subIn K (.ref TG) (.ref BU) = some false) (gg : PySem.W.subIn K (.ref TG) (.ref TG) = some true) : Ex25 K mg SA BS TG BU where
  say := PySem.W.mg_of X G n1
  ss := exm_of s1 s2 s3 ss
  us := exm_of s1 s2 s3 us
  uu := exm_of u1 u2 u3 uu
  gs := exm_of s1 s2 s3 gs
  gu := exm_of u1 u2 u3 gu
  gg := exm_of g1 g2 g3 gg
theorem CsS.mk' {h : Heap} {t : Tok} (X : K.In h) (G : h.Ns mainGlobals mg) (y : PySem.W.nsIn K mainGlobals "MOST_STARRED" = some (some (.int 8 t))) : CsS mg := ⟨⟨_, PySem.W.mg_of X G y⟩⟩
theorem none_of {h : Heap} {x : Str} (X : K.In h) (G : h.Ns mainGlobals mg) (z : PySem.W.nsIn K mainGlobals x = some none) : mg x = none := PySem.W.mg_none_of X G z
theorem fin {l : PySem.W.OpenLaw} {h : Heap} {f fa fS fT fW : Addr} {fdS fdT fdW : FuncData} {oc : Value} {od an : Option Addr} {osl : Array (Option Value)} {kV doc pm cdv ct : Value} (X : K.In h) (G : h.Ns mainGlobals mg) (hmg : mg "law" = some (.ref fa))
    (a : PySem.W.nsIn K mainGlobals "law" = some (some (.ref f))) (lk : K.lookup f = some ⟨oc, od, .func (PySem.W.fnOf "law" "law" (defArgs s_law) (defBody s_law) (defScope s_law) .none kV doc pm an cdv ct), osl⟩) (c : PySem.W.codeIn K cdv "law" = true) (kp : PySem.W.keepIn K (.ref f) = true)
    (XE : Ex25 K mg SA BS TG BU) (B : Bl mg) (C2 : CsL mg) (C3 : CsS mg) (ES : ErT K mg "BadSet" "place" "BadSet.__init__" s_BS BS fS fdS) (ET : ErT K mg "TooGreat" "most" "TooGreat.__init__" s_TG TG fT fdT) (EW : ErT K mg "Unlike" "value" "Unlike.__init__" s_BU BU fW fdW) (D : DAll K mg) :
    ∃ fd : FuncData, (∀ (s : Shared) (u : Value), BindsTo s fd ⟨[u], []⟩ [("script", u)]) ∧ ∀ base : Heap, FnOkG l.prog w K mg base CX0 11 fa fd ["script"] (spLaw K) := by
  cases hmg.symm.trans (PySem.W.mg_of X G a)
  exact ⟨_, fun s u => .of_eq (hb_law kV doc pm an cdv ct [u] rfl), fun base => all_ok XE B C2 C3 ⟨ok_BS ES, ok_TG ET, ok_BU EW⟩ D (fun_mk lk c kp)⟩
end
end Ws
open PySem PySem.W PyProof.Rows
set_option maxRecDepth 100000 in
set_option maxHeartbeats 0 in
theorem PySem.Challenge.cw_wholesay_k25_whole_unions_sums_stars_holds : PySem.Challenge.rw_wholesay_k25_whole_unions_sums_stars.Holds := by
  w_on; o_law; k_head; (case hw => w_witness2)
  k_fill
  refine Ws.walkG (l := PySem.Challenge.rw_wholesay_k25_whole_unions_sums_stars) (n := 63) (k := 11) (x := "script") (sp := Ws.spLaw) rfl (by decide) rfl ⟨rfl, by decide, by decide⟩ (fun w h Y => PySem.W.kIn_of Y) ?F ?S
  case S => exact fun K H a ns hl _ hS => ⟨a, ns, rfl, hS, by omega, fun _ => rfl⟩
  case F =>
    intro w mg fa h KX G hX hmg
    refine' (fun D_is_integer => ?rD0) (Ws.Dt.mk' (x := "is_integer") (st := Ws.s_is_integer) (ps := Ws.pr_is_integer) KX G ?a0 ?l0 ?c0 ?k0 Ws.hb_is_integer)
    case' a0 => k_is
    case' l0 => k_is
    case' c0 => k_is
    case' k0 => k_is
    refine' (fun D_is_between => ?rD1) (Ws.Dt.mk' (x := "is_between") (st := Ws.s_is_between) (ps := Ws.pr_is_between) KX G ?a1 ?l1 ?c1 ?k1 Ws.hb_is_between)
    case' a1 => k_is
    case' l1 => k_is
    case' c1 => k_is
    case' k1 => k_is
    refine' (fun D_is_tuple_of => ?rD2) (Ws.Dt.mk' (x := "is_tuple_of") (st := Ws.s_is_tuple_of) (ps := Ws.pr_is_tuple_of) KX G ?a2 ?l2 ?c2 ?k2 Ws.hb_is_tuple_of)
    case' a2 => k_is
    case' l2 => k_is
    case' c2 => k_is
    case' k2 => k_is
    refine' (fun D_are_between => ?rD3) (Ws.Dt.mk' (x := "are_between") (st := Ws.s_are_between) (ps := Ws.pr_are_between) KX G ?a3 ?l3 ?c3 ?k3 Ws.hb_are_between)
    case' a3 => k_is
    case' l3 => k_is
    case' c3 => k_is
    case' k3 => k_is
    refine' (fun D_added => ?rD4) (Ws.Dt.mk' (x := "added") (st := Ws.s_added) (ps := Ws.pr_added) KX G ?a4 ?l4 ?c4 ?k4 Ws.hb_added)
    case' a4 => k_is
    case' l4 => k_is
    case' c4 => k_is
    case' k4 => k_is
    refine' (fun D_is_entry => ?rD5) (Ws.Dt.mk' (x := "is_entry") (st := Ws.s_is_entry) (ps := Ws.pr_is_entry) KX G ?a5 ?l5 ?c5 ?k5 Ws.hb_is_entry)
    case' a5 => k_is
    case' l5 => k_is
    case' c5 => k_is
    case' k5 => k_is
    refine' (fun D_is_line => ?rD6) (Ws.Dt.mk' (x := "is_line") (st := Ws.s_is_line) (ps := Ws.pr_is_line) KX G ?a6 ?l6 ?c6 ?k6 Ws.hb_is_line)
    case' a6 => k_is
    case' l6 => k_is
    case' c6 => k_is
    case' k6 => k_is
    refine' (fun D_need_set => ?rD7) (Ws.Dt.mk' (x := "need_set") (st := Ws.s_need_set) (ps := Ws.pr_need_set) KX G ?a7 ?l7 ?c7 ?k7 Ws.hb_need_set)
    case' a7 => k_is
    case' l7 => k_is
    case' c7 => k_is
    case' k7 => k_is
    refine' (fun D_need_two_sets => ?rD8) (Ws.Dt.mk' (x := "need_two_sets") (st := Ws.s_need_two_sets) (ps := Ws.pr_need_two_sets) KX G ?a8 ?l8 ?c8 ?k8 Ws.hb_need_two_sets)
    case' a8 => k_is
    case' l8 => k_is
    case' c8 => k_is
    case' k8 => k_is
    refine' (fun D_unlike_periods => ?rD9) (Ws.Dt.mk' (x := "unlike_periods") (st := Ws.s_unlike_periods) (ps := Ws.pr_unlike_periods) KX G ?a9 ?l9 ?c9 ?k9 Ws.hb_unlike_periods)
    case' a9 => k_is
    case' l9 => k_is
    case' c9 => k_is
    case' k9 => k_is
    refine' (fun D_set_with => ?rD10) (Ws.Dt.mk' (x := "set_with") (st := Ws.s_set_with) (ps := Ws.pr_set_with) KX G ?a10 ?l10 ?c10 ?k10 Ws.hb_set_with)
    case' a10 => k_is
    case' l10 => k_is
    case' c10 => k_is
    case' k10 => k_is
    refine' (fun D_union => ?rD11) (Ws.Dt.mk' (x := "union") (st := Ws.s_union) (ps := Ws.pr_union) KX G ?a11 ?l11 ?c11 ?k11 Ws.hb_union)
    case' a11 => k_is
    case' l11 => k_is
    case' c11 => k_is
    case' k11 => k_is
    refine' (fun D_need_line => ?rD12) (Ws.Dt.mk' (x := "need_line") (st := Ws.s_need_line) (ps := Ws.pr_need_line) KX G ?a12 ?l12 ?c12 ?k12 Ws.hb_need_line)
    case' a12 => k_is
    case' l12 => k_is
    case' c12 => k_is
    case' k12 => k_is
    refine' (fun D_sum_of => ?rD13) (Ws.Dt.mk' (x := "sum_of") (st := Ws.s_sum_of) (ps := Ws.pr_sum_of) KX G ?a13 ?l13 ?c13 ?k13 Ws.hb_sum_of)
    case' a13 => k_is
    case' l13 => k_is
    case' c13 => k_is
    case' k13 => k_is
    refine' (fun D_star => ?rD14) (Ws.Dt.mk' (x := "star") (st := Ws.s_star) (ps := Ws.pr_star) KX G ?a14 ?l14 ?c14 ?k14 Ws.hb_star)
    case' a14 => k_is
    case' l14 => k_is
    case' c14 => k_is
    case' k14 => k_is
    refine' (fun D_choices_among => ?rD15) (Ws.Dt.mk' (x := "choices_among") (st := Ws.s_choices_among) (ps := Ws.pr_choices_among) KX G ?a15 ?l15 ?c15 ?k15 Ws.hb_choices_among)
    case' a15 => k_is
    case' l15 => k_is
    case' c15 => k_is
    case' k15 => k_is
    refine' (fun D__law_mixed => ?rD16) (Ws.Dt.mk' (x := "_law_mixed") (st := Ws.s__law_mixed) (ps := Ws.pr__law_mixed) KX G ?a16 ?l16 ?c16 ?k16 Ws.hb__law_mixed)
    case' a16 => k_is
    case' l16 => k_is
    case' c16 => k_is
    case' k16 => k_is
    refine' (fun D__law_begin => ?rD17) (Ws.Dt.mk' (x := "_law_begin") (st := Ws.s__law_begin) (ps := Ws.pr__law_begin) KX G ?a17 ?l17 ?c17 ?k17 Ws.hb__law_begin)
    case' a17 => k_is
    case' l17 => k_is
    case' c17 => k_is
    case' k17 => k_is
    refine' (fun D__law_draw => ?rD18) (Ws.Dt.mk' (x := "_law_draw") (st := Ws.s__law_draw) (ps := Ws.pr__law_draw) KX G ?a18 ?l18 ?c18 ?k18 Ws.hb__law_draw)
    case' a18 => k_is
    case' l18 => k_is
    case' c18 => k_is
    case' k18 => k_is
    refine' (fun D__law_row => ?rD19) (Ws.Dt.mk' (x := "_law_row") (st := Ws.s__law_row) (ps := Ws.pr__law_row) KX G ?a19 ?l19 ?c19 ?k19 Ws.hb__law_row)
    case' a19 => k_is
    case' l19 => k_is
    case' c19 => k_is
    case' k19 => k_is
    refine' (fun D__law_grid => ?rD20) (Ws.Dt.mk' (x := "_law_grid") (st := Ws.s__law_grid) (ps := Ws.pr__law_grid) KX G ?a20 ?l20 ?c20 ?k20 Ws.hb__law_grid)
    case' a20 => k_is
    case' l20 => k_is
    case' c20 => k_is
    case' k20 => k_is
    refine' (fun D__law_fills => ?rD21) (Ws.Dt.mk' (x := "_law_fills") (st := Ws.s__law_fills) (ps := Ws.pr__law_fills) KX G ?a21 ?l21 ?c21 ?k21 Ws.hb__law_fills)
    case' a21 => k_is
    case' l21 => k_is
    case' c21 => k_is
    case' k21 => k_is
    refine' (fun D__law_has => ?rD22) (Ws.Dt.mk' (x := "_law_has") (st := Ws.s__law_has) (ps := Ws.pr__law_has) KX G ?a22 ?l22 ?c22 ?k22 Ws.hb__law_has)
    case' a22 => k_is
    case' l22 => k_is
    case' c22 => k_is
    case' k22 => k_is
    refine' (fun D__law_like => ?rD23) (Ws.Dt.mk' (x := "_law_like") (st := Ws.s__law_like) (ps := Ws.pr__law_like) KX G ?a23 ?l23 ?c23 ?k23 Ws.hb__law_like)
    case' a23 => k_is
    case' l23 => k_is
    case' c23 => k_is
    case' k23 => k_is
    refine' (fun D__law_minus => ?rD24) (Ws.Dt.mk' (x := "_law_minus") (st := Ws.s__law_minus) (ps := Ws.pr__law_minus) KX G ?a24 ?l24 ?c24 ?k24 Ws.hb__law_minus)
    case' a24 => k_is
    case' l24 => k_is
    case' c24 => k_is
    case' k24 => k_is
    refine' (fun D__law_lines => ?rD25) (Ws.Dt.mk' (x := "_law_lines") (st := Ws.s__law_lines) (ps := Ws.pr__law_lines) KX G ?a25 ?l25 ?c25 ?k25 Ws.hb__law_lines)
    case' a25 => k_is
    case' l25 => k_is
    case' c25 => k_is
    case' k25 => k_is
    refine' (fun D__law_plus => ?rD26) (Ws.Dt.mk' (x := "_law_plus") (st := Ws.s__law_plus) (ps := Ws.pr__law_plus) KX G ?a26 ?l26 ?c26 ?k26 Ws.hb__law_plus)
    case' a26 => k_is
    case' l26 => k_is
    case' c26 => k_is
    case' k26 => k_is
    refine' (fun D__law_clean => ?rD27) (Ws.Dt.mk' (x := "_law_clean") (st := Ws.s__law_clean) (ps := Ws.pr__law_clean) KX G ?a27 ?l27 ?c27 ?k27 Ws.hb__law_clean)
    case' a27 => k_is
    case' l27 => k_is
    case' c27 => k_is
    case' k27 => k_is
    refine' (fun D__law_choices => ?rD28) (Ws.Dt.mk' (x := "_law_choices") (st := Ws.s__law_choices) (ps := Ws.pr__law_choices) KX G ?a28 ?l28 ?c28 ?k28 Ws.hb__law_choices)
    case' a28 => k_is
    case' l28 => k_is
    case' c28 => k_is
    case' k28 => k_is
    refine' (fun D__law_star_lines => ?rD29) (Ws.Dt.mk' (x := "_law_star_lines") (st := Ws.s__law_star_lines) (ps := Ws.pr__law_star_lines) KX G ?a29 ?l29 ?c29 ?k29 Ws.hb__law_star_lines)
    case' a29 => k_is
    case' l29 => k_is
    case' c29 => k_is
    case' k29 => k_is
    refine' (fun D__law_sums => ?rD30) (Ws.Dt.mk' (x := "_law_sums") (st := Ws.s__law_sums) (ps := Ws.pr__law_sums) KX G ?a30 ?l30 ?c30 ?k30 Ws.hb__law_sums)
    case' a30 => k_is
    case' l30 => k_is
    case' c30 => k_is
    case' k30 => k_is
    refine' (fun D__law_star_rows => ?rD31) (Ws.Dt.mk' (x := "_law_star_rows") (st := Ws.s__law_star_rows) (ps := Ws.pr__law_star_rows) KX G ?a31 ?l31 ?c31 ?k31 Ws.hb__law_star_rows)
    case' a31 => k_is
    case' l31 => k_is
    case' c31 => k_is
    case' k31 => k_is
    refine' (fun D__law_refusal => ?rD32) (Ws.Dt.mk' (x := "_law_refusal") (st := Ws.s__law_refusal) (ps := Ws.pr__law_refusal) KX G ?a32 ?l32 ?c32 ?k32 Ws.hb__law_refusal)
    case' a32 => k_is
    case' l32 => k_is
    case' c32 => k_is
    case' k32 => k_is
    refine' (fun D__law_refusals_right => ?rD33) (Ws.Dt.mk' (x := "_law_refusals_right") (st := Ws.s__law_refusals_right) (ps := Ws.pr__law_refusals_right) KX G ?a33 ?l33 ?c33 ?k33 Ws.hb__law_refusals_right)
    case' a33 => k_is
    case' l33 => k_is
    case' c33 => k_is
    case' k33 => k_is
    refine' (fun D__law_unions_right => ?rD34) (Ws.Dt.mk' (x := "_law_unions_right") (st := Ws.s__law_unions_right) (ps := Ws.pr__law_unions_right) KX G ?a34 ?l34 ?c34 ?k34 Ws.hb__law_unions_right)
    case' a34 => k_is
    case' l34 => k_is
    case' c34 => k_is
    case' k34 => k_is
    refine' (fun D__law_great_right => ?rD35) (Ws.Dt.mk' (x := "_law_great_right") (st := Ws.s__law_great_right) (ps := Ws.pr__law_great_right) KX G ?a35 ?l35 ?c35 ?k35 Ws.hb__law_great_right)
    case' a35 => k_is
    case' l35 => k_is
    case' c35 => k_is
    case' k35 => k_is
    refine' (fun E_BS => ?rEBS) (Ws.ErT.mk' (x := "BadSet") (f := "place") (q := "BadSet.__init__") (st := Ws.s_BS) KX G ?eaCBS ?exLBS ?ervBS ?esaBS ?egaBS ?eggBS ?enbBS ?ea1BS ?et1BS ?el1BS ?ec1BS ?ek1BS ?ekCBS ?eeCBS ?etCBS ?ehCBS Ws.hb_BS)
    case' eaCBS => k_is
    case' exLBS => k_is
    case' ervBS => decide +kernel
    case' esaBS => k_is
    case' egaBS => k_is
    case' eggBS => k_is
    case' enbBS => k_is
    case' ea1BS => k_is
    case' et1BS => k_is
    case' el1BS => k_is
    case' ec1BS => k_is
    case' ek1BS => k_is
    case' ekCBS => k_is
    case' eeCBS => k_is
    case' etCBS => k_is
    case' ehCBS => k_is
    refine' (fun E_TG => ?rETG) (Ws.ErT.mk' (x := "TooGreat") (f := "most") (q := "TooGreat.__init__") (st := Ws.s_TG) KX G ?eaCTG ?exLTG ?ervTG ?esaTG ?egaTG ?eggTG ?enbTG ?ea1TG ?et1TG ?el1TG ?ec1TG ?ek1TG ?ekCTG ?eeCTG ?etCTG ?ehCTG Ws.hb_TG)
    case' eaCTG => k_is
    case' exLTG => k_is
    case' ervTG => decide +kernel
    case' esaTG => k_is
    case' egaTG => k_is
    case' eggTG => k_is
    case' enbTG => k_is
    case' ea1TG => k_is
    case' et1TG => k_is
    case' el1TG => k_is
    case' ec1TG => k_is
    case' ek1TG => k_is
    case' ekCTG => k_is
    case' eeCTG => k_is
    case' etCTG => k_is
    case' ehCTG => k_is
    refine' (fun E_BU => ?rEBU) (Ws.ErT.mk' (x := "Unlike") (f := "value") (q := "Unlike.__init__") (st := Ws.s_BU) KX G ?eaCBU ?exLBU ?ervBU ?esaBU ?egaBU ?eggBU ?enbBU ?ea1BU ?et1BU ?el1BU ?ec1BU ?ek1BU ?ekCBU ?eeCBU ?etCBU ?ehCBU Ws.hb_BU)
    case' eaCBU => k_is
    case' exLBU => k_is
    case' ervBU => decide +kernel
    case' esaBU => k_is
    case' egaBU => k_is
    case' eggBU => k_is
    case' enbBU => k_is
    case' ea1BU => k_is
    case' et1BU => k_is
    case' el1BU => k_is
    case' ec1BU => k_is
    case' ek1BU => k_is
    case' ekCBU => k_is
    case' eeCBU => k_is
    case' etCBU => k_is
    case' ehCBU => k_is
    refine' (fun B_ => ?rB) (Ws.Bl.mk' KX G ?z1 ?z2 ?z3 ?z4 ?z5 ?z6 ?z7 ?z8 ?z9 ?z10 ?z11 ?z12 ?z13 ?z14 ?z15 ?z16 ?z17 ?z18 ?z19)
    case' z1 => k_is
    case' z2 => k_is
    case' z3 => k_is
    case' z4 => k_is
    case' z5 => k_is
    case' z6 => k_is
    case' z7 => k_is
    case' z8 => k_is
    case' z9 => k_is
    case' z10 => k_is
    case' z11 => k_is
    case' z12 => k_is
    case' z13 => k_is
    case' z14 => k_is
    case' z15 => k_is
    case' z16 => k_is
    case' z17 => k_is
    case' z18 => k_is
    case' z19 => k_is
    refine' (fun C2_ => ?rC2) (Ws.CsL.mk' KX G ?y1 ?y2 ?y3)
    case' y1 => exact hX.2.val _ (List.mem_cons_self ..)
    case' y2 => k_is
    case' y3 => k_is
    refine' (fun C3_ => ?rC3) (Ws.CsS.mk' KX G ?y4)
    case' y4 => k_is
    refine' (fun XE_ => ?rXE) (Ws.Ex25.mk' E_BS.mgC E_TG.mgC E_BU.mgC KX G ?xn1 ?xs1 ?xs2 ?xs3 ?xg1 ?xg2 ?xg3 ?xu1 ?xu2 ?xu3 ?xss ?xus ?xuu ?xgs ?xgu ?xgg)
    case' xn1 => k_is
    case' xs1 => k_is
    case' xs2 => k_is
    case' xs3 => k_is
    case' xg1 => k_is
    case' xg2 => k_is
    case' xg3 => k_is
    case' xu1 => k_is
    case' xu2 => k_is
    case' xu3 => k_is
    case' xss => k_is
    case' xus => k_is
    case' xuu => k_is
    case' xgs => k_is
    case' xgu => k_is
    case' xgg => k_is
    refine' Ws.fin KX G hmg ?wa ?wl ?wc ?wk XE_ B_ C2_ C3_ E_BS E_TG E_BU ⟨D_is_integer, D_is_between, D_is_tuple_of, D_are_between, D_added, D_is_entry, D_is_line, D_need_set, D_need_two_sets, D_unlike_periods, D_set_with, D_union, D_need_line, D_sum_of, D_star, D_choices_among, D__law_mixed, D__law_begin, D__law_draw, D__law_row, D__law_grid, D__law_fills, D__law_has, D__law_like, D__law_minus, D__law_lines, D__law_plus, D__law_clean, D__law_choices, D__law_star_lines, D__law_sums, D__law_star_rows, D__law_refusal, D__law_refusals_right, D__law_unions_right, D__law_great_right⟩
    case' wa => k_is
    case' wl => k_is
    case' wc => k_is
    case' wk => k_is
