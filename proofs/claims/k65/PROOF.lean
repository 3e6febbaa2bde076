import PyProof.Rows.All
import Wide.All
import OpenK.AllK
import Wide.FinOn
import KE.GoesEnum
import HandS.ForMost
import HandS.Zip
import HandS.Walk
import HandS.Evl
import HandS.SortKw
import HandS.MakeKwOnly
import HandS.Conv
import HandS.TupLe
import HandS.TupAny
import KE.DataMinMax
import HandS.Codes
import HandS.TupSets
import HandS.More
import KE.KDictSum
import HandS.DictTup
import KE.KDictCopyH
import HandS.Deep
import HandS.ForExc
import KE.KExcInit
import HandS.Lambda
import HandS.Defaults
import KE.GoesMore
import HandS.TryMany
import HandS.IsInst
import PyProof.ReprLen
import HandS.ExcIs
import KE.KExcIs
import HandS.Comp
import HandS.Exc
import KE.GoesComp
import KE.KAsSuite
import HandS.RepeatKit
import PyProof.CollectStr
import HandS.Flow
import HandS.Rev
import HandS.TupMul
import KE.DataCmp
import KE.SortData
import HandS.Style
import HandS.Wide
import HandS.Text
import HandS.CallLocal
import PyProof.Rows.StrJoinStr
import HandS.Steps
import KE.KxText
import PyProof.StrLawsIn
import HandS.Words
import PySem.Challenge.RW_rueless_k65_least_sets_that_meet
set_option autoImplicit true
set_option Elab.async false
set_option linter.all false
set_option maxRecDepth 100000
set_option maxHeartbeats 2000000
/-! enumerate over a tuple -/
namespace My
open PySem PySem.Spec PyProof.Rows L2
section
variable {prog : Program} {w : World} {A : Around} {E : Value → Shared → Prop} {s : Shared}
theorem drawsTup (hh : A.handled = none) (it l : Addr) (hne : l ≠ it) (items : Array Value) :
    Draws prog w A it [it, l] items.size (fun i v => items[i]? = some v) (fun i h => h.IsTupleIter it l i ∧ h.IsTuple l items) := by
  refine ⟨fun i h st => ?_, fun i h h' st hk => ?_, fun i s Q E hi st hQ => ?_, fun s Q E st hE => ?_⟩
  · obtain ⟨⟨o, ho, _⟩, _⟩ := st
    exact ⟨o, ho⟩
  · exact ⟨st.1.at fun o e => hk it (by simp) o e, st.2.at fun o e => hk l (by simp) o e⟩
  · have hx : items[i]? = some items[i] := by simp [hi]
    refine RZ.nextOf_tuple_item st.1 st.2 hx fun h' hit' sb => ?_
    exact hQ _ h' s.toks hx ⟨hit', st.2.at fun o e => (sb.2 l hne).trans e⟩ sb
  · exact RZ.nextOf_tuple_end hh st.1 st.2 (by simp) hE
theorem meetsEnumT {v : Value} {o : Obj} {Hh : Heap → Prop} (B : Begins v o Hh) :
    Meets (Builtin.«enumerate.__new__» ⟨[.type "enumerate", v], []⟩) (fun _ R s => Hh s.heap ∧
      R (.ok (.ret (.ref (s.heap.push o).objs.size))) { s with heap := (s.heap.push o).push { cls := .type "enumerate", data := .fields #[.none, .bool false, .ref s.heap.objs.size, rawInt 0, .none, .none] } }) :=
  .of_wp fun prog w A R s hyp => by
    obtain ⟨hp, g, d, tk, os⟩ := s
    obtain ⟨h1, hR⟩ := hyp
    have hsub := sub_enumerate
    have it1 : ∀ {A' : Around} {E : Value → Shared → Prop} {Q : Value → Shared → Prop}, Q (.ref hp.objs.size) ⟨hp.push o, g, d, tk, os⟩ → wpAny (model prog w) A' (pyIter v) Q E ⟨hp, g, d, tk, os⟩ :=
      fun q => B.iter prog w _ _ ⟨hp, g, d, tk, os⟩ _ h1 q
    wp_walk using it1
    refine wpAny_stack_any fun st => wpAny_pure ?_
    split
    · rename_i c _ _ _ _ _
      cases (c == Value.type "enumerate") <;> (wp_walk using it1; exact ⟨_, rfl, hR⟩)
    · wp_walk using it1
      exact ⟨_, rfl, hR⟩
theorem callEnumT {v : Value} {o : Obj} {Hh : Heap → Prop} {Q : Value → Shared → Prop} (B : Begins v o Hh) (h1 : Hh s.heap)
    (k : ∀ h', IsEnum h' (s.heap.objs.size + 1) s.heap.objs.size 0 .none → h'.get? s.heap.objs.size = some o →
      (∀ b o, s.heap.get? b = some o → h'.get? b = some o) → Q (.ref (s.heap.objs.size + 1)) { s with heap := h' }) :
    wpAny (model prog w) A (call (.type "enumerate") [v]) Q E s := by
  refine callType_new F.called_enumerate (by decide) (F.typeCall_enumerate_1 _) (F.newCall_enumerate_1 _) (fun obj => F.args_object_init_2 obj _) F.entry_enumerate_new (meetsEnumT B) ⟨h1, ?_⟩
  have sz : (s.heap.push o).objs.size = s.heap.objs.size + 1 := Heap.size_push ..
  show _ ∧ _
  rw [sz]
  have he := Heap.get?_push_size (s.heap.push o) (o := { cls := .type "enumerate", data := .fields #[.none, .bool false, .ref s.heap.objs.size, rawInt 0, .none, .none] }) rfl
  rw [sz] at he
  exact ⟨⟨_, he, rfl⟩, k _ he (Heap.get?_push_of_some _ (Heap.get?_push_size _ B.free)) fun b u q => Heap.get?_push_of_some _ (Heap.get?_push_of_some _ q)⟩
end
/-- a tuple's items, each in a new pair with its number -/
def IteT (K : PySem.W.Frag) (a : Addr) : It :=
  ⟨fun i H => ∃ (xs : List V) (x : V), SqT K H a xs ∧ xs[i]? = some x,
   fun i H v H' => ∃ T x, v = .ref T ∧ H T = none ∧ H' = upd H T (.tup [.int (i : Nat), x]) ∧ ∀ xs, SqT K H a xs → xs[i]? = some x,
   fun i H => ∃ xs : List V, SqT K H a xs ∧ xs.length ≤ i⟩
theorem turnEnumT {P : Program} {w : World} {K : PySem.W.Frag} {elts : List Expr} {kk : Nat} {tpos : Pos} (a e it : Addr) :
    Turn P w K (.Tuple elts kk tpos) (IteT K a) [e, it] e (fun i h => (∃ old, IsEnum h e it ((i : Nat) : Int) old) ∧ h.IsTupleIter it a i ∧ e ≠ it ∧ a ≠ it ∧ a ≠ e) where
  mem := by simp
  obj := fun i h st b hb => by
    obtain ⟨⟨old, he⟩, ⟨o, ho, _, hd⟩, _⟩ := st
    rcases (by simpa using hb : b = e ∨ b = it) with z | z
    · rw [z]
      exact ⟨_, he, fun v q => nomatch q⟩
    · rw [z]
      exact ⟨o, ho, fun v q => by rw [hd] at q; cases q⟩
  keep := fun i h h' st k => by
    obtain ⟨⟨old, he⟩, hi, n1, n2, n3⟩ := st
    exact ⟨⟨old, k e (by simp) _ he⟩, hi.at fun o q => k it (by simp) o q, n1, n2, n3⟩
  item := by
    intro X hP hw hK hc i pins s σ H E I hf st hg
    subst hP hw hK
    obtain ⟨⟨old, he⟩, hit, hne, hna, hnae⟩ := st
    obtain ⟨xs, x, hq, hx⟩ := hg
    obtain ⟨its, rv, p, _⟩ := I.tuple hq
    obtain ⟨u, hu, ru⟩ := rv.get hx
    have lt1 : e < s.heap.objs.size := Heap.lt_size he
    have lt2 : it < s.heap.objs.size := by
      obtain ⟨_, q, _⟩ := hit
      exact Heap.lt_size q
    have hui : its.toArray[i]? = some u := by simpa using hu
    have hlt : i < its.toArray.size := by
      obtain ⟨h1, _⟩ := Array.getElem?_eq_some_iff.mp hui
      exact h1
    refine wpAny_pyNext_enum_itemD (drawsTup (A := X.A.in1) (I.ok.hd hc) it a hna its.toArray) he ⟨hit, p⟩ hlt hne (by simp [hne, Ne.symm hnae]) fun u' h' tk hu' ho st' hT sz hk => ?_
    have eu : u' = u := Option.some.inj (hu'.symm.trans hui)
    subst eu
    refine ⟨_, rfl, wpAny_letOwnedTupleGo_enum (s := { s with heap := h', toks := tk + 1 }) ho fun h'' he' sb => ?_⟩
    have hT2 : h''.get? s.heap.objs.size = some { cls := .type "tuple", data := .seq #[.int i tk, u'] } := (sb.2 _ (Nat.ne_of_gt lt1)).trans hT
    have new : ObjOk X.prog X.w (upd H s.heap.objs.size (.tup [.int (i : Nat), x])) h'' s.heap.objs.size (.tup [.int (i : Nat), x]) :=
      ⟨by show 2 ≤ sizeLine; decide, [.int i tk, u'], .cons ⟨_, rfl⟩ (.cons ru .nil), ⟨_, hT2, rfl, _, rfl⟩⟩
    have I1 : Inv X pins σ (upd H s.heap.objs.size (.tup [.int (i : Nat), x])) { s with heap := h'', toks := tk + 1 } :=
      I.turnedNew (ch := [e, it]) (fun b ob hb q => (sb.2 b (fun z => hb (by simp [z]))).trans (hk b ob (fun z => hb (by simp [z])) (fun z => hb (by simp [z])) q)) hf (Nat.le_refl _) new
    refine ⟨.ref s.heap.objs.size, _, I1, rfl, ⟨_, x, rfl, I.hok.fresh (Nat.le_refl _), rfl, fun ys hy => by rw [I.tuple_inj hy hq]; exact hx⟩, ⟨⟨u', ?_⟩, st'.1.at fun o q => (sb.2 it (Ne.symm hne)).trans q, hne, hna, hnae⟩, fun b hb => ?_⟩
    · have e1 : ((i + 1 : Nat) : Int) = (i : Int) + 1 := by omega
      rw [e1]
      exact he'
    · have lt3 : b < s.heap.objs.size := by
        rcases (by simpa using hb : b = e ∨ b = it) with z | z
        · rw [z]; exact lt1
        · rw [z]; exact lt2
      rw [upd_ne (Nat.ne_of_lt lt3)]
      exact (hf b hb).1
  done := by
    intro X hP hw hK hc i pins s σ H E I hf st hg
    subst hP hw hK
    obtain ⟨⟨old, he⟩, hit, hne, hna, hnae⟩ := st
    obtain ⟨xs, hq, hx⟩ := hg
    obtain ⟨its, rv, p, _⟩ := I.tuple hq
    obtain ⟨f0, f1, f2, f3, f4, f5⟩ := hf it (by simp)
    have hl := rv.length
    have hcase : its.toArray[i]? = none := by
      rw [Array.getElem?_eq_none_iff]
      simp
      omega
    unfold pyNext
    have hTy : s.TypeIs (.ref e) "enumerate" := ⟨_, he, rfl⟩
    refine wpAny_bind (wpAny_attempt (wpAny_callSpecial?_slot (name := Str.ofString "__next__") hTy F.slot_enumerate_next
      (wpAny_call_entry F.slot_enumerate_next hTy F.entry_enumerate_next ?_ (F.args_enumerate_next_1 _))))
    show wpAny _ _ (field (.ref e) 2 >>= _) _ _ _
    refine wpAny_bind (wpAny_field he rfl (x := .ref it) rfl ?_)
    refine wpAny_bind (RZ.nextOf_tuple_end (show X.A.in1.handled = none from I.ok.hd hc) hit p hcase fun h' x he' hx' => ?_)
    obtain ⟨o, ho, hcl⟩ := hx'
    refine wpAny_bind (wpAny_isInstance (T := "StopIteration") (b := true) ⟨o, ho, hcl⟩ isSubtype_stop ?_)
    exact wpAny_pure ⟨rfl, I.turned (t' := s.toks) (fun b o hb q => he' b o hb q) f0 f1 f3 f4 f5⟩
  self := fun A i s Q E st h => by
    obtain ⟨⟨_, he⟩, _⟩ := st
    exact wpAny_pyIter_enum he h
def iEnumT (K : PySem.W.Frag) (ta : TA) : TI := fun σ H R => ta σ H fun vs H1 => ∃ a xs, vs = [.ref a] ∧ SqT K H1 a xs ∧ R (IteT K a) H1
theorem pi_enumT {X : Cx} {e : Expr} {ta : TA} {p pos tpos : Pos} {elts : List Expr} {kk : Nat} (hg : Gl X "enumerate") (hm : X.mg "enumerate" = none) (ha : PA X [e] ta) (hs : starEach [e] X.env = [(false, eval e X.env)] := by rfl) :
    PI X (.Tuple elts kk tpos) (.Call (.Name "enumerate" p) [e] [] pos) (iEnumT X.K ta) := by
  refine ⟨fun pins s σ H R I h => ?_⟩
  refine Call_ (ld_blt I hg hm boot_enumerate (PyProof.Rows.callWith_type1 (thn (ha.run pos pins s σ H _ I h) fun us s1 ⟨vs, H1, I1, r1, q1⟩ => ?_) hs rfl))
  obtain ⟨a, xs, ex, hq, q⟩ := q1
  subst ex
  cases r1 with
  | cons r rr =>
    cases rr
    cases r
    obtain ⟨its, rv, p', _⟩ := I1.tuple hq
    have la : a < s1.heap.objs.size := by
      obtain ⟨_, q0, _⟩ := p'
      exact Heap.lt_size q0
    refine callEnumT (begins_tuple a its.toArray) p' fun h' he hit hk => wpAny_pyIter_enum he ?_
    have I2 : Inv X pins σ H1 { s1 with heap := h' } := I1.kept (t' := s1.toks) hk
    refine ⟨s1.heap.objs.size + 1, [s1.heap.objs.size + 1, s1.heap.objs.size], _, _, H1, rfl, I2, turnEnumT a (s1.heap.objs.size + 1) s1.heap.objs.size, ⟨⟨.none, he⟩, ⟨_, hit, rfl, rfl⟩, Nat.succ_ne_self _, Nat.ne_of_lt la, Nat.ne_of_lt (Nat.lt_succ_of_lt la)⟩, fun b hb => ?_, q⟩
    have hle : s1.heap.objs.size ≤ b := by
      rcases (by simpa using hb : b = s1.heap.objs.size + 1 ∨ b = s1.heap.objs.size) with z | z
      · rw [z]; exact Nat.le_add_right _ _
      · rw [z]; exact Nat.le_refl _
    exact I1.fpOk hle (I1.hok.fresh hle)
theorem walk_enumT {K : PySem.W.Frag} {a : Addr} {xs : List V} : Walk (IteT K a) xs.length (fun H => SqT K H a xs) (YPair (fun i => some (.int (i : Nat))) (fun i => xs[i]?)) := by
  refine ⟨fun i H hi q => ⟨xs, _, q, List.getElem?_eq_getElem hi⟩, fun H q => ⟨xs, q, Nat.le_refl _⟩, fun i H x H' hi q y => ?_⟩
  obtain ⟨T, x', rfl, hT, rfl, f⟩ := y
  exact ⟨T, _, x', rfl, hT, rfl, rfl, f xs q⟩
end My
set_option autoImplicit true
set_option Elab.async false
set_option linter.all false
set_option maxRecDepth 100000
set_option maxHeartbeats 2000000
/-! rules that the layer lacks: an item read for xs[i] op= e, max with a default, repr of data, a def that runs where nothing is guarded -/
namespace My
open PySem PySem.Spec PyProof.Rows L2
section
variable {X : Cx}
/-- xs[i] of a tracked list, i a place -/
def gL : V → V → Hp → VK → Prop := fun o i H Q => ∃ (p : Addr) (xs : List V) (j : Nat) (v : V), o = .ref p ∧ i = .int (j : Int) ∧ H p = some (.lst xs) ∧ xs[j]? = some v ∧ Q v H
theorem pgetL : PGet X gL := by
  intro pins s σ H o i ov iv Q I ro ri h
  obtain ⟨p, xs, j, v, rfl, rfl, hp, hx, q⟩ := h
  cases ro
  obtain ⟨t, rfl⟩ := ri
  obtain ⟨its, rv, pl, hz⟩ := I.list (SqL.of (K := X.K) hp)
  obtain ⟨u, hu, ru⟩ := rv.get hx
  have hj : j < xs.length := (List.getElem?_eq_some_iff.mp hx).1
  have line : (sizeLine : Int) < 2 ^ 63 := by decide
  have hi : its.toArray[(j : Int).toNat]? = some u := by simpa using hu
  exact wpAny_getItem_list pl.isList (Int.natCast_nonneg j) (by omega) hi ⟨v, H, I, ru, q⟩
/-- max(xs, default=d) of ints -/
def rMaxD (K : PySem.W.Frag) : List V → List V → Hp → VK → Prop := fun xs zs H Q => ∃ (a : Addr) (ns : List Int) (d : Int), xs = [.ref a] ∧ zs = [.int d] ∧ SqL K H a (ns.map V.int) ∧
  Q (.int (match ns with | [] => d | n :: r => r.foldl max n)) H
theorem dpInts {K : PySem.W.Frag} {H : Hp} : ∀ ns : List Int, DpAll K H (ns.map V.int) (ns.map PyData.int)
  | [] => .nil
  | n :: r => .cons (.int n) (dpInts r)
theorem alikeInts (ns : List Int) : PySem.W.AlikeAll (ns.map PyData.int) := by
  refine ⟨fun x hx y hy => ?_, fun x hx e => ?_⟩
  · obtain ⟨i, _, rfl⟩ := List.mem_map.mp hx
    obtain ⟨j, _, rfl⟩ := List.mem_map.mp hy
    rfl
  · obtain ⟨i, _, rfl⟩ := List.mem_map.mp hx
    cases e
theorem depthInts : ∀ ns : List Int, PyData.depthAll (ns.map PyData.int) = 0
  | [] => rfl
  | n :: r => by
    show max (PyData.depth (.int n)) (PyData.depthAll (r.map PyData.int)) = 0
    rw [depthInts r]
    rfl
theorem cr_maxD (hc : X.calm = true) (hu : X.A.units + 64 < cLine) : CallRK X (.builtin "max") ["default"] (rMaxD X.K) := by
  intro pins s σ H xs zs us ws Q I r rz h
  obtain ⟨a, ns, d, rfl, rfl, hs, q⟩ := h
  obtain ⟨u, rfl, t, rfl⟩ := vals1 rz
  obtain ⟨its, rv, pl, _⟩ := I.list hs
  rw [Vals.ref1 r]
  obtain ⟨as, hr⟩ := Dp.readsAll I _ _ its (dpInts ns) rv
  refine PySem.W.max_list_default (I.ok.hd hc) pl.isList (by simpa using hr) (alikeInts ns) (by rw [depthInts]; omega) (fun e h' tk hk => ?_) (fun y ys i v h' tk bs e hv hrd hk => ?_)
  · have e0 : ns = [] := by simpa using e
    subst e0
    exact ⟨.int d, H, I.kept hk, ⟨_, rfl⟩, q⟩
  · cases ns with
    | nil => cases e
    | cons n r0 =>
      injection e with e1 e2
      subst e1 e2
      rw [PySem.W.maxD_ints] at hrd
      cases hrd
      exact ⟨.int _, H, I.kept hk, ⟨_, rfl⟩, q⟩
/-- repr of data -/
def rRepr (K : PySem.W.Frag) : List V → Hp → VK → Prop := fun xs H Q => ∃ (v : V) (d : PyData), xs = [v] ∧ Dp K H v d ∧ isDisplay d = true ∧ d.showable = true ∧ d.hasDict = false ∧ d.depth ≤ 60 ∧ d.shown.length ≤ sizeLine ∧ Q (.str d.shown) H
theorem cr_repr (hg : X.A.guards = some []) (hu : X.A.units + 64 < cLine) : CallR X (.builtin "repr") (rRepr X.K) := by
  intro pins s σ H xs us Q I r h
  obtain ⟨v, d, rfl, hd, hdis, hsh, hnd, hdep, hlen, q⟩ := h
  obtain ⟨u, rfl, ru⟩ := vals1 r
  obtain ⟨as, rd⟩ := Dp.reads I d v u hd ru
  obtain ⟨a, rfl⟩ := isRef_of_reads rd hdis
  exact repr_of_reads' rd hsh (PyData.noDict_hsm hnd) hg (by omega) (fun _ _ e => e) (fun h' t tk hk => ⟨.str d.shown, H, I.kept hk, ⟨_, rfl⟩, q⟩) hlen
end
end My
set_option autoImplicit true
set_option Elab.async false
set_option linter.all false
set_option maxRecDepth 100000
set_option maxHeartbeats 2000000
/-! a def that is run where no guard stands (repr asks it): its promise, its call, the end of a law's row -/
namespace My
open PySem PySem.Spec PyProof.Rows L2
/-- as FnOk, asked only where no guard stands around -/
structure FnG (P : Program) (w : World) (K : PySem.W.Frag) (mg : Str → Option Value) (base : Heap) (CX : CXT) (k : Nat) (f : Addr) (fd : FuncData) (ps : List Str) (sp : Sp) : Prop where
  len : ∀ vs H Q E, sp vs H Q E → vs.length = ps.length
  run : ∀ (A : Around) (outer : List Env) (s : Shared) (H : Hp) (args : Args) (us : List Value) (vs : List V) (Q : VK) (E : XK), A.guards = some [] → Room k A → Env0 P w K mg base A outer s H → BindsTo s fd args (ps.zip us) → Vals vs us →
    sp vs H Q E → codeAny (model P w) A (.call (.ref f) args) (CR CX outer P w H s Q E) s
section
variable {P : Program} {w : World} {K : PySem.W.Frag} {mg : Str → Option Value} {base : Heap}
theorem okG {x qual : Str} {st : Stmt} {f : Addr} {fd : FuncData} {N ps : List Str} {k : Nat} {sp : Sp} (F : Fun K x qual st f fd) (S : FnScope N ps (defScope st)) (len : ∀ vs H Q E, sp vs H Q E → vs.length = ps.length)
    (hbody : ∀ (cdv : Value) (A : Around) (outer : List Env) (s : Shared) (H : Hp) (vs : List V) (Q : VK) (E : XK), A.guards = some [] → Room k (A.deeper (envOfC qual (defScope st) s.heap.objs.size f cdv)) → sp vs H Q E →
      ∃ t, PSs (cxOf CX0 P w K mg base N qual (defScope st) f cdv A outer s H E).nox (defBody st) t ∧ t { nx := fun _ H' => Q .non H', rt := Q } (start N vs) H) : FnG P w K mg base CX0 (k + 1) f fd ps sp := by
  obtain ⟨oc, od, kV, doc, pm, an, cdv, ct, osl, rfl, lk, hcd⟩ := F.ex
  refine ⟨len, fun A outer s H args us vs Q E gd hr e0 hb r hsp => ?_⟩
  have same := e0.bs
  have KX : K.In s.heap := e0.mod.kin.keeps fun b o e => (same b o e).1
  have lim : s.heap.NoLimit := e0.mod.nolimit.keeps fun b o e => (same b o e).1
  have nl := len _ _ _ _ hsp
  have kinds : ∀ y ∈ ps.zip us, (defScope st).names.lookup y.1 = some .local ∨ ((defScope st).names.lookup y.1 = some .cell ∧ ((cellsFrom (s.heap.objs.size + 1) (defScope st).names []).lookup y.1).isSome = true) := by
    rintro ⟨n, v⟩ hy
    have hn := S.par n (List.of_mem_zip hy).1
    exact hn.imp id fun q => ⟨q, PySem.W.cellsFrom_some _ _ _ (.inl q)⟩
  refine codeAny_call_function hr.depth (KX _ _ lk) rfl S.co S.gen rfl (PySem.W.codeRec_of KX hcd) (hb _ _ _ _ ?_)
  refine wpAny_newFunctionEnv_cells S.kind kinds fun env he s1 x => ?_
  subst he
  refine ⟨lim.keeps x.toInCall.keep, codeAny_func ?_⟩
  obtain ⟨t, ht, hq⟩ := hbody cdv A outer s H vs Q E gd (hr.deeper _) hsp
  have I : Inv (cxOf CX0 P w K mg base N qual (defScope st) f cdv A outer s H E) [] (start N vs) H s1 := inv_start S hr.hd e0 nl r x
  refine wpAny_mono (ht.nox.run [] s1 (start N vs) H _ I hq) (fun fl s' hs => ?_) fun e s' hs => hs
  cases fl with
  | ret u =>
    obtain ⟨v, σ', H', J, rv, q⟩ := hs
    exact ⟨v, H', J.os, J.bare, J.base, J.hok, rv, q⟩
  | next =>
    obtain ⟨σ', H', J, q⟩ := hs
    exact ⟨.non, H', J.os, J.bare, J.base, J.hok, rfl, q⟩
  | brk =>
    obtain ⟨_, _, _, q⟩ := hs
    exact q.elim
  | cont =>
    obtain ⟨_, _, _, q⟩ := hs
    exact q.elim
end
section
variable {X : Cx} {CX : CXT} {k : Nat} {f : Addr} {fd : FuncData} {ps : List Str} {sp : Sp} {dvs : List V} {ds : List Value} {E : XK} {x : Str} {p pos : Pos} {e : Expr} {es : List Expr} {t : TA}
theorem runG {pins : List (Addr × Obj)} {σ : L2.St} {H : Hp} {s : Shared} {Q : VK} {us : List Value} {vs : List V} (F : FnG X.prog X.w X.K X.mg X.base CX k f fd ps sp) (gd : X.A.guards = some []) (hr : Room k X.A) (hb : Binds X.K fd ps ds) (hd : Vals dvs ds)
    (hx : Passes CX X E) (I : Inv X pins σ H s) (r : Vals vs us) (h : sp (vs ++ dvs) H Q E) : wpAny (model X.prog X.w) X.A (call (.ref f) us) (EP X pins σ Q) X.xe s := by
  have r2 : Vals (vs ++ dvs) (us ++ ds) := r.append hd
  have hl : (us ++ ds).length = ps.length := r2.length.symm.trans (F.len _ _ _ _ h)
  refine wpAny_call (codeAny_mono (F.run X.A X.stack s H ⟨us, []⟩ (us ++ ds) (vs ++ dvs) Q E gd hr I.env0 (hb s us I.kIn hl) r2 h) fun r s' hq => ?_)
  match r, hq with
  | .error e, hq => exact hx pins σ H s e s' I hq
  | .ok (.ret u), hq => exact I.after hq
  | .ok .next, hq => exact False.elim hq
  | .ok .brk, hq => exact False.elim hq
  | .ok .cont, hq => exact False.elim hq
theorem pe_callG1 (F : FnG X.prog X.w X.K X.mg X.base CX k f fd ps sp) (gd : X.A.guards = some []) (hr : Room k X.A) (hg : Gl X x) (hm : X.mg x = some (.ref f)) (hk : PySem.W.keepIn X.K (.ref f) = true) (hb : Binds X.K fd ps ds) (hd : Vals dvs ds) (hx : Passes CX X E)
    (ha : PA X (e :: es) t) (hs : starEach (e :: es) X.env = (false, eval e X.env) :: starEach es X.env := by rfl) (hpl : (backTo pos (starEach es X.env)).any (·.1) = false := by rfl) (hdb : (x == ("__debug__" : Str)) = false := by decide) :
    PE X (.Call (.Name x p) (e :: es) [] pos) (tCall sp dvs E t) := by
  refine ⟨fun pins s σ H Q I h => ?_⟩
  refine wpAny_Call_Name_kw (ld_glob I hg hm ?_ hdb)
  refine PySem.W.callWith_K (h₀ := X.base) I.ok.mod.kin hk (thn (ha.run pos pins s σ H _ I h) fun us s1 ⟨vs, H1, I1, r1, q1⟩ => ⟨I1.kIn, ?_⟩) hs hpl
  exact runG F gd hr hb hd hx I1 r1 q1
end
end My
set_option autoImplicit true
set_option Elab.async false
set_option linter.all false
set_option maxRecDepth 100000
set_option maxHeartbeats 2000000
namespace My
open PySem PySem.Spec PyProof.Rows L2
/-! ### the end of a row whose law is run where no guard stands -/
theorem lawG {P : Program} {w : World} {K : PySem.W.Frag} {mg mb : Str → Option Value} {k : Nat} {fa a : Addr} {fd : FuncData} {x : Str} {sp : Sp} {s1 : Shared} {vs : List Value} {ns : List Int}
    (KX : K.In s1.heap) (hns : s1.heap.Ns mainGlobals mg) (hb : s1.heap.Ns builtinsNs mb) (hbb : ∀ x : Str, x ≠ "__name__" → mb x = bootBuiltins x) (hlim : s1.heap.NoLimit) (hgen : s1.gens = #[])
    (ha : s1.heap.get? a = some { cls := .type "list", data := .seq vs.toArray }) (hi : IntsAre vs ns) (hl : ns.length ≤ sizeLine) (hr : Room k callerA)
    (F : ∀ base : Heap, K.In base → base.Ns mainGlobals mg → FnG P w K mg base CX0 k fa fd [x] sp) (hbind : ∀ (s : Shared) (u : Value), BindsTo s fd ⟨[u], []⟩ [(x, u)])
    (hsp : ∀ H : Hp, Only H → SqL K H a (ns.map V.int) → sp [.ref a] H (fun v _ => v = .bl true) fun _ _ _ => False) :
    codeAny (model P w) callerA (.call (.ref fa) ⟨[.ref a], []⟩) (fun r s' => r = .ok (.ret (.bool true)) ∧ OldK s1.heap s'.heap ∧ s'.os = s1.os ∧ AllBare s'.gens) s1 := by
  have rv := vals_ints hi
  have nV := hi.length
  have main : ∀ H : Hp, Only H → SqL K H a (ns.map V.int) → HOk P w H s1.heap → (∀ b, H b ≠ none → b = a) → (H a ≠ none → K.lookup a = none) →
      codeAny (model P w) callerA (.call (.ref fa) ⟨[.ref a], []⟩) (fun r s' => r = .ok (.ret (.bool true)) ∧ OldK s1.heap s'.heap ∧ s'.os = s1.os ∧ AllBare s'.gens) s1 := by
    intro H hO hS hok hA hK
    have hid : ∀ {b : Addr} {o : Obj}, s1.heap.get? b = some o → H b = none → (hidT s1.heap H).get? b = some o := fun e n => hidT_get e n
    have free : ∀ {b : Addr} {o : Obj}, s1.heap.get? b = some o → (b = a → False) → H b = none := fun {b o} e d => by
      cases q : H b with
      | none => rfl
      | some u => exact (d (hA b (by rw [q]; simp))).elim
    have dictFree : ∀ {b : Addr} {o : Obj} {es : Array DictEntry} {ep : Nat}, s1.heap.get? b = some o → o.data = .dict es ep → H b = none := fun {b o es ep} e d => free e fun z => by
      subst z
      rw [ha] at e
      cases e
      cases d
    have nsB : ∀ {b : Addr} {m : Str → Option Value}, s1.heap.Ns b m → (hidT s1.heap H).Ns b m := fun {b m} q => by
      obtain ⟨o, es, ep, e, d, r⟩ := q
      exact ⟨o, es, ep, hid e (dictFree e d), d, r⟩
    have kinB : K.In (hidT s1.heap H) := fun b o e => hid (KX b o e) (by
      cases q : H b with
      | none => rfl
      | some u =>
        have z : b = a := hA b (by rw [q]; simp)
        subst z
        rw [hK (by rw [q]; simp)] at e
        cases e)
    have limB : (hidT s1.heap H).NoLimit := by
      obtain ⟨mc, h1, h2⟩ := hlim
      exact ⟨mc, nsB h1, h2⟩
    have e0 : Env0 P w K mg (hidT s1.heap H) callerA [] s1 H := by
      refine ⟨rfl, ⟨kinB, nsB hns, ⟨mb, nsB hb, hbb⟩, limB⟩, fun b o e => of_hidT e, Nat.le_of_eq (hidT_size _ _), trivial, fun b hb' => ?_, hok, .of_eq hgen⟩
      cases hb'
    refine codeAny_mono ((F _ kinB (nsB hns)).run callerA [] s1 H ⟨[.ref a], []⟩ [.ref a] [.ref a] _ _ rfl hr e0 (hbind s1 (.ref a)) (.cons rfl .nil) (hsp H hO hS)) fun r s' h => ?_
    match r, h with
    | .error e, h => exact (show False from h).elim
    | .ok .next, h => exact (show False from h).elim
    | .ok .brk, h => exact (show False from h).elim
    | .ok .cont, h => exact (show False from h).elim
    | .ok (.ret u), h =>
      obtain ⟨v, H', os, bare, un, hok', r', q⟩ := h
      have q' : v = .bl true := q
      subst q'
      obtain rfl : u = Value.bool true := r'
      refine ⟨rfl, OldK.of_keep fun b o e => ?_, os, bare⟩
      cases q : H b with
      | none => exact un.keep b o e q (fun z => by cases z) (fun z => by cases z)
      | some u =>
        rcases hO b with z | ⟨ob, xs, z⟩
        · rw [q] at z
          cases z
        · obtain ⟨e1, _⟩ := hok b _ z
          obtain ⟨e2, _⟩ := hok' b _ (un.frzs b ob _ z)
          rw [e] at e1
          cases e1
          exact e2
  cases hk : K.lookup a with
  | some o =>
    have e := KX a o hk
    rw [ha] at e
    cases e
    refine main (fun _ => none) (fun _ => .inl rfl) (.inr ⟨_, vs.toArray, _, hk, rfl, rfl, rfl, by rw [List.size_toArray, nV]; exact hl, by simpa using rv⟩) (fun b u z => by cases (show (none : Option HO) = some u from z)) (fun b z => absurd rfl z) fun z => absurd rfl z
  | none =>
    have at_a : ∀ b, b = a → (if b = a then some (HO.frz { cls := .type "list", data := .seq vs.toArray } (.lst (ns.map V.int))) else none) = some (HO.frz { cls := .type "list", data := .seq vs.toArray } (.lst (ns.map V.int))) := fun b h => if_pos h
    refine main (fun b => if b = a then some (.frz { cls := .type "list", data := .seq vs.toArray } (.lst (ns.map V.int))) else none) (fun b => ?_) (.inl (.inr ⟨_, at_a a rfl⟩)) (fun b u z => ?_) (fun b z => ?_) fun _ => hk
    · by_cases hb' : b = a
      · exact .inr ⟨_, _, at_a b hb'⟩
      · exact .inl (if_neg hb')
    · by_cases hb' : b = a
      · cases (at_a b hb').symm.trans z
        subst hb'
        exact ⟨ha, by rw [List.length_map]; exact hl, vs, _, rv, ha⟩
      · cases (if_neg hb').symm.trans z
    · exact Classical.byContradiction fun hb' => z (if_neg hb')
theorem walkG {l : PySem.W.OpenLaw} {n k : Nat} {q : Program} {loose : List Str} {XP : (Str → Option Value) → Heap → Prop} {YP : World → Heap → Prop} {d : DefRec} {K : Params → PySem.W.Frag} {sp : PySem.W.Frag → Sp} {x : Str}
    (hn : l.most = some n) (hn2 : n ≤ sizeLine) (hdf : d.params.defaults = []) (hr : Room k callerA) (hY : ∀ (w : World) (h : Heap), YP w h → (K w.params).In h)
    (F : ∀ (w : World) (mg : Str → Option Value) (fa : Addr) (h : Heap), (K w.params).In h → h.Ns mainGlobals mg → mg d.name = some (.ref fa) →
      ∃ fd : FuncData, (∀ (s : Shared) (u : Value), BindsTo s fd ⟨[u], []⟩ [(x, u)]) ∧ ∀ base : Heap, (K w.params).In base → base.Ns mainGlobals mg → FnG l.prog w (K w.params) mg base CX0 k fa fd [x] (sp (K w.params)))
    (hsp : ∀ (K : PySem.W.Frag) (H : Hp) (a : Addr) (ns : List Int), ns.length ≤ n → SqL K H a (ns.map V.int) → sp K [.ref a] H (fun v _ => v = .bl true) fun _ _ _ => False) :
    PySem.W.WalkO q loose XP YP l.row.toRowW d [] (fun f vs => PySem.call f vs) := by
  refine Att.attach_call hn hdf fun w s0 s1 mg mb fa o pm cd doc a vs ns G Y ho hd hcd hmg hobj hints hlen hgen => ?_
  have KX := hY w _ Y
  obtain ⟨fd, hb, hF⟩ := F w mg fa _ KX G.T.g hmg
  exact lawG KX G.T.g G.T.b G.T.builtins G.T.nolimit hgen hobj hints (Nat.le_trans hlen hn2) hr hF hb fun H _ hS => hsp _ H a ns hlen hS
end My
set_option Elab.async false
set_option linter.all false
set_option autoImplicit false
set_option maxRecDepth 100000
set_option maxHeartbeats 2000000
namespace My
open PySem PySem.Spec PyProof.Rows L2 Evl
/-! ### what is new in H', seen from H -/
def nw (H H' : Hp) : Hp := fun b => if (H b).isSome = true then none else H' b
theorem nw_none {H H' : Hp} {b : Addr} (h : H b = none) : nw H H' b = H' b := by
  unfold nw
  rw [h]
  rfl
theorem nw_some {H H' : Hp} {b : Addr} {o : HO} (h : H b = some o) : nw H H' b = none := by
  unfold nw
  rw [h]
  rfl
theorem nw_get {H H' : Hp} {b : Addr} {o : HO} (h : nw H H' b = some o) : H b = none ∧ H' b = some o := by
  cases e : H b with
  | none => exact ⟨rfl, (nw_none e).symm.trans h⟩
  | some u => rw [nw_some e] at h; cases h
theorem nw_ex {H H' : Hp} : Ex (nw H H') H' := fun _ _ h => (nw_get h).2
theorem nw_grow {H H1 H2 : Hp} (e : Ex H1 H2) : Ex (nw H H1) (nw H H2) := fun b o h => by
  obtain ⟨h1, h2⟩ := nw_get h
  rw [nw_none h1]
  exact e b o h2
theorem nw_back {H H1 H2 : Hp} (e : Ex H H1) : Ex (nw H1 H2) (nw H H2) := fun b o h => by
  obtain ⟨h1, h2⟩ := nw_get h
  rw [nw_none (fresh_back e h1)]
  exact h2
theorem nw_upd {H H' : Hp} {p : Addr} {o : HO} (h : H p = none) : nw H (upd H' p o) p = some o := by
  rw [nw_none h, upd_same]
/-- an object that H knows is written: what is new stays -/
theorem nw_old {H H' : Hp} {p : Addr} {o u : HO} (h : H p = some u) : Ex (nw H H') (nw H (upd H' p o)) := fun b w hb => by
  obtain ⟨h1, h2⟩ := nw_get hb
  rw [nw_none h1, upd_ne]
  · exact h2
  · rintro rfl
    rw [h] at h1
    cases h1
/-! ### data -/
mutual
theorem dp_ex {K : PySem.W.Frag} {H H' : Hp} (e : Ex H H') : ∀ {v : V} {d : PyData}, Dp K H v d → Dp K H' v d
  | _, _, .non => .non
  | _, _, .bl b => .bl b
  | _, _, .int i => .int i
  | _, _, .str x => .str x
  | _, _, .lst h t => .lst (ex_l e h) (dpAll_ex e t)
  | _, _, .tup h t => .tup (ex_t e h) (dpAll_ex e t)
theorem dpAll_ex {K : PySem.W.Frag} {H H' : Hp} (e : Ex H H') : ∀ {vs : List V} {ds : List PyData}, DpAll K H vs ds → DpAll K H' vs ds
  | _, _, .nil => .nil
  | _, _, .cons h t => .cons (dp_ex e h) (dpAll_ex e t)
end
section
variable {K : PySem.W.Frag} {H H' : Hp}
theorem dpAll_len : ∀ {vs : List V} {ds : List PyData}, DpAll K H vs ds → vs.length = ds.length
  | _, _, .nil => rfl
  | _, _, .cons _ t => congrArg (· + 1) (dpAll_len t)
theorem dpAll_get : ∀ {vs : List V} {ds : List PyData} {i : Nat} {d : PyData}, DpAll K H vs ds → ds[i]? = some d → ∃ v, vs[i]? = some v ∧ Dp K H v d
  | _, _, i, d, .nil, h => by simp at h
  | _, _, 0, d, .cons h t, e => ⟨_, rfl, by simp at e; subst e; exact h⟩
  | _, _, i + 1, d, .cons h t, e => by
    obtain ⟨v, h1, h2⟩ := dpAll_get (i := i) t (by simpa using e)
    exact ⟨v, by simpa using h1, h2⟩
theorem dpAll_app : ∀ {vs ws : List V} {ds es : List PyData}, DpAll K H vs ds → DpAll K H ws es → DpAll K H (vs ++ ws) (ds ++ es)
  | _, _, _, _, .nil, h => h
  | _, _, _, _, .cons h t, r => .cons h (dpAll_app t r)
theorem dpAll_one {v : V} {d : PyData} (h : Dp K H v d) : DpAll K H [v] [d] := .cons h .nil
theorem dpAll_map {α : Type} {f : α → V} {g : α → PyData} : ∀ (l : List α), (∀ x ∈ l, Dp K H (f x) (g x)) → DpAll K H (l.map f) (l.map g)
  | [], _ => .nil
  | x :: l, h => .cons (h x (by simp)) (dpAll_map l fun y hy => h y (by simp [hy]))
theorem dp_tup {v : V} {ds : List PyData} (h : Dp K H v (.tuple ds)) : ∃ a xs, v = .ref a ∧ SqT K H a xs ∧ DpAll K H xs ds := by
  cases h with
  | tup h t => exact ⟨_, _, rfl, h, t⟩
theorem dp_lst {v : V} {ds : List PyData} (h : Dp K H v (.list ds)) : ∃ a xs, v = .ref a ∧ SqL K H a xs ∧ DpAll K H xs ds := by
  cases h with
  | lst h t => exact ⟨_, _, rfl, h, t⟩
theorem dp_int {v : V} {i : Int} (h : Dp K H v (.int i)) : v = .int i := by
  cases h
  rfl
theorem dp_bl {v : V} {b : Bool} (h : Dp K H v (.bool b)) : v = .bl b := by
  cases h
  rfl
theorem dp_non {v : V} (h : Dp K H v .none) : v = .non := by
  cases h
  rfl
/-- by a function over the places -/
theorem dpAll_fn {xs : List V} {n : Nat} {f : Nat → PyData} (h : DpAll K H xs ((List.range n).map f)) : xs.length = n ∧ ∀ i, i < n → ∃ v, xs[i]? = some v ∧ Dp K H v (f i) := by
  refine ⟨by rw [dpAll_len h, List.length_map, List.length_range], fun i hi => dpAll_get h ?_⟩
  rw [List.getElem?_map, List.getElem?_range hi]
  rfl
end
/-! ### tuples stay -/
def TEx (H H' : Hp) : Prop := (∀ b xs, H b = some (.tup xs) → H' b = some (.tup xs)) ∧ ∀ b o u, H b = some (.frz o u) → H' b = some (.frz o u)
theorem TEx.refl (H : Hp) : TEx H H := ⟨fun _ _ h => h, fun _ _ _ h => h⟩
theorem TEx.trans {H H1 H2 : Hp} (a : TEx H H1) (b : TEx H1 H2) : TEx H H2 := ⟨fun c xs h => b.1 c xs (a.1 c xs h), fun c o u h => b.2 c o u (a.2 c o u h)⟩
theorem Ex.tex {H H' : Hp} (e : Ex H H') : TEx H H' := ⟨fun b xs h => e b _ h, fun b o u h => e b _ h⟩
theorem tex_upd {H : Hp} {p : Addr} {o : HO} {xs : List V} (h : H p = some (.lst xs)) : TEx H (upd H p o) := by
  refine ⟨fun b ys hb => ?_, fun b u w hb => ?_⟩
  · rw [upd_ne]
    · exact hb
    · rintro rfl
      rw [h] at hb
      cases hb
  · rw [upd_ne]
    · exact hb
    · rintro rfl
      rw [h] at hb
      cases hb
theorem TEx.t {K : PySem.W.Frag} {H H' : Hp} (e : TEx H H') {a : Addr} {xs : List V} (h : SqT K H a xs) : SqT K H' a xs := by
  rcases h with (h | ⟨o, h⟩) | h
  · exact .inl (.inl (e.1 _ _ h))
  · exact .inl (.inr ⟨o, e.2 _ _ _ h⟩)
  · exact .inr h
mutual
def tupOnly : PyData → Bool
  | .list _ => false
  | .dict _ => false
  | .tuple ds => tupAll ds
  | _ => true
def tupAll : List PyData → Bool
  | [] => true
  | d :: ds => tupOnly d && tupAll ds
end
theorem tupAll_iff : ∀ {ds : List PyData}, tupAll ds = true ↔ ∀ d ∈ ds, tupOnly d = true
  | [] => by simp [tupAll]
  | d :: ds => by
    simp only [tupAll, Bool.and_eq_true, List.mem_cons]
    rw [tupAll_iff]
    constructor
    · rintro ⟨h1, h2⟩ x (rfl | hx)
      · exact h1
      · exact h2 x hx
    · exact fun h => ⟨h d (.inl rfl), fun x hx => h x (.inr hx)⟩
mutual
theorem dp_tex {K : PySem.W.Frag} {H H' : Hp} (e : TEx H H') : ∀ {v : V} {d : PyData}, Dp K H v d → tupOnly d = true → Dp K H' v d
  | _, _, .non, _ => .non
  | _, _, .bl b, _ => .bl b
  | _, _, .int i, _ => .int i
  | _, _, .str x, _ => .str x
  | _, _, .lst h t, z => by cases z
  | _, _, .tup h t, z => .tup (e.t h) (dpAll_tex e t z)
theorem dpAll_tex {K : PySem.W.Frag} {H H' : Hp} (e : TEx H H') : ∀ {vs : List V} {ds : List PyData}, DpAll K H vs ds → tupAll ds = true → DpAll K H' vs ds
  | _, _, .nil, _ => .nil
  | _, _, .cons h t, z => by
    simp only [tupAll, Bool.and_eq_true] at z
    exact .cons (dp_tex e h z.1) (dpAll_tex e t z.2)
end
end My
set_option Elab.async false
set_option linter.all false
set_option autoImplicit false
set_option maxRecDepth 100000
set_option maxHeartbeats 2000000
namespace My
open PySem PySem.Spec PyProof.Rows L2 Evl
theorem range_filter_succ {α : Type} (p : Nat → Bool) (f : Nat → α) (i : Nat) : ((List.range (i + 1)).filter p).map f = ((List.range i).filter p).map f ++ (if p i = true then [f i] else []) := by
  rw [List.range_succ, List.filter_append, List.map_append]
  congr 1
  by_cases h : p i = true
  · simp [h]
  · simp [h]
section
variable {K : PySem.W.Frag} {J : It} {n : Nat} {G : Hp → Prop} {Y : Nat → Hp → V → Hp → Prop}
/-- what a comprehension's list holds behind i turns -/
def Held (K : PySem.W.Frag) (H1 : Hp) (D : Addr) (ds : List PyData) (H : Hp) : Prop :=
  Ex H1 H ∧ ∃ acc, H D = some (.lst acc) ∧ DpAll K (nw (upd H1 D (.lst [])) H) acc ds
theorem held_start {H1 : Hp} {D : Addr} (h : H1 D = none) : Held K H1 D [] (upd H1 D (.lst [])) := ⟨Ex.new h, [], upd_same, .nil⟩
theorem held_ex {H1 H H' : Hp} {D : Addr} {ds : List PyData} (h : Held K H1 D ds H) (e : Ex H H') : Held K H1 D ds H' := by
  obtain ⟨e1, acc, h1, h2⟩ := h
  exact ⟨e1.trans e, acc, e D _ h1, dpAll_ex (nw_grow e) h2⟩
theorem held_known {H1 H : Hp} {D : Addr} {ds : List PyData} (h : Held K H1 D ds H) : ∀ b, H b = none → (upd H1 D (.lst [])) b = none := by
  obtain ⟨e1, acc, h1, _⟩ := h
  intro b hb
  rw [upd_ne]
  · exact fresh_back e1 hb
  · rintro rfl
    rw [h1] at hb
    cases hb
theorem nw_back' {H0 H1 H2 : Hp} (e : ∀ b, H1 b = none → H0 b = none) : Ex (nw H1 H2) (nw H0 H2) := fun b o h => by
  obtain ⟨h1, h2⟩ := nw_get h
  rw [nw_none (e b h1)]
  exact h2
/-- one item more, new behind H -/
theorem held_add {H1 H H4 : Hp} {D : Addr} {ds : List PyData} {y : V} {d : PyData} (hD : H1 D = none) (h : Held K H1 D ds H) (e : Ex H H4) (hy : Dp K (nw H H4) y d) :
    ∃ acc, H4 D = some (.lst acc) ∧ acc.length = ds.length ∧ Held K H1 D (ds ++ [d]) (upd H4 D (.lst (acc ++ [y]))) := by
  obtain ⟨e1, acc, h1, h2⟩ := held_ex h e
  refine ⟨acc, h1, dpAll_len h2, Ex.mut e1 hD, acc ++ [y], upd_same, ?_⟩
  have keep : Ex (nw (upd H1 D (.lst [])) H4) (nw (upd H1 D (.lst [])) (upd H4 D (.lst (acc ++ [y])))) := nw_old (u := .lst []) upd_same
  exact dpAll_app (dpAll_ex keep h2) (dpAll_one (dp_ex keep (dp_ex (nw_back' (held_known h)) hy)))
theorem held_end {H1 H : Hp} {D : Addr} {ds : List PyData} (h1 : H1 D = none) (h : Held K H1 D ds H) : ∃ ys, Ex H1 H ∧ H D = some (.lst ys) ∧ DpAll K (nw H1 H) ys ds := by
  obtain ⟨e1, acc, h2, h3⟩ := h
  exact ⟨acc, e1, h2, dpAll_ex (nw_back (Ex.new h1)) h3⟩
/-- one item of a comprehension: where the test says no, nothing; else a new datum -/
def Item (K : PySem.W.Frag) (H : Hp) (b : Bool) (d : PyData) (N : Hp → Prop) (A : V → Hp → Prop) : Prop :=
  (b = false → ∀ H3, Ex H H3 → N H3) ∧ (b = true → ∀ y H4, Ex H H4 → Dp K (nw H H4) y d → A y H4)
theorem held_item {H1 H : Hp} {D : Addr} {ds : List PyData} {b : Bool} {d : PyData} {N : Hp → Prop} (hD : H1 D = none) (h : Held K H1 D ds H) (hl : ds.length < 100000)
    (k : ∀ H', Held K H1 D (ds ++ (if b = true then [d] else [])) H' → N H') :
    Item K H b d N (fun y H4 => ∃ acc, H4 D = some (.lst acc) ∧ acc.length < sizeLine ∧ N (upd H4 D (.lst (acc ++ [y])))) := by
  refine ⟨fun hb H3 e => k H3 ?_, fun hb y H4 e hy => ?_⟩
  · rw [hb]
    simp
    exact held_ex h e
  · obtain ⟨acc, q1, q2, q3⟩ := held_add hD h e hy
    refine ⟨acc, q1, by rw [q2]; exact sz_lt hl, k _ ?_⟩
    rw [hb]
    exact q3
theorem lcD (w : Walk J n G Y) {g : TG} {tt : TT} {te : TE} {vs : List Nat} {σ : L2.St} {H1 : Hp} {D : Addr} {Qd : Hp → Prop} (p : Nat → Bool) (f : Nat → PyData) (hn : n ≤ 100000) (hD : H1 D = none) (hG : ∀ H, Ex H1 H → G H)
    (hs : ∀ i x H H', i < n → Ex H1 H → Y i H x H' → ∀ (N : Hp → Prop) (A : V → Hp → Prop), Item K H (p i) (f i) N A →
      g x (wipe σ vs) H' fun σ2 H2 => wipe σ2 vs = wipe σ vs ∧ tt σ2 H2 fun b H3 => if b = true then te σ2 H3 A else N H3)
    (hd : ∀ H ys, Ex H1 H → H D = some (.lst ys) → DpAll K (nw H1 H) ys (((List.range n).filter p).map f) → Qd H) :
    ∃ W : Nat → Nat → Hp → Prop, (∃ m, W 0 m (upd H1 D (.lst []))) ∧ ∀ i m H, W i m H →
      (J.stop i H ∧ Qd H) ∨ (J.go i H ∧ ∃ Nx : Hp → Prop, (∀ H', Nx H' → ∃ m', m' < m ∧ W (i + 1) m' H') ∧ ∀ x H', J.yld i H x H' → g x (wipe σ vs) H' fun σ2 H2 => wipe σ2 vs = wipe σ vs ∧ tt σ2 H2 fun b H3 =>
        if b = true then te σ2 H3 fun y H4 => ∃ acc, H4 D = some (.lst acc) ∧ acc.length < sizeLine ∧ Nx (upd H4 D (.lst (acc ++ [y]))) else Nx H3) := by
  refine lc_it w (fun i H => Held K H1 D (((List.range i).filter p).map f) H) (held_start hD) (fun i H _ h => hG H h.1) (fun i x H H' hi h y => ?_) (fun H h => ?_)
  · refine hs i x H H' hi h.1 y _ _ (held_item hD h ?_ fun H3 h3 => ?_)
    · rw [List.length_map]
      exact Nat.lt_of_le_of_lt (List.length_filter_le _ _) (by rw [List.length_range]; omega)
    · show Held K H1 D (((List.range (i + 1)).filter p).map f) H3
      rw [range_filter_succ]
      exact h3
  · obtain ⟨ys, e1, e2, e3⟩ := held_end hD h
    exact hd H ys e1 e2 e3
/-- no test -/
theorem lcDA (w : Walk J n G Y) {g : TG} {te : TE} {vs : List Nat} {σ : L2.St} {H1 : Hp} {D : Addr} {Qd : Hp → Prop} (f : Nat → PyData) (hn : n ≤ 100000) (hD : H1 D = none) (hG : ∀ H, Ex H1 H → G H)
    (hs : ∀ i x H H', i < n → Ex H1 H → Y i H x H' → ∀ (A : V → Hp → Prop), (∀ y H4, Ex H H4 → Dp K (nw H H4) y (f i) → A y H4) →
      g x (wipe σ vs) H' fun σ2 H2 => wipe σ2 vs = wipe σ vs ∧ te σ2 H2 A)
    (hd : ∀ H ys, Ex H1 H → H D = some (.lst ys) → DpAll K (nw H1 H) ys ((List.range n).map f) → Qd H) :
    ∃ W : Nat → Nat → Hp → Prop, (∃ m, W 0 m (upd H1 D (.lst []))) ∧ ∀ i m H, W i m H →
      (J.stop i H ∧ Qd H) ∨ (J.go i H ∧ ∃ Nx : Hp → Prop, (∀ H', Nx H' → ∃ m', m' < m ∧ W (i + 1) m' H') ∧ ∀ x H', J.yld i H x H' → g x (wipe σ vs) H' fun σ2 H2 => wipe σ2 vs = wipe σ vs ∧ tYes σ2 H2 fun b H3 =>
        if b = true then te σ2 H3 fun y H4 => ∃ acc, H4 D = some (.lst acc) ∧ acc.length < sizeLine ∧ Nx (upd H4 D (.lst (acc ++ [y]))) else Nx H3) := by
  refine lcD (K := K) (tt := tYes) w (fun _ => true) f hn hD hG (fun i x H H' hi e y N A it => ?_) (fun H ys e1 e2 e3 => hd H ys e1 e2 ?_)
  · exact hs i x H H' hi e y _ (it.2 rfl)
  · rw [List.filter_eq_self.mpr (fun _ _ => rfl)] at e3
    exact e3
/-- two fors, the test behind the second one -/
theorem lc2D (w : Walk J n G Y) {g g1 : TG} {wi1 : TI} {tt1 : TT} {te : TE} {vs vs1 : List Nat} {σ : L2.St} {H1 : Hp} {D : Addr} {Qd : Hp → Prop} (m : Nat → Nat) (p : Nat → Nat → Bool) (f : Nat → Nat → PyData)
    (hn : n ≤ 300) (hm : ∀ i, i < n → m i ≤ 300) (hD : H1 D = none) (hG : ∀ H, Ex H1 H → G H) (S : Nat → L2.St → Prop)
    (hs : ∀ i x H H', i < n → Ex H1 H → Y i H x H' → ∀ P : L2.St → It → Hp → Prop,
      (∀ σ2 J1 H4 G1 Y1, S i σ2 → Ex H H4 → Walk J1 (m i) G1 Y1 → (∀ H, Ex H1 H → G1 H) →
        (∀ j x H H', j < m i → Ex H1 H → Y1 j H x H' → ∀ (N : Hp → Prop) (A : V → Hp → Prop), Item K H (p i j) (f i j) N A →
          g1 x (wipe σ2 vs1) H' fun σ3 H5 => wipe σ3 vs1 = wipe σ2 vs1 ∧ tt1 σ3 H5 fun b H6 => if b = true then te σ3 H6 A else N H6) → P σ2 J1 H4) →
      g x (wipe σ vs) H' fun σ2 H2 => wipe σ2 vs = wipe σ vs ∧ wi1 σ2 H2 fun J1 H4 => P σ2 J1 H4)
    (hd : ∀ H ys, Ex H1 H → H D = some (.lst ys) → DpAll K (nw H1 H) ys ((List.range n).flatMap fun i => ((List.range (m i)).filter (p i)).map (f i)) → Qd H) :
    ∃ W : Nat → Nat → Hp → Prop, (∃ k, W 0 k (upd H1 D (.lst []))) ∧ ∀ i k H, W i k H →
      (J.stop i H ∧ Qd H) ∨ (J.go i H ∧ ∃ Nx : Hp → Prop, (∀ H', Nx H' → ∃ m', m' < k ∧ W (i + 1) m' H') ∧ ∀ x H', J.yld i H x H' → g x (wipe σ vs) H' fun σ2 H2 => wipe σ2 vs = wipe σ vs ∧ tYes σ2 H2 fun b H3 =>
        if b = true then wi1 σ2 H3 fun J1 H4 => ∃ W1 : Nat → Nat → Hp → Prop, (∃ m, W1 0 m H4) ∧ ∀ j k H, W1 j k H →
          (J1.stop j H ∧ Nx H) ∨ (J1.go j H ∧ ∃ Nx1 : Hp → Prop, (∀ H', Nx1 H' → ∃ k', k' < k ∧ W1 (j + 1) k' H') ∧ ∀ x H', J1.yld j H x H' → g1 x (wipe σ2 vs1) H' fun σ3 H5 => wipe σ3 vs1 = wipe σ2 vs1 ∧ tt1 σ3 H5 fun b H6 =>
            if b = true then te σ3 H6 fun y H7 => ∃ acc, H7 D = some (.lst acc) ∧ acc.length < sizeLine ∧ Nx1 (upd H7 D (.lst (acc ++ [y]))) else Nx1 H6)
        else Nx H3) := by
  have flat : ∀ i, ((List.range (i + 1)).flatMap fun i => ((List.range (m i)).filter (p i)).map (f i)) = ((List.range i).flatMap fun i => ((List.range (m i)).filter (p i)).map (f i)) ++ ((List.range (m i)).filter (p i)).map (f i) := fun i => by
    rw [List.range_succ, List.flatMap_append]
    simp
  have flen : ∀ i, i ≤ n → ((List.range i).flatMap fun i => ((List.range (m i)).filter (p i)).map (f i)).length ≤ i * 300 := by
    intro i
    induction i with
    | zero => intro _; simp
    | succ i ih =>
      intro hi
      rw [flat, List.length_append, List.length_map]
      have h1 := ih (by omega)
      have h2 := List.length_filter_le (p i) (List.range (m i))
      rw [List.length_range] at h2
      have h3 := hm i (by omega)
      omega
  refine ⟨fun i k H => k = n - i ∧ i ≤ n ∧ Held K H1 D ((List.range i).flatMap fun i => ((List.range (m i)).filter (p i)).map (f i)) H, ⟨n, by simp, Nat.zero_le _, held_start hD⟩, ?_⟩
  rintro i k H ⟨rfl, hi, h⟩
  have q := hG H h.1
  by_cases hlt : i < n
  · refine .inr ⟨w.goes i H hlt q, fun H => Held K H1 D ((List.range (i + 1)).flatMap fun i => ((List.range (m i)).filter (p i)).map (f i)) H, fun H' p' => ⟨n - (i + 1), by omega, rfl, hlt, p'⟩, fun x H' y => ?_⟩
    refine hs i x H H' hlt h.1 (w.yields i H x H' hlt q y) _ fun σ2 J1 H4 G1 Y1 hS e4 w1 hG1 hel => ?_
    refine ⟨fun j k H' => k = m i - j ∧ j ≤ m i ∧ Held K H1 D (((List.range i).flatMap fun i => ((List.range (m i)).filter (p i)).map (f i)) ++ ((List.range j).filter (p i)).map (f i)) H', ⟨m i, by simp, Nat.zero_le _, ?_⟩, ?_⟩
    · simpa using held_ex h e4
    · rintro j k H5 ⟨rfl, hj, h5⟩
      have q5 := hG1 H5 h5.1
      by_cases jlt : j < m i
      · refine .inr ⟨w1.goes j H5 jlt q5, fun H' => Held K H1 D (((List.range i).flatMap fun i => ((List.range (m i)).filter (p i)).map (f i)) ++ ((List.range (j + 1)).filter (p i)).map (f i)) H', fun H' p' => ⟨m i - (j + 1), by omega, rfl, jlt, p'⟩, fun x' H'' y' => ?_⟩
        refine hel j x' H5 H'' jlt h5.1 (w1.yields j H5 x' H'' jlt q5 y') _ _ (held_item hD h5 ?_ fun H6 h6 => ?_)
        · rw [List.length_append, List.length_map]
          have h1 := flen i hi
          have h2 := List.length_filter_le (p i) (List.range j)
          rw [List.length_range] at h2
          have h3 := hm i hlt
          have h4 : i * 300 ≤ 300 * 300 := Nat.mul_le_mul_right 300 (by omega)
          omega
        · rw [range_filter_succ, ← List.append_assoc]
          exact h6
      · have e : j = m i := by omega
        subst e
        refine .inl ⟨w1.stops H5 q5, ?_⟩
        show Held K H1 D _ H5
        rw [flat]
        exact h5
  · have e : i = n := by omega
    subst e
    obtain ⟨ys, e1, e2, e3⟩ := held_end hD h
    exact .inl ⟨w.stops H q, hd H ys e1 e2 e3⟩
end
end My
set_option Elab.async false
set_option linter.all false
set_option autoImplicit false
set_option maxRecDepth 100000
set_option maxHeartbeats 2000000
/-! the layer's rules with the written part as a letter: so they stand within a comprehension's block, too -/
namespace My
open PySem PySem.Spec PyProof.Rows L2 Evl
section
variable {X : Cx} (K : PySem.W.Frag)
theorem ixL (hK : X.K = K := by rfl) : IxR X (rIxL K) := by
  subst hK
  exact ix_list
theorem ixT (hK : X.K = K := by rfl) : IxR X (rIxT K) := by
  subst hK
  exact ix_tup
def rTupS (K : PySem.W.Frag) : List V → Hp → VK → Prop := fun xs H Q => ∃ p ys, xs = [.ref p] ∧ ((SqL K H p ys ∧ ∀ l, H l = none → Q (.ref l) (upd H l (.tup ys))) ∨ (SqT K H p ys ∧ Q (.ref p) H))
theorem crTup (hK : X.K = K := by rfl) : CallR X (.type "tuple") (rTupS K) := by
  subst hK
  exact call_tuple_of
theorem crLen (hK : X.K = K := by rfl) : CallR X (.builtin "len") (rLenS K) := by
  subst hK
  exact call_len_seq
theorem crListOf (hK : X.K = K := by rfl) : CallR X (.type "list") (rListS K) := by
  subst hK
  exact call_list_of
theorem crAll (hc : X.calm = true) (hK : X.K = K := by rfl) : CallR X (.builtin "all") (rAll K) := by
  subst hK
  exact cr_all hc
def rInt1 : List V → Hp → VK → Prop := fun xs H Q => (∃ i, xs = [.int i] ∧ Q (.int i) H) ∨ ∃ k, xs = [.bl k] ∧ Q (.int (if k then 1 else 0)) H
theorem crInt : CallR X (.type "int") rInt1 := call_int1
theorem crMax2 (hc : X.calm = true) : CallR X (.builtin "max") rMax2 := call_max2 hc
theorem crMaxD (hc : X.calm = true) (hu : X.A.units + 64 < cLine) (hK : X.K = K := by rfl) : CallRK X (.builtin "max") ["default"] (rMaxD K) := by
  subst hK
  exact cr_maxD hc hu
theorem crRepr (hg : X.A.guards = some []) (hu : X.A.units + 64 < cLine) (hK : X.K = K := by rfl) : CallR X (.builtin "repr") (rRepr K) := by
  subst hK
  exact cr_repr hg hu
theorem opEqD (hu : X.A.units + 64 < cLine) (hK : X.K = K := by rfl) : OpR X (compareOp .Eq) (rEqD K) := by
  subst hK
  exact op_eqD hu
theorem opNeD (hu : X.A.units + 64 < cLine) (hK : X.K = K := by rfl) : OpR X (compareOp .NotEq) (rNeD K) := by
  subst hK
  exact op_neD hu
def rIsNon : R2 := fun x y H Q => y = .non ∧ Q (.bl (decide (x = .non))) H
def rNotNon : R2 := fun x y H Q => y = .non ∧ Q (.bl (!decide (x = .non))) H
theorem opIsN : OpR X (compareOp .Is) rIsNon := op_isN
theorem opNotN : OpR X (compareOp .IsNot) rNotNon := op_notN
def rLt : R2 := rI0 fun i j => .bl (decide (i < j))
theorem opLt : OpR X (compareOp .Lt) rLt := op_lt
theorem piL {tg l : Expr} {tl : TE} (h : PE X l tl) (hK : X.K = K := by rfl) : PI X tg l (iList K tl) := by
  subst hK
  exact pi_list h
theorem piT {tg l : Expr} {tl : TE} (h : PE X l tl) (hK : X.K = K := by rfl) : PI X tg l (iTup K tl) := by
  subst hK
  exact pi_tup h
theorem piEnum {e : Expr} {ta : TA} {p pos tpos : Pos} {elts : List Expr} {kk : Nat} (hg : Gl X "enumerate") (hm : X.mg "enumerate" = none) (ha : PA X [e] ta) (hs : starEach [e] X.env = [(false, eval e X.env)] := by rfl) (hK : X.K = K := by rfl) :
    PI X (.Tuple elts kk tpos) (.Call (.Name "enumerate" p) [e] [] pos) (iEnum K ta) := by
  subst hK
  exact pi_enum hg hm ha hs
theorem piEnumT {e : Expr} {ta : TA} {p pos tpos : Pos} {elts : List Expr} {kk : Nat} (hg : Gl X "enumerate") (hm : X.mg "enumerate" = none) (ha : PA X [e] ta) (hs : starEach [e] X.env = [(false, eval e X.env)] := by rfl) (hK : X.K = K := by rfl) :
    PI X (.Tuple elts kk tpos) (.Call (.Name "enumerate" p) [e] [] pos) (iEnumT K ta) := by
  subst hK
  exact pi_enumT hg hm ha hs
theorem peFld {e : Expr} {f : Str} {pos : Pos} {ta : TE} (he : PE X e ta) (hb : attributeBase e f X.env (eval e X.env) = eval e X.env := by rfl) (hK : X.K = K := by rfl) : PE X (.Attribute e f pos) (tFld K ta f) := by
  subst hK
  exact pe_fld he hb
def tTru (K : PySem.W.Frag) (ta : TE) : TT := fun σ H Q => ta σ H fun x H' => ∃ k, TruV K x H' k ∧ Q k H'
theorem ptTru {a : Expr} {ta : TE} (h : PE X a ta) (he : ∀ whole, isTrue a X.env whole = (do let v ← whole; standAt a.pos; holding [v] (truthy v)) := by intro _; rfl) (hK : X.K = K := by rfl) : PT X a (tTru K ta) := by
  subst hK
  exact pt_truth h he
end
section
variable {J : It} {n : Nat} {G : Hp → Prop} {Y : Nat → Hp → V → Hp → Prop}
/-- a comprehension without a test -/
theorem lcA (w : Walk J n G Y) {g : TG} {te : TE} {vs : List Nat} {σ : L2.St} {H1 : Hp} {D : Addr} {Qd : Hp → Prop} (Pv : Nat → Hp → Prop) (h0 : Pv 0 (upd H1 D (.lst []))) (hG : ∀ i H, i ≤ n → Pv i H → G H)
    (hs : ∀ i x H H', i < n → Pv i H → Y i H x H' → g x (wipe σ vs) H' fun σ2 H2 => wipe σ2 vs = wipe σ vs ∧ te σ2 H2 fun y H4 => ∃ acc, H4 D = some (.lst acc) ∧ acc.length < sizeLine ∧ Pv (i + 1) (upd H4 D (.lst (acc ++ [y]))))
    (hd : ∀ H, Pv n H → Qd H) :
    ∃ W : Nat → Nat → Hp → Prop, (∃ m, W 0 m (upd H1 D (.lst []))) ∧ ∀ i m H, W i m H →
      (J.stop i H ∧ Qd H) ∨ (J.go i H ∧ ∃ Nx : Hp → Prop, (∀ H', Nx H' → ∃ m', m' < m ∧ W (i + 1) m' H') ∧ ∀ x H', J.yld i H x H' → g x (wipe σ vs) H' fun σ2 H2 => wipe σ2 vs = wipe σ vs ∧ tYes σ2 H2 fun b H3 =>
        if b = true then te σ2 H3 fun y H4 => ∃ acc, H4 D = some (.lst acc) ∧ acc.length < sizeLine ∧ Nx (upd H4 D (.lst (acc ++ [y]))) else Nx H3) :=
  lc_it w (tt := tYes) Pv h0 hG hs hd
end
end My
set_option Elab.async false
set_option linter.all false
set_option autoImplicit false
set_option maxRecDepth 100000
set_option maxHeartbeats 2000000
namespace My
open PySem PySem.Spec PyProof.Rows L2 Evl
section
variable {J : It} {n : Nat} {G : Hp → Prop} {Y : Nat → Hp → V → Hp → Prop}
/-- the references cc 0, cc 1, .. -/
def refs (n : Nat) (cc : Nat → Addr) : List V := (List.range n).map fun j => V.ref (cc j)
theorem refs_len (n : Nat) (cc : Nat → Addr) : (refs n cc).length = n := by
  unfold refs
  rw [List.length_map, List.length_range]
theorem refs_at {n : Nat} {cc : Nat → Addr} {j : Nat} (h : j < n) : (refs n cc)[j]? = some (.ref (cc j)) := by
  unfold refs
  rw [List.getElem?_map, List.getElem?_range h]
  rfl
theorem refs_succ {n : Nat} {cc cd : Nat → Addr} {p : Addr} (h : ∀ j, j < n → cd j = cc j) (hp : cd n = p) : refs n cc ++ [.ref p] = refs (n + 1) cd := by
  unfold refs
  rw [List.range_succ, List.map_append, List.map_cons, List.map_nil, hp]
  congr 1
  refine List.map_congr_left fun j hj => ?_
  rw [h j (List.mem_range.mp hj)]
/-- a comprehension each of whose items is a new object -/
theorem lcFresh (w : Walk J n G Y) {g : TG} {te : TE} {vs : List Nat} {σ : L2.St} {H1 : Hp} {D : Addr} {Qd : Hp → Prop} (o : Nat → HO) (hn : n ≤ 100000) (hD : H1 D = none) (hG : ∀ H, Ex H1 H → G H)
    (hs : ∀ i x H H', i < n → Ex H1 H → Y i H x H' → ∀ (A : V → Hp → Prop), (∀ p H4, H p = none → Ex H H4 → H4 p = some (o i) → A (.ref p) H4) →
      g x (wipe σ vs) H' fun σ2 H2 => wipe σ2 vs = wipe σ vs ∧ te σ2 H2 A)
    (hd : ∀ H cc, Ex H1 H → H D = some (.lst (refs n cc)) → (∀ j, j < n → H1 (cc j) = none ∧ cc j ≠ D ∧ H (cc j) = some (o j)) → (∀ i j, i < n → j < n → cc i = cc j → i = j) → Qd H) :
    ∃ W : Nat → Nat → Hp → Prop, (∃ m, W 0 m (upd H1 D (.lst []))) ∧ ∀ i m H, W i m H →
      (J.stop i H ∧ Qd H) ∨ (J.go i H ∧ ∃ Nx : Hp → Prop, (∀ H', Nx H' → ∃ m', m' < m ∧ W (i + 1) m' H') ∧ ∀ x H', J.yld i H x H' → g x (wipe σ vs) H' fun σ2 H2 => wipe σ2 vs = wipe σ vs ∧ tYes σ2 H2 fun b H3 =>
        if b = true then te σ2 H3 fun y H4 => ∃ acc, H4 D = some (.lst acc) ∧ acc.length < sizeLine ∧ Nx (upd H4 D (.lst (acc ++ [y]))) else Nx H3) := by
  refine lcA w (fun i H => Ex H1 H ∧ ∃ cc : Nat → Addr, H D = some (.lst (refs i cc)) ∧ (∀ j, j < i → H1 (cc j) = none ∧ cc j ≠ D ∧ H (cc j) = some (o j)) ∧ ∀ k j, k < i → j < i → cc k = cc j → k = j)
    ⟨Ex.new hD, fun _ => D, upd_same, fun j h => by omega, fun k j h => by omega⟩ (fun i H _ h => hG H h.1) ?_ ?_
  · rintro i x H H' hi ⟨e1, cc, hl, hc, inj⟩ y
    refine hs i x H H' hi e1 y _ fun p H4 hp e4 ho => ⟨refs i cc, e4 D _ hl, by rw [refs_len]; exact sz_lt (by omega), ?_⟩
    have npD : p ≠ D := (ne_of_none hl hp).symm
    have old : ∀ j, j < i → cc j ≠ p := fun j hj => ne_of_none (hc j hj).2.2 hp
    refine ⟨Ex.mut (e1.trans e4) hD, fun j => if j = i then p else cc j, ?_, fun j hj => ?_, fun k j hk hj e => ?_⟩
    · rw [upd_same]
      rw [refs_succ (cd := fun j => if j = i then p else cc j) (fun j hj => if_neg (by omega)) (if_pos rfl)]
    · by_cases q : j = i
      · simp only [q, if_true]
        exact ⟨fresh_back e1 hp, npD, by rw [upd_ne npD]; exact ho⟩
      · simp only [if_neg q]
        obtain ⟨q1, q2, q3⟩ := hc j (by omega)
        exact ⟨q1, q2, by rw [upd_ne q2]; exact e4 _ _ q3⟩
    · by_cases q : k = i <;> by_cases r : j = i
      · omega
      · simp only [q, if_true, if_neg r] at e
        exact (old j (by omega) e.symm).elim
      · simp only [r, if_true, if_neg q] at e
        exact (old k (by omega) e).elim
      · simp only [if_neg q, if_neg r] at e
        exact inj k j (by omega) (by omega) e
  · rintro H ⟨e1, cc, hl, hc, inj⟩
    exact hd H cc e1 hl hc inj
end
section
variable {X : Cx} (K : PySem.W.Frag)
theorem pgT {es : List Expr} {k : Nat} {pos : Pos} {t : TGs} {n : Nat} (hc : X.calm = true) (h : PGs X es t) (hn : (assignEach es X.env).length = n := by rfl) (hst : (assignEach es X.env).findIdx? (·.1) = none := by rfl) (hK : X.K = K := by rfl) : PG X (.Tuple es k pos) (gTup K n t) := by
  subst hK
  exact pg_tup hc h hn hst
theorem peBm {T : String} {name : Str} {id : String} {o e : Expr} {es : List Expr} {to : TE} {t : TA} {r : V → List V → Hp → VK → Prop} {apos cpos : Pos} (pa : PlainAttrs T) (slot : Slot T name id) (hty : typeOf (.builtin id) = pure (.type "method_descriptor")) (hm : MtR X id r) (ho : PE X o to) (ha : PA X (e :: es) t)
    (hbase : attributeBase o name X.env (eval o X.env) = eval o X.env := by rfl)
    (hfew : ((backTo cpos (starEach (e :: es) X.env)).all (fun x => !x.1) && (backToKw cpos (keywordEach [] X.env)).all (fun x => x.1.isSome)
      && decide ((e :: es).length + ([] : List Keyword).length + (if ([] : List Keyword).isEmpty then 0 else 1) < 30)) = true := by rfl)
    (hline : (apos.endLine == cpos.line) = true := by rfl) (hs : starEach (e :: es) X.env = (false, eval e X.env) :: starEach es X.env := by rfl) (hplain : (backTo cpos (starEach es X.env)).any (·.1) = false := by rfl) (hK : X.K = K := by rfl) :
    PE X (.Call (.Attribute o name apos) (e :: es) [] cpos) (tBM K T r to t) := by
  subst hK
  exact pe_bm pa slot hty hm ho ha hbase hfew hline hs hplain
end
end My
set_option Elab.async false
set_option linter.all false
set_option autoImplicit false
set_option maxRecDepth 100000
set_option maxHeartbeats 2000000
namespace My
open PySem PySem.Spec PyProof.Rows L2 Evl
section
variable {K : PySem.W.Frag} {J : It} {n : Nat} {G : Hp → Prop} {Y : Nat → Hp → V → Hp → Prop}
/-- each item a new datum of which something is known -/
theorem lcDE (w : Walk J n G Y) {g : TG} {te : TE} {vs : List Nat} {σ : L2.St} {H1 : Hp} {D : Addr} {Qd : Hp → Prop} (PP : Nat → PyData → Prop) (hn : n ≤ 100000) (hD : H1 D = none) (hG : ∀ H, Ex H1 H → G H)
    (hs : ∀ i x H H', i < n → Ex H1 H → Y i H x H' → ∀ (A : V → Hp → Prop), (∀ y H4 d, PP i d → Ex H H4 → Dp K (nw H H4) y d → A y H4) →
      g x (wipe σ vs) H' fun σ2 H2 => wipe σ2 vs = wipe σ vs ∧ te σ2 H2 A)
    (hd : ∀ H ys ds, Ex H1 H → H D = some (.lst ys) → ds.length = n → (∀ i d, ds[i]? = some d → PP i d) → DpAll K (nw H1 H) ys ds → Qd H) :
    ∃ W : Nat → Nat → Hp → Prop, (∃ m, W 0 m (upd H1 D (.lst []))) ∧ ∀ i m H, W i m H →
      (J.stop i H ∧ Qd H) ∨ (J.go i H ∧ ∃ Nx : Hp → Prop, (∀ H', Nx H' → ∃ m', m' < m ∧ W (i + 1) m' H') ∧ ∀ x H', J.yld i H x H' → g x (wipe σ vs) H' fun σ2 H2 => wipe σ2 vs = wipe σ vs ∧ tYes σ2 H2 fun b H3 =>
        if b = true then te σ2 H3 fun y H4 => ∃ acc, H4 D = some (.lst acc) ∧ acc.length < sizeLine ∧ Nx (upd H4 D (.lst (acc ++ [y]))) else Nx H3) := by
  refine lcA w (fun i H => ∃ ds, ds.length = i ∧ (∀ j d, ds[j]? = some d → PP j d) ∧ Held K H1 D ds H) ⟨[], rfl, by simp, held_start hD⟩ (fun i H _ h => ?_) ?_ ?_
  · obtain ⟨_, _, _, h⟩ := h
    exact hG H h.1
  · rintro i x H H' hi ⟨ds, hl, hp, h⟩ y
    refine hs i x H H' hi h.1 y _ fun v H4 d pd e4 hv => ?_
    obtain ⟨acc, q1, q2, q3⟩ := held_add hD h e4 hv
    refine ⟨acc, q1, by rw [q2, hl]; exact sz_lt (by omega), ds ++ [d], by simp [hl], fun j d' hj => ?_, q3⟩
    rcases Nat.lt_or_ge j ds.length with z | z
    · rw [List.getElem?_append_left z] at hj
      exact hp j d' hj
    · rw [List.getElem?_append_right z] at hj
      have : j - ds.length = 0 := by
        cases q : j - ds.length with
        | zero => rfl
        | succ k => rw [q] at hj; simp at hj
      rw [this] at hj
      simp at hj
      subst hj
      have : j = i := by omega
      subst this
      exact pd
  · rintro H ⟨ds, hl, hp, h⟩
    obtain ⟨ys, e1, e2, e3⟩ := held_end hD h
    exact hd H ys ds e1 e2 hl hp e3
/-- each item a new list of new objects -/
theorem lcFresh2 (w : Walk J n G Y) {g : TG} {te : TE} {vs : List Nat} {σ : L2.St} {H1 : Hp} {D : Addr} {Qd : Hp → Prop} (m : Nat) (o : Nat → Nat → HO) (hn : n ≤ 100000) (hD : H1 D = none) (hG : ∀ H, Ex H1 H → G H)
    (hs : ∀ i x H H', i < n → Ex H1 H → Y i H x H' → ∀ (A : V → Hp → Prop), (∀ p rw H4, H p = none → Ex H H4 → H4 p = some (.lst (refs m rw)) → (∀ x, x < m → H (rw x) = none ∧ rw x ≠ p ∧ H4 (rw x) = some (o i x)) →
        (∀ x y, x < m → y < m → rw x = rw y → x = y) → A (.ref p) H4) →
      g x (wipe σ vs) H' fun σ2 H2 => wipe σ2 vs = wipe σ vs ∧ te σ2 H2 A)
    (hd : ∀ H (lb : Nat → Addr) (rl : Nat → Nat → Addr), Ex H1 H → H D = some (.lst (refs n lb)) → (∀ l, l < n → H1 (lb l) = none ∧ lb l ≠ D ∧ H (lb l) = some (.lst (refs m (rl l)))) →
      (∀ l x, l < n → x < m → H1 (rl l x) = none ∧ rl l x ≠ D ∧ (∀ k, k < n → rl l x ≠ lb k) ∧ H (rl l x) = some (o l x)) → (∀ l x k y, l < n → x < m → k < n → y < m → rl l x = rl k y → l = k ∧ x = y) → Qd H) :
    ∃ W : Nat → Nat → Hp → Prop, (∃ m, W 0 m (upd H1 D (.lst []))) ∧ ∀ i m H, W i m H →
      (J.stop i H ∧ Qd H) ∨ (J.go i H ∧ ∃ Nx : Hp → Prop, (∀ H', Nx H' → ∃ m', m' < m ∧ W (i + 1) m' H') ∧ ∀ x H', J.yld i H x H' → g x (wipe σ vs) H' fun σ2 H2 => wipe σ2 vs = wipe σ vs ∧ tYes σ2 H2 fun b H3 =>
        if b = true then te σ2 H3 fun y H4 => ∃ acc, H4 D = some (.lst acc) ∧ acc.length < sizeLine ∧ Nx (upd H4 D (.lst (acc ++ [y]))) else Nx H3) := by
  refine lcA w (fun i H => Ex H1 H ∧ ∃ (lb : Nat → Addr) (rl : Nat → Nat → Addr), H D = some (.lst (refs i lb)) ∧ (∀ l, l < i → H1 (lb l) = none ∧ lb l ≠ D ∧ H (lb l) = some (.lst (refs m (rl l)))) ∧
      (∀ l x, l < i → x < m → H1 (rl l x) = none ∧ rl l x ≠ D ∧ (∀ k, k < i → rl l x ≠ lb k) ∧ H (rl l x) = some (o l x)) ∧ (∀ l x k y, l < i → x < m → k < i → y < m → rl l x = rl k y → l = k ∧ x = y))
    ⟨Ex.new hD, fun _ => D, fun _ _ => D, upd_same, fun l h => by omega, fun l x h => by omega, fun l x k y h => by omega⟩ (fun i H _ h => hG H h.1) ?_ ?_
  · rintro i x H H' hi ⟨e1, lb, rl, hl, h1, h2, h3⟩ y
    refine hs i x H H' hi e1 y _ fun p rw H4 hp e4 ho hr inj => ⟨refs i lb, e4 D _ hl, by rw [refs_len]; exact sz_lt (by omega), ?_⟩
    have npD : p ≠ D := (ne_of_none hl hp).symm
    have nrD : ∀ x, x < m → rw x ≠ D := fun x hx => (ne_of_none hl (hr x hx).1).symm
    refine ⟨Ex.mut (e1.trans e4) hD, fun j => if j = i then p else lb j, fun j => if j = i then rw else rl j, ?_, fun l hlt => ?_, fun l x hlt hx => ?_, fun l x k y hlt hx hk hy e => ?_⟩
    · rw [upd_same, refs_succ (cd := fun j => if j = i then p else lb j) (fun j hj => if_neg (by omega)) (if_pos rfl)]
    · by_cases q : l = i
      · simp only [q, if_true]
        exact ⟨fresh_back e1 hp, npD, by rw [upd_ne npD]; exact ho⟩
      · simp only [if_neg q]
        obtain ⟨q1, q2, q3⟩ := h1 l (by omega)
        exact ⟨q1, q2, by rw [upd_ne q2]; exact e4 _ _ q3⟩
    · by_cases q : l = i
      · simp only [q, if_true]
        obtain ⟨q1, q2, q3⟩ := hr x hx
        refine ⟨fresh_back e1 q1, nrD x hx, fun k hk => ?_, by rw [upd_ne (nrD x hx)]; exact q3⟩
        by_cases z : k = i
        · simp only [z, if_true]
          exact q2
        · simp only [if_neg z]
          exact (ne_of_none (h1 k (by omega)).2.2 q1).symm
      · simp only [if_neg q]
        obtain ⟨q1, q2, q3, q4⟩ := h2 l x (by omega) hx
        refine ⟨q1, q2, fun k hk => ?_, by rw [upd_ne q2]; exact e4 _ _ q4⟩
        by_cases z : k = i
        · simp only [z, if_true]
          exact ne_of_none q4 hp
        · simp only [if_neg z]
          exact q3 k (by omega)
    · by_cases q : l = i <;> by_cases r : k = i
      · simp only [q, r, if_true] at e
        exact ⟨q.trans r.symm, inj x y hx hy e⟩
      · simp only [q, if_true, if_neg r] at e
        exact (ne_of_none (h2 k y (by omega) hy).2.2.2 (hr x hx).1 e.symm).elim
      · simp only [r, if_true, if_neg q] at e
        exact (ne_of_none (h2 l x (by omega) hx).2.2.2 (hr y hy).1 e).elim
      · simp only [if_neg q, if_neg r] at e
        exact h3 l x k y (by omega) hx (by omega) hy e
  · rintro H ⟨e1, lb, rl, hl, h1, h2, h3⟩
    exact hd H lb rl e1 hl h1 h2 h3
end
end My
set_option Elab.async false
set_option linter.all false
set_option autoImplicit false
set_option maxRecDepth 100000
set_option maxHeartbeats 2000000
/-! sorted of a dict whose keys are tuples of numbers -/
namespace My
open PySem PySem.Spec PyProof.Rows L2
def rSortedDT (K : PySem.W.Frag) (d : Nat) (B : Int) : List V → Hp → VK → Prop := fun xs H Q => ∃ (a : Addr) (kvs : List (List Key × V)), xs = [.ref a] ∧ Rd H a (.dT kvs) ∧ kvs.length < 64 ∧ (∀ kv ∈ kvs, ∃ ns : List Int, kv.1 = ns.map Sum.inl ∧ ns.length = d ∧ TS.Bd B ns) ∧
  ∀ (ys : List V) (p : Addr) (bs : List Addr), IsKeys H kvs bs → ys.Perm (bs.map V.ref) → ys.Pairwise (fun x y => ∀ n m, TupI K H x n → TupI K H y m → TS.code B n ≤ TS.code B m) → H p = none → Q (.ref p) (upd H p (.lst ys))
section
variable {X : Cx}
theorem isKeys_mem {H : Hp} {b : Addr} : ∀ {kvs : List (List Key × V)} {bs : List Addr}, IsKeys H kvs bs → b ∈ bs → ∃ kv ∈ kvs, H b = some (.tup (kv.1.map kV))
  | [], [], _, h => by cases h
  | p :: ks, c :: bs, q, h => by
    cases q with
    | cons h1 t =>
      rcases List.mem_cons.mp h with rfl | h
      · exact ⟨p, List.mem_cons_self, h1⟩
      · obtain ⟨kv, m, e⟩ := isKeys_mem t h
        exact ⟨kv, List.mem_cons_of_mem _ m, e⟩
  | [], c :: bs, q, _ => by cases q
  | p :: ks, [], q, _ => by cases q
theorem inl_kV (ns : List Int) : (ns.map Sum.inl : List Key).map kV = ns.map V.int := by
  rw [List.map_map]
  rfl
theorem cr_sortedDT {d : Nat} {B : Int} (hd1 : 1 ≤ d) (hc : X.calm = true) : CallR X (.builtin "sorted") (rSortedDT X.K d B) := by
  intro pins s σ H xs us Q I r h
  obtain ⟨a, kvs, rfl, hd, h64, hns, q⟩ := h
  obtain ⟨u, rfl, rx⟩ := vals1 r
  cases rx
  obtain ⟨z, hs, ks, pr, o, es, ep, ho, hx, hdt, he, hn⟩ := (show ObjOk X.prog X.w H s.heap a (.dT kvs) from hd.ok I.hok)
  have l1 : es.size = ks.length := size_of_entries he
  have l2 : kvs.length = ks.length := Paired.length pr
  refine Calls.call_function_entry PyProof.Rows.kind_sorted PyProof.Rows.plain_sorted PyProof.Rows.entry_sorted (PyProof.Rows.args_sorted1 _) ?_
  unfold Builtin.«sorted»
  refine wpAny_bind (m := checkCount "sorted" 1 1 _) (wpAny_pure ?_)
  refine wpAny_bind (PySem.W.kdu_collect (A := X.A.in1) (kdl_raw hs hx hdt) (I.ok.hd hc) ho (by rw [l1, ← l2, sizeLine_eq]; omega) fun h' tk acc' hk it => ?_)
  have ea : acc'.toList = ks.map fun x => Value.ref x.2.1 := by
    have hl : acc'.toList.length = ks.length := by rw [Array.length_toList, it.1]; exact l1
    apply List.ext_getElem?
    intro j
    rw [List.getElem?_map]
    cases hj : acc'.toList[j]? with
    | none =>
      have h1 := List.getElem?_eq_none_iff.mp hj
      rw [List.getElem?_eq_none (by omega)]
      all_goals rfl
    | some v =>
      obtain ⟨en, hen, hv⟩ := it.2 j v (by rw [← Array.getElem?_toList]; exact hj)
      have qe := entry_at he j
      rw [hen] at qe
      cases hb : ks[j]? with
      | none =>
        rw [hb] at qe
        exact nomatch (show some en = none from qe)
      | some b =>
        rw [hb] at qe
        have e2 : en = entryOfKey (tupleKind (mixKind X.prog X.w)) b := Option.some.inj qe
        rw [hv, e2]
        all_goals rfl
  have ik := isKeys_of pr
  have eb : acc'.toList = (ks.map fun x => x.2.1).map Value.ref := by rw [ea, List.map_map]; all_goals rfl
  generalize (ks.map fun x => x.2.1) = bs at ik eb
  have lb : bs.length = kvs.length := (Paired.length ik).symm
  have lacc : acc'.toList.length = bs.length := by rw [eb, List.length_map]
  have I1 : Inv X pins σ H { s with heap := h', toks := tk } := I.kept hk
  have tk1 : ∀ b ∈ bs, ∃ ns : List Int, SqT X.K H b (ns.map V.int) ∧ ns.length = d ∧ TS.Bd B ns := fun b hb => by
    obtain ⟨kv, hm, e⟩ := isKeys_mem ik hb
    obtain ⟨ns, e1, e2, e3⟩ := hns kv hm
    rw [e1, inl_kV] at e
    exact ⟨ns, SqT.of e, e2, e3⟩
  refine wpAny_bind (wpAny_newList ?_ (by rw [lacc, lb, sizeLine_eq]; omega))
  have hoL : (h'.push (seqObj "list" acc'.toList.toArray 0)).get? h'.objs.size = some (seqObj "list" acc'.toList.toArray 0) := Heap.get?_push_size _ rfl
  have ok0 : TS.TupsOk h' d B acc'.toList := fun v hv => by
    rw [eb] at hv
    obtain ⟨b, hb, rfl⟩ := List.mem_map.mp hv
    obtain ⟨ns, h1, h2, h3⟩ := tk1 b hb
    exact ⟨ns, tupI_raw I1 h1, h2, h3⟩
  have keep : ∀ b o, h'.get? b = some o → o.cls = .type "tuple" → (h'.push (seqObj "list" acc'.toList.toArray 0)).get? b = some o := fun b o e _ => Heap.get?_push_of_some _ e
  show wpAny _ _ _ _ _ { s with heap := h'.push (seqObj "list" acc'.toList.toArray 0), toks := tk }
  refine wpAny_bind (wpAny_holding (wpAny_call_entry PyProof.Rows.slot_list_sort ⟨_, hoL, rfl⟩ PyProof.Rows.entry_list_sort
    (TS.sort_tups (s := { s with heap := h'.push (seqObj "list" acc'.toList.toArray 0), toks := tk }) hoL (by rw [lacc, lb]; exact h64) hd1 (ok0.keeps keep) (fun v => TS.code B (TS.intsOf h' v)) (fun v hv ns t => ?_) fun out a1 a2 => ⟨_, rfl, ?_⟩)
    (PyProof.Rows.args_list_sort _)))
  · obtain ⟨ns0, t0, _⟩ := ok0 v hv
    have e : ns = ns0 := t.ints.symm.trans (t0.keeps keep).ints
    rw [e]
    show TS.code B (TS.intsOf h' v) = TS.code B ns0
    rw [t0.ints]
  obtain ⟨e', he'⟩ := PyProof.Rows.sortedHeap_at (vs := acc'.toList) (out := out) hoL
  have h3 : ∀ u ∈ out.toList, ∃ a, u = Value.ref a := fun u hu => by
    have := a1.mem_iff.mp hu
    rw [eb] at this
    obtain ⟨b, _, rfl⟩ := List.mem_map.mp this
    exact ⟨b, rfl⟩
  have hp : (out.toList.map bkV).Perm (bs.map V.ref) := by
    have := a1.map bkV
    rw [eb, List.map_map] at this
    exact this
  have hlen : (out.toList.map bkV).length ≤ sizeLine := by
    rw [hp.length_eq, List.length_map, lb, sizeLine_eq]
    omega
  refine wpAny_pure ⟨_, rfl, .ref h'.objs.size, upd H h'.objs.size (.lst (out.toList.map bkV)), I1.laid (t' := tk) (fun b u e => ?_) (Nat.le_refl _)
    (show ObjOk X.prog X.w _ _ _ (.lst (out.toList.map bkV)) from ⟨hlen, out.toList, e', bkV_vals h3, by rw [Array.toArray_toList]; exact he'⟩), rfl, q _ _ bs ik hp ?_ (I1.hok.fresh (Nat.le_refl _))⟩
  · have hb : b < h'.objs.size := Heap.lt_size e
    rw [PyProof.Rows.sortedHeap_old (Nat.ne_of_lt hb) (by rw [size_push']; exact Nat.lt_succ_of_lt hb)]
    exact Heap.get?_push_of_some _ e
  · rw [List.pairwise_map]
    refine List.Pairwise.imp (fun {u v} huv n m hn hm => ?_) a2
    obtain ⟨t, et, ht⟩ := hn
    obtain ⟨t', et', ht'⟩ := hm
    have eu := bkV_ref et
    have ev := bkV_ref et'
    have i1 : TS.intsOf h' u = n := by
      rw [eu]
      exact (tupI_raw I1 ht).ints
    have i2 : TS.intsOf h' v = m := by
      rw [ev]
      exact (tupI_raw I1 ht').ints
    rw [← i1, ← i2]
    exact huv
end
end My
set_option Elab.async false
set_option linter.all false
set_option autoImplicit false
set_option maxRecDepth 100000
set_option maxHeartbeats 2000000
/-! the values of a dict whose keys are tuples: the view, its list -/
namespace My
open PySem PySem.Spec PyProof.Rows L2
section
variable {prog : Program} {w : World} {A : Around} {E : Value → Shared → Prop} {s : Shared}
theorem meetsVals {d : Addr} {es : Array DictEntry} {ep : Nat} (hd : (d == sysModules) = false) :
    MeetsIn prog w (Builtin.«dict.values» ⟨[.ref d], []⟩) (fun _ R s => s.heap.DictRaw d es ep ∧
      R (.ok (.ret (.ref s.heap.objs.size))) { s with heap := s.heap.push { cls := .type "dict_values", data := .fields #[.ref d] } }) :=
  .of_wp fun A R s ⟨hm, h⟩ => by
    refine wpAny_bind ?_
    unfold Builtin.Dict.noArgs
    refine wpAny_bind (wpAny_notOrdered_dict hm.typeIs ?_)
    show wpAny _ _ (pure d) _ _ s
    refine wpAny_pure ?_
    show wpAny _ _ (Builtin.Dict.showsAll d >>= _) _ _ s
    unfold Builtin.Dict.showsAll
    rw [if_neg (by rw [hd]; exact Bool.false_ne_true)]
    refine wpAny_bind (wpAny_pure ?_)
    exact wpAny_bind (wpAny_newObj_type (wpAny_pure ⟨_, rfl, h⟩))
theorem callVals {d : Addr} {es : Array DictEntry} {ep : Nat} {Q : Value → Shared → Prop} (hd : (d == sysModules) = false) (hm : s.heap.DictRaw d es ep)
    (h : Q (.ref s.heap.objs.size) { s with heap := s.heap.push { cls := .type "dict_values", data := .fields #[.ref d] } }) : wpAny (model prog w) A (call (.builtin "dict.values") [.ref d]) Q E s :=
  call_meetsIn PySem.F.slot_dict_values hm.typeIs PySem.F.entry_dict_values (PySem.F.args_dict_values_1 _) (meetsVals (es := es) (ep := ep) hd) ⟨hm, h⟩
end
/-- the view d.values() at p -/
def valsO (p d : Addr) : HO := .ext fun h => h.IsValuesView p d
theorem valsO_ok {P : Program} {w : World} {H : Hp} {h : Heap} {p d : Addr} (e : h.get? p = some { cls := .type "dict_values", data := .fields #[.ref d] }) : ObjOk P w H h p (valsO p d) :=
  ⟨⟨_, e, rfl, rfl⟩, ⟨_, e⟩, fun h1 h2 x k => let ⟨o, ho, r⟩ := x; ⟨o, k o ho, r⟩⟩
section
variable {X : Cx}
def rValsT : V → List V → Hp → VK → Prop := fun x xs H Q => ∃ (a : Addr) (kvs : List (List L2.Key × V)), x = .ref a ∧ xs = [] ∧ H a = some (.dT kvs) ∧ ∀ p, H p = none → Q (.ref p) (upd H p (valsO p a))
theorem mt_valsT : MtR X "dict.values" rValsT := by
  intro pins s σ H x xs v us Q I rx rxs h
  obtain ⟨a, kvs, rfl, rfl, ha, q⟩ := h
  cases rx
  cases rxs
  obtain ⟨z, hd, xs', rel, o, es, ep, ho, hx, hdat, _⟩ := dt_of I.hok ha
  refine callVals (es := es) (ep := ep) hd ⟨o, ho, hx, hdat⟩ ?_
  have hf : H s.heap.objs.size = none := I.hok.fresh (Nat.le_refl _)
  exact ⟨.ref s.heap.objs.size, upd H s.heap.objs.size (valsO s.heap.objs.size a), I.laid (t' := s.toks) (fun b u e => Heap.get?_push_of_some _ e) (Nat.le_refl _) (valsO_ok (Heap.get?_push_size _ rfl)), rfl, q _ hf⟩
theorem kt_vals {H : Hp} : ∀ {kvs : List (List L2.Key × V)} {xs : List (List L2.Key × Addr × Value)}, KT H kvs xs → Vals (kvs.map (·.2)) (xs.map fun x => x.2.2)
  | _, _, Paired.nil => .nil
  | _, _, Paired.cons h t => .cons h.2.2 (kt_vals t)
def rListVals : List V → Hp → VK → Prop := fun xs H Q => ∃ (p a : Addr) (kvs : List (List L2.Key × V)), xs = [.ref p] ∧ H p = some (valsO p a) ∧ H a = some (.dT kvs) ∧ ∀ q, H q = none → Q (.ref q) (upd H q (.lst (kvs.map (·.2))))
theorem cr_listVals (hc : X.calm = true) : CallR X (.type "list") rListVals := by
  intro pins s σ H xs us Q I r h
  obtain ⟨p, a, kvs, rfl, hp, ha, q⟩ := h
  obtain ⟨u, rfl, rx⟩ := r.one
  cases rx
  obtain ⟨z, hs, ks, pr, o, es, ep, ho, hx, hdt, he, hn⟩ := (show ObjOk X.prog X.w H s.heap a (.dT kvs) from I.hok a _ ha)
  have hv : s.heap.IsValuesView p a := (show ObjOk X.prog X.w H s.heap p (valsO p a) from I.hok p _ hp).1
  have l1 : es.size = ks.length := size_of_entries he
  have l2 : kvs.length = ks.length := Paired.length pr
  refine PySem.W.kdl_call (KdlSrc.rawValues (es := es) (ep := ep)) (I.ok.hd hc) ⟨hv, o, ho, hx, hdt⟩ (by omega) fun h' tk acc' c' kp e it => ?_
  have ea : acc'.toList = ks.map fun x => x.2.2 := by
    have hl : acc'.toList.length = ks.length := by rw [Array.length_toList, it.1]; exact l1
    apply List.ext_getElem?
    intro j
    rw [List.getElem?_map]
    cases hj : acc'.toList[j]? with
    | none =>
      have h1 := List.getElem?_eq_none_iff.mp hj
      rw [List.getElem?_eq_none (by omega)]
      all_goals rfl
    | some v =>
      obtain ⟨hi, hv⟩ := it.2 j v (by rw [← Array.getElem?_toList]; exact hj)
      have qe := entry_at he j
      rw [Array.getElem?_eq_getElem hi] at qe
      cases hb : ks[j]? with
      | none =>
        rw [hb] at qe
        exact nomatch (show some es[j] = none from qe)
      | some b =>
        rw [hb] at qe
        have e2 : es[j] = entryOfKey (tupleKind (mixKind X.prog X.w)) b := Option.some.inj qe
        rw [hv, e2]
        all_goals rfl
  have rv : Vals (kvs.map (·.2)) acc'.toList := by rw [ea]; exact kt_vals pr
  have hz : (kvs.map (·.2)).length ≤ sizeLine := by rw [List.length_map]; omega
  refine ⟨.ref s.heap.objs.size, _, I.laid (t' := tk) (o := .lst (kvs.map (·.2))) kp (Nat.le_refl _) ?_, rfl, q _ (I.hok.fresh (Nat.le_refl _))⟩
  exact ⟨hz, acc'.toList, c', rv, by rw [Array.toArray_toList]; exact e⟩
end
end My
set_option Elab.async false
set_option linter.all false
set_option autoImplicit false
set_option maxRecDepth 100000
set_option maxHeartbeats 2000000
/-! x in t: t a tuple of data -/
namespace My
open PySem PySem.Spec PyProof.Rows L2
def rInDT (K : PySem.W.Frag) : R2 := fun x y H Q => ∃ d ds, Dp K H x d ∧ Dp K H y (.tuple ds) ∧ SeqAt.shaped d = true ∧ SeqAt.shaped (.tuple ds) = true ∧ Q (.bl (ds.any fun z => PyData.eqv z d)) H
theorem op_inDT {X : Cx} (hu : X.A.units + 65 < cLine) : OpR X (compareOp .In) (rInDT X.K) := by
  intro pins s σ H x y v u Q I rx ry h
  obtain ⟨d, ds, hd, he, sd, se, q⟩ := h
  obtain ⟨as, r1⟩ := Dp.reads I d x v hd rx
  obtain ⟨bs, r2⟩ := Dp.reads I (.tuple ds) y u he ry
  exact SeqAt.in_tuple_reads r2 r1 (SeqAt.canLay_of_shaped se) (SeqAt.canLay_of_shaped sd) (room_in_shaped sd hu) ⟨.bl _, H, I, rfl, q⟩
/-- the same with the written part as a letter -/
theorem opInDT {X : Cx} (K : PySem.W.Frag) (hu : X.A.units + 65 < cLine) (hK : X.K = K := by rfl) : OpR X (compareOp .In) (rInDT K) := by
  subst hK
  exact op_inDT hu
theorem opInDL {X : Cx} (K : PySem.W.Frag) (hu : X.A.units + 65 < cLine) (hK : X.K = K := by rfl) : OpR X (compareOp .In) (rInD K) := by
  subst hK
  exact op_inD hu
theorem opNotInDL {X : Cx} (K : PySem.W.Frag) (hu : X.A.units + 65 < cLine) (hK : X.K = K := by rfl) : OpR X (compareOp .NotIn) (rNotInD K) := by
  subst hK
  exact op_notInD hu
theorem opInS {X : Cx} (K : PySem.W.Frag) (hK : X.K = K := by rfl) : OpR X (compareOp .In) (rIn K false) := by
  subst hK
  exact op_in_seq
theorem opNotInS {X : Cx} (K : PySem.W.Frag) (hK : X.K = K := by rfl) : OpR X (compareOp .NotIn) (rIn K true) := by
  subst hK
  exact op_notIn_seq
theorem crSortT {X : Cx} (K : PySem.W.Frag) {d : Nat} {B : Int} (hd : 1 ≤ d) (hK : X.K = K := by rfl) : CallR X (.builtin "sorted") (rSortU K d B) := by
  subst hK
  exact cr_sortT hd
theorem crSortedDT {X : Cx} (K : PySem.W.Frag) {d : Nat} {B : Int} (hd : 1 ≤ d) (hc : X.calm = true) (hK : X.K = K := by rfl) : CallR X (.builtin "sorted") (rSortedDT K d B) := by
  subst hK
  exact cr_sortedDT hd hc
theorem peBm0 {X : Cx} (K : PySem.W.Frag) {T : String} {name : Str} {id : String} {o : Expr} {to : TE} {r : V → List V → Hp → VK → Prop} {apos cpos : Pos} (pa : PlainAttrs T) (slot : Slot T name id) (hty : typeOf (.builtin id) = pure (.type "method_descriptor")) (hm : MtR X id r) (ho : PE X o to)
    (hbase : attributeBase o name X.env (eval o X.env) = eval o X.env := by rfl) (hline : (apos.endLine == cpos.line) = true := by rfl) (hK : X.K = K := by rfl) : PE X (.Call (.Attribute o name apos) [] [] cpos) (tBM0 K T r to) := by
  subst hK
  exact pe_bm0 pa slot hty hm ho hbase hline
end My
set_option Elab.async false
set_option linter.all false
set_option autoImplicit false
set_option maxRecDepth 100000
set_option maxHeartbeats 4000000
/-! own exceptions with one field, over any built-in base (after skel/42, which speaks of ValueError) -/
namespace PySem
namespace OneX
open PySem.W PySem.Calls PyProof.Rows PySem.HandSPX Builtin.ObjectAttr
/-- what is asked of a built-in base's line of classes -/
structure Tail (bmB : List Value) : Prop where
  pass : ∀ self : Value, refuseLoop self "__setattr__" bmB = pure ()
  obj : bmB.contains (.type "object") = true
abbrev exTail : List Value := [.type "Exception", .type "BaseException", .type "object"]
theorem tail_ex : Tail exTail := ⟨fun self => by kernel_rfl, by decide +kernel⟩
section
variable {prog : Program} {w : World} {A : Around} {R : Result → Shared → Prop} {hp : Heap} {g : Array GenState} {d : Drawn} {t : Nat} {os : OsState}
/-- self.name = v on a fresh exception -/
theorem osaX {bmB : List Value} (TB : Tail bmB) {K : Frag} {name : Str} {tk : Tok} {v : Value} {x C : Addr} {fv : Array Value} {cd : ClassData} (X : K.In hp) (hx : hp.get? x = some { cls := .ref C, data := .fields fv }) (hcd : clsIn K C = some cd)
    (hm : excTail bmB cd.mro = true) (hh : cd.hasDict = true) (ha : findIn K (.ref C) name = some none)
    (hq : ∀ h' tk' dx, (∀ b o, b ≠ x → hp.get? b = some o → h'.get? b = some o) → hp.objs.size ≤ dx → dx ≠ x → h'.get? x = some { cls := .ref C, dict := some dx, data := .fields fv } → h'.Ns1 dx (fun y => if y = name then some v else none) → R (.ok (.ret .none)) ⟨h', g, d, tk', os⟩) :
    codeAny (model prog w) A (.call (.builtin "object.__setattr__") ⟨[.ref x, .str name tk, v], []⟩) R ⟨hp, g, d, t, os⟩ := by
  have ob : cd.mro.contains (.type "object") = true := by rw [excTail_contains "object" _ hm]; exact TB.obj
  have ne : cd.mro.isEmpty = false := by
    cases e : cd.mro with
    | nil => rw [e] at ob; cases ob
    | cons _ _ => rfl
  have at_x : InstAt hp x { cls := .ref C, data := .fields fv } C none := ⟨hx, rfl, rfl, trivial⟩
  have xs : x ≠ hp.objs.size := fun z => Nat.lt_irrefl _ (by have := Heap.lt_size hx; rw [← z] at this; exact this)
  have isObj : Looks (model prog w) hp (isInstance (.ref x) (.type "object")) true := at_x.type.andThen (looks_mroIn X (by unfold mroIn; rw [hcd, Option.bind_some, if_neg (by rw [ne]; exact Bool.false_ne_true), ob]))
  have lm : Looks (model prog w) hp (mroOf (.ref C)) cd.mro := (looks_clsIn X hcd).andThen .now
  have lc : Looks (model prog w) hp (classData C) cd := looks_clsIn X hcd
  refine codeAny_call_builtin F.store_object.slot.plain F.store_object.entry (@check_slot (model prog w) _ _ ⟨hp, g, d, t, os⟩ "object.__setattr__" "object" "__setattr__" (.ref x) [.str name tk, v] [] _ F.store_object.kind F.store_object.split isObj (F.store_object.args (.ref x) (.str name tk) v) ?_)
  rw [osa_eq, refuse_eq]
  refine wpAny_bind (wpAny_bind (at_x.type.at (wpAny_bind (lm.at ?_))))
  rw [excTail_pass (.ref x) (TB.pass _) _ hm]
  have lt : Looks (model prog w) hp (storeTaker? none) none := .now
  refine wpAny_pure (wpAny_bind (at_x.type.at (wpAny_bind ((looks_findIn X ha).at (wpAny_bind (lt.at ?_))))))
  show wpAny _ _ (storeInOwnDict (.ref x) (.ref C) (.str name tk) name v false) _ _ _
  obtain ⟨c1, c2, c3, c4, c5, c6, c7, c8, c9, c10, c11⟩ := cd
  dsimp only at hh
  subst hh
  unfold storeInOwnDict ownDictForStores
  repeat (first | with_reducible refine store_in_new ?_ ?_ | with_reducible refine wpAny_loadPart_at hx ?_ | with_reducible refine lc.at ?_ | wp_step)
  · refine ⟨_, #[], _, (Heap.get?_update_ne _ _ _ _ xs.symm).trans (Heap.get?_push_at rfl rfl), rfl, fun e he => absurd he (by simp), fun _ => rfl⟩
  · intro h' tk' hn' hs
    have x1 : (hp.push { cls := .type "dict", data := .dict #[] }).get? x = some { cls := .ref C, data := .fields fv } := Heap.get?_push_of_some _ hx
    refine hq h' tk' hp.objs.size (fun b o hb ho => ?_) (Nat.le_refl _) xs.symm ((hs.2 x xs).trans (Heap.get?_update_self _ x1 rfl)) hn'
    have nb : b ≠ hp.objs.size := Nat.ne_of_lt (Heap.lt_size ho)
    exact (hs.2 b nb).trans ((Heap.get?_update_ne _ _ _ _ hb).trans (Heap.get?_push_of_some _ ho))
end
/-! ### the text of __init__(self, at): self.at = at -/
def iA (p1 p2 : Pos) : Arguments := { posonlyargs := [], args := [{ arg := "self", annotation := none, pos := p1 }, { arg := "at", annotation := none, pos := p2 }], vararg := none, kwonlyargs := [], kw_defaults := [], kwarg := none, defaults := [] }
def iB (q1 q2 q3 q4 : Pos) : List Stmt := [.Assign [.Attribute (.Name "self" q1) "at" q2] (.Name "at" q3) q4]
def iS : Scope := { kind := .function, names := [(PySem.Str.ofString "self", .local), (PySem.Str.ofString "at", .local)], isGenerator := false, isCoroutine := false, more := [] }
/-- what the written part says of the class nm at C over the built-in base of newId, bmB, and of its __init__ at fI -/
structure OneTxt (K : Frag) (mg : Str → Option Value) (nm : Str) (bmB : List Value) (newId : String) (C fI : Addr) : Prop where
  gC : mg nm = some (.ref C)
  cls : ∃ n0 q N bs bm sn sub ab col dd k0 k1 k2 k3 k5, K.lookup C = some (excClassObj n0 q C N bs bm true sn sub ab col dd k0 k1 k2 k3 k5 newId) ∧ excTail bmB bm = true
  sa : findIn K (.ref C) "__setattr__" = some (some (.builtin "object.__setattr__"))
  ga : findIn K (.ref C) "__getattribute__" = some (some (.builtin "BaseException.__getattribute__"))
  gg : findIn K (.ref C) "__getattr__" = some none
  noN : findIn K (.ref C) "at" = some none
  iC : findIn K (.ref C) "__init__" = some (some (.ref fI))
  tC : typeIn K (.ref fI) = some (.type "function")
  kC : keepIn K (.ref C) = true
  exC : subIn K (.ref C) (.type "BaseException") = some true
  tyC : typeIn K (.ref C) = some (.type "type")
  hdC : hasDictIn K C = true
  te : exmOne K (.ref C) (.ref C) = some true
  fn : ∃ (qn : Str) (oc : Value) (od : Option Addr) (doc pm : Value) (an : Option Addr) (cdv ct : Value) (osl : Array (Option Value)) (p1 p2 q1 q2 q3 q4 : Pos),
    K.lookup fI = some ⟨oc, od, .func (fnOf "__init__" qn (iA p1 p2) (iB q1 q2 q3 q4) iS .none .none doc pm an cdv ct), osl⟩ ∧ codeIn K cdv qn = true
theorem one_size (v : Value) : [v].length ≤ sizeLine := by
  rw [sizeLine_eq]
  exact (by decide : 1 ≤ 16777216)
theorem ldC {M : Model} {s : Shared} {name : Str} {scope : Scope} {L a : Addr} {cd : Value} {m : Str → Option Value} {x : Str} {pos : Pos} {v : Value} {Q : Value → Shared → Prop} {A : Around} {E : Value → Shared → Prop} (hn : s.heap.Ns L m) (hv : m x = some v) (h : Q v s)
    (hk : scope.kind = .function := by rfl) (hl : (envOfC name scope L a cd).kindOf x = some .local := by rfl) (hd : (x == ("__debug__" : Str)) = false := by decide) :
    wpAny M A (eval (.Name x pos) (envOfC name scope L a cd)) Q E s := wpAny_Name (wpAny_loadName_local hk hl hn hv h) hd
/-- what __init__ leaves of a fresh exception at x -/
structure InitEnd (h h' : Heap) (x C dx t1 : Addr) (v : Value) : Prop where
  keep : ∀ b o, b ≠ x → h.get? b = some o → h'.get? b = some o
  obj : h'.get? x = some { cls := .ref C, dict := some dx, data := .fields #[.ref t1, .none, .none, .none, .bool false, .none] }
  dbig : h.objs.size ≤ dx
  dne : dx ≠ x
  ns : h'.Ns1 dx (fun y => if y = "at" then some v else none)
/-- a made one -/
structure OwnMade (h h' : Heap) (e C d : Addr) (v : Value) : Prop where
  keep : ∀ b o, h.get? b = some o → h'.get? b = some o
  new : h.objs.size ≤ e
  obj : ∃ oe vs, h'.get? e = some oe ∧ oe.cls = .ref C ∧ oe.dict = some d ∧ oe.data = .fields vs ∧ vs[1]? = some .none
  dbig : h.objs.size ≤ d
  dne : d ≠ e
  ns : h'.Ns1 d (fun y => if y = "at" then some v else none)
section
variable {prog : Program} {w : World} {A : Around} {E : Value → Shared → Prop} {R : Result → Shared → Prop} {s : Shared} {K : Frag} {mg : Str → Option Value} {nm : Str} {bmB : List Value} {B newId initId : String} {C fI : Addr}
theorem one_init (T : OneTxt K mg nm bmB newId C fI) (TB : Tail bmB) {x t0 : Addr} {v : Value} (X : K.In s.heap) (hlim : s.heap.NoLimit) (hx : s.heap.get? x = some (excO C t0)) (hnx : K.lookup x = none) (hroom : A.depth < recursionLimit)
    (hq : ∀ h' tk dx, InitEnd s.heap h' x C dx t0 v → R (.ok (.ret .none)) { s with heap := h', toks := tk }) :
    codeAny (model prog w) A (.call (.ref fI) ⟨[.ref x, v], []⟩) R s := by
  obtain ⟨qn, oc, od, doc, pm, an, cdv, ct, osl, p1, p2, q1, q2, q3, q4, ho, hcd⟩ := T.fn
  obtain ⟨n0, q, N, bs, bm, sn, sub, ab, col, dd, k0, k1, k2, k3, k5, hC, hbm⟩ := T.cls
  have hcl : clsIn K C = some { name := n0, bases := bs, mro := .ref C :: bm, ns := N, qualname := q, hasDict := true, slotNames := sn, subclasses := sub, abstract := ab, collection := col, hasDel := false } := by unfold clsIn; rw [hC] <;> rfl
  refine Att.call_fn (binds := [("self", .ref x), ("at", v)]) X hlim ho hcd hroom (BindsTo.of_eq (by first | rfl | with_unfolding_all rfl)) (by first | rfl | decide | with_unfolding_all rfl) (fun s₁ IC => ?_) rfl rfl rfl
  obtain ⟨h₁, tk₁, rfl⟩ := IC.toInCall.same
  have k : ∀ b o, s.heap.get? b = some o → h₁.get? b = some o := IC.toInCall.keep
  have hn := IC.toInCall.ns
  have hxL : s.heap.objs.size ≠ x := Nat.ne_of_gt (Heap.lt_size hx)
  have X₁ : K.In h₁ := X.keeps k
  have hx₁ := k _ _ hx
  show wpAny _ _ (execs _ _) _ _ _
  refine wpAny_execs_cons (plainObj_wpAny_Assign_Attribute ?_)
  refine ldC (v := v) hn (by first | rfl | with_unfolding_all rfl | kernel_rfl) (ldC (v := .ref x) hn (by first | rfl | with_unfolding_all rfl | kernel_rfl) ?_)
  refine set_plain X₁ (ox := excO C t0) (od := none) ⟨hx₁, rfl, rfl, trivial⟩ T.sa ?_
  refine osaX TB X₁ hx₁ hcl (show excTail bmB (.ref C :: bm) = true from hbm) rfl T.noN (fun h₃ tk₃ dx k₃ dn dne hx₃ hn₃ => ?_)
  show wpAny _ _ (execs _ _) _ _ _
  have z : s.heap.objs.size < h₁.objs.size := hn.lt
  exact wpAny_execs_nil (hq h₃ tk₃ dx ⟨fun b o hb e => k₃ b o hb (k b o e), hx₃, Nat.le_of_lt (Nat.lt_of_lt_of_le z dn), dne, hn₃⟩)
theorem one_made (T : OneTxt K mg nm bmB newId C fI) (TB : Tail bmB) (F : ExcBaseFacts B newId initId bmB) {v : Value} (X : K.In s.heap) (hlim : s.heap.NoLimit) (hroom : A.depth + 1 < recursionLimit)
    (hq : ∀ h' tk e d, OwnMade s.heap h' e C d v → R (.ok (.ret (.ref e))) { s with heap := h', toks := tk }) :
    codeAny (model prog w) A (.call (.ref C) ⟨[v], []⟩) R s := by
  obtain ⟨n0, q, N, bs, bm, sn, sub, ab, col, dd, k0, k1, k2, k3, k5, hC, hbm⟩ := T.cls
  obtain ⟨hp, g, dr, tk, os⟩ := s
  have k : ∀ b o, hp.get? b = some o → ((hp.push (kdv_tup [v])).push (excO C hp.objs.size)).get? b = some o := fun b o e => Heap.get?_push_of_some _ (Heap.get?_push_of_some _ e)
  have hget : ((hp.push (kdv_tup [v])).push (excO C hp.objs.size)).get? (hp.objs.size + 1) = some (excO C hp.objs.size) := by heap_get
  have hnx : K.lookup (hp.objs.size + 1) = none := by
    cases e : K.lookup (hp.objs.size + 1) with
    | none => rfl
    | some o =>
      have z : hp.get? (hp.objs.size + 1) = some o := X _ _ e
      exact absurd (Nat.lt_of_succ_lt (Heap.lt_size z)) (Nat.lt_irrefl _)
  refine call_own F (fun Y => excTail_contains Y bm hbm) (X _ _ hC) (looks_findIn X T.iC) (fun self => bind_fn X self T.tC) (one_size v) ?_
  refine one_init (s := ⟨(hp.push (kdv_tup [v])).push (excO C hp.objs.size), g, dr, tk, os⟩) T TB (X.keeps k) (hlim.keeps k) hget hnx ?_ fun h' tk' dx ⟨k', hx, dn, dne, hns⟩ => ?_
  · show A.depth + 1 < recursionLimit
    exact hroom
  · have old : ∀ b o, hp.get? b = some o → h'.get? b = some o := fun b o e => k' b o (Nat.ne_of_lt (Nat.lt_succ_of_lt (Heap.lt_size e))) (k b o e)
    have z : hp.objs.size + 1 + 1 ≤ dx := by
      first
        | (simpa only [Heap.size_push] using dn)
        | exact dn
        | (have q := dn; rw [Heap.size_push, Heap.size_push] at q; exact q)
    exact ⟨rfl, hq h' tk' (hp.objs.size + 1) dx ⟨old, Nat.le_succ _, ⟨_, _, hx, rfl, rfl, rfl, rfl⟩, Nat.le_trans (Nat.le_trans (Nat.le_succ _) (Nat.le_succ _)) z, dne, hns⟩⟩
end
end OneX
end PySem
namespace L2
open PySem PySem.Spec PyProof.Rows
theorem relO_at {v : V} {v' : Value} (r : RelV v v') (f : Str) : RelO (List.lookup f [(("at" : Str), v)]) (if f = "at" then some v' else none) := by
  by_cases hw : f = "at"
  · subst hw
    rw [if_pos rfl]
    have q : List.lookup ("at" : Str) [(("at" : Str), v)] = some v := by simp [List.lookup]
    rw [q]
    exact r
  · rw [if_neg hw]
    have qw : (f == ("at" : Str)) = false := by simpa using hw
    have q2 : List.lookup f [(("at" : Str), v)] = none := by simp [List.lookup, qw]
    rw [q2]
    trivial
section
variable {X : Cx} {nm : Str} {bmB : List Value} {B newId initId : String} {C fI : Addr}
/-- C(e) -/
def tMkAt (C : Addr) (ta : TA) : St → Hp → XK → Prop := fun σ H Q => ta σ H fun vs H1 => ∃ v, vs = [v] ∧ ∀ d, H1 d = none → Q (.ref C) (some d) (upd H1 d (.xd [(("at" : Str), v)]))
theorem pmk_at {a : Expr} {ta : TA} {p pos : Pos} {k : Nat} (T : PySem.OneX.OneTxt X.K X.mg nm bmB newId C fI) (TB : PySem.OneX.Tail bmB) (F : ExcBaseFacts B newId initId bmB) (hr : Room k X.A) (ha : PA X [a] ta) (hg : Gl X nm := by rfl) (hdb : (nm == ("__debug__" : Str)) = false := by decide)
    (he : starEach (a :: []) X.env = (false, eval a X.env) :: starEach [] X.env := by rfl) (hpl : (backTo pos (starEach [] X.env)).any (·.1) = false := by rfl) :
    PMk X (.Call (.Name nm p) [a] [] pos) (tMkAt C ta) := by
  intro pins s σ H Q I h
  refine wpAny_Call_Name_kw (ld_glob I hg T.gC ?_ hdb)
  refine PySem.W.callWith_K (h₀ := X.base) I.ok.mod.kin T.kC (thn (ha.run pos pins s σ H _ I h) fun us s1 hh => ?_) he hpl
  obtain ⟨vs, H1, I1, r1, v, ev, q1⟩ := hh
  subst ev
  refine ⟨I1.kIn, ?_⟩
  cases r1 with
  | cons rv rn =>
    rename_i v' us'
    cases rn
    show wpAny _ _ (call (.ref C) [v']) _ _ _
    have hlim := I1.nolimit
    obtain ⟨hp, g, dr, tk, os⟩ := s1
    refine wpAny_call (PySem.OneX.one_made T TB F I1.kIn hlim (by have := hr.dp; omega) fun h' tk' e d M => ?_)
    show MkP X pins σ Q (.ref e) ⟨h', g, dr, tk', os⟩
    obtain ⟨oe, fv, hoe, hc, hd, hdat, h1⟩ := M.obj
    have hns := M.ns
    obtain ⟨G', g1, g2⟩ := restrict h' fun b => decide (b ≠ e)
    have gk : ∀ b, b ≠ e → G'.get? b = h'.get? b := fun b hb => g1 b (decide_eq_true hb)
    have ge : G'.get? e = none := g2 e (by simp)
    have old : ∀ b o, hp.get? b = some o → G'.get? b = some o := fun b o q => (gk b (Nat.ne_of_lt (Nat.lt_of_lt_of_le (Heap.lt_size q) M.new))).trans (M.keep b o q)
    have ob : ObjOk X.prog X.w (upd H1 d (.xd [(("at" : Str), v)])) G' d (.xd [(("at" : Str), v)]) :=
      ⟨_, hns.at (fun o q => (gk d M.dne).trans q), fun f => relO_at rv f⟩
    have J : Inv X pins σ (upd H1 d (.xd [(("at" : Str), v)])) ⟨G', g, dr, tk', os⟩ := I1.laid (t' := tk') old M.dbig ob
    refine ⟨e, oe, fv, ⟨G', g, dr, tk', os⟩, _, .ref C, some d, rfl, J, fun b o q => ?_, ge, hoe, ⟨hc, hd⟩, hdat, h1, ?_, rfl, I1.bare, raises_own T.exC T.tyC, q1 d (I1.hok.fresh M.dbig)⟩
    · by_cases hb : b = e
      · have q' : G'.get? b = some o := q
        rw [hb, ge] at q'; cases q'
      · exact (gk b hb).symm.trans q
    · rw [upd_ne (Ne.symm M.dne)]
      exact I1.hok.fresh M.new
/-- raise C(e) -/
def tRaiseAt (C : Addr) (W : WX) (ta : TA) : TS := fun _ σ H => tMkAt C ta σ H fun cls d H' => W cls d σ H'
theorem ps_raiseAt {a : Expr} {ta : TA} {W : WX} {p pos pos2 : Pos} {k : Nat} (hc : X.calm = true) (T : PySem.OneX.OneTxt X.K X.mg nm bmB newId C fI) (TB : PySem.OneX.Tail bmB) (F : ExcBaseFacts B newId initId bmB) (hr : Room k X.A) (tk : Takes X W) (ha : PA X [a] ta) (hg : Gl X nm := by rfl) (hdb : (nm == ("__debug__" : Str)) = false := by decide)
    (he : starEach (a :: []) X.env = (false, eval a X.env) :: starEach [] X.env := by rfl) (hpl : (backTo pos (starEach [] X.env)).any (·.1) = false := by rfl) :
    PS X (.Raise (some (.Call (.Name nm p) [a] [] pos)) none pos2) (tRaiseAt C W ta) := ps_raise hc tk (pmk_at T TB F hr ha hg hdb he hpl)
/-- e.at, e the exception that the suite holds (at a; its class cls, its dict d) -/
def tByAt (C : Addr) (a : Addr) (cls : Value) (d : Option Addr) (te : TE) : TE := fun σ H Q => te σ H fun x H1 => x = .ref a ∧ cls = .ref C ∧ ∃ (dd : Addr) (v : V), d = some dd ∧ H1 dd = some (.xd [(("at" : Str), v)]) ∧ Q v H1
theorem pe_byAt {a : Addr} {oe : Obj} {cls : Value} {d : Option Addr} {pn : List (Addr × Obj)} {e : Expr} {te : TE} {pos : Pos} (T : PySem.OneX.OneTxt X.K X.mg nm bmB newId C fI) (hz : Zc cls d oe) (hf : ∃ vs, oe.data = .fields vs) (he : PE (X.suite a ((a, oe) :: pn)) e te)
    (hb : attributeBase e "at" X.env (eval e X.env) = eval e X.env := by rfl) :
    PE (X.suite a ((a, oe) :: pn)) (.Attribute e "at" pos) (tByAt C a cls d te) := by
  refine ⟨fun pins s σ H Q I h => ?_⟩
  refine attr_of hb (thn (he.run pins s σ H _ I h) fun u s1 hh => ?_)
  obtain ⟨x, H1, I1, rx, ex, ec, dd, v, ed, ea, q⟩ := hh
  subst ex
  obtain rfl : u = Value.ref a := rx
  subst ec
  subst ed
  obtain ⟨ha, _⟩ := I1.pin (a, oe) (List.mem_append_left _ List.mem_cons_self)
  obtain ⟨vs, hd⟩ := hf
  have hx : ObjOk X.prog X.w H1 s1.heap dd (.xd [(("at" : Str), v)]) := I1.hok dd _ ea
  obtain ⟨mA, hns, hr⟩ := hx
  obtain ⟨od, ho, hl⟩ := lookIn_ns hns
  have l : List.lookup ("at" : Str) [(("at" : Str), v)] = some v := by simp [List.lookup]
  obtain ⟨u, hu, ru⟩ := RelO.some_of (v := v) (o := mA "at") (by rw [← l]; exact hr "at")
  have J : PySem.W.InstAt s1.heap a oe C (some od) := ⟨ha, hz.1, by unfold PySem.W.notCls; rw [hd] <;> rfl, by rw [hz.2]; exact ho⟩
  exact HandSPX.exc_get I1.kIn J T.ga T.gg T.exC (PySem.W.findObj_own T.hdC T.noN rfl (by rw [hl, hu])) (handed_of ru) ⟨v, H1, I1.tok _, ru, q⟩
/-- a statement that is never reached -/
theorem ps_no {st : Stmt} : PS X st (fun _ _ _ => False) := ⟨fun _ _ _ _ _ _ h => h.elim⟩
theorem pss_no {b : List Stmt} : PSs X b (fun _ _ _ => False) := ⟨fun _ _ _ _ _ _ h => h.elim⟩
end
end L2
set_option Elab.async false
set_option linter.all false
set_option autoImplicit false
set_option maxRecDepth 100000
set_option maxHeartbeats 2000000
/-! a law run without guards whose code object is told; f(k = v, ..) -/
namespace My
open PySem PySem.Spec PyProof.Rows L2
section
variable {P : Program} {w : World} {K : PySem.W.Frag} {mg : Str → Option Value} {base : Heap}
theorem okGc {x qual : Str} {st : Stmt} {f : Addr} {N ps : List Str} {k : Nat} {sp : Sp} {oc kV doc pm cdv ct : Value} {od an : Option Addr} {osl : Array (Option Value)}
    (lk : K.lookup f = some ⟨oc, od, .func (PySem.W.fnOf x qual (defArgs st) (defBody st) (defScope st) .none kV doc pm an cdv ct), osl⟩) (hcd : PySem.W.codeIn K cdv qual = true) (S : FnScope N ps (defScope st)) (len : ∀ vs H Q E, sp vs H Q E → vs.length = ps.length)
    (hbody : ∀ (A : Around) (outer : List Env) (s : Shared) (H : Hp) (vs : List V) (Q : VK) (E : XK), A.guards = some [] → Room k (A.deeper (envOfC qual (defScope st) s.heap.objs.size f cdv)) → sp vs H Q E →
      ∃ t, PSs (cxOf CX0 P w K mg base N qual (defScope st) f cdv A outer s H E).nox (defBody st) t ∧ t { nx := fun _ H' => Q .non H', rt := Q } (start N vs) H) : FnG P w K mg base CX0 (k + 1) f (PySem.W.fnOf x qual (defArgs st) (defBody st) (defScope st) .none kV doc pm an cdv ct) ps sp := by
  refine ⟨len, fun A outer s H args us vs Q E gd hr e0 hb r hsp => ?_⟩
  have same := e0.bs
  have KX : K.In s.heap := e0.mod.kin.keeps fun b o e => (same b o e).1
  have lim : s.heap.NoLimit := e0.mod.nolimit.keeps fun b o e => (same b o e).1
  have nl := len _ _ _ _ hsp
  have kinds : ∀ y ∈ ps.zip us, (defScope st).names.lookup y.1 = some .local ∨ ((defScope st).names.lookup y.1 = some .cell ∧ ((cellsFrom (s.heap.objs.size + 1) (defScope st).names []).lookup y.1).isSome = true) := by
    rintro ⟨n, v⟩ hy
    have hn := S.par n (List.of_mem_zip hy).1
    exact hn.imp id fun q => ⟨q, PySem.W.cellsFrom_some _ _ _ (.inl q)⟩
  refine codeAny_call_function hr.depth (KX _ _ lk) rfl S.co S.gen rfl (PySem.W.codeRec_of KX hcd) (hb _ _ _ _ ?_)
  refine wpAny_newFunctionEnv_cells S.kind kinds fun env he s1 x => ?_
  subst he
  refine ⟨lim.keeps x.toInCall.keep, codeAny_func ?_⟩
  obtain ⟨t, ht, hq⟩ := hbody A outer s H vs Q E gd (hr.deeper _) hsp
  have I : Inv (cxOf CX0 P w K mg base N qual (defScope st) f cdv A outer s H E) [] (start N vs) H s1 := inv_start S hr.hd e0 nl r x
  refine wpAny_mono (ht.nox.run [] s1 (start N vs) H _ I hq) (fun fl s' hs => ?_) fun e s' hs => hs
  cases fl with
  | ret u =>
    obtain ⟨v, σ', H', J, rv, q⟩ := hs
    exact ⟨v, H', J.os, J.bare, J.base, J.hok, rv, q⟩
  | next =>
    obtain ⟨σ', H', J, q⟩ := hs
    exact ⟨.non, H', J.os, J.bare, J.base, J.hok, rfl, q⟩
  | brk =>
    obtain ⟨_, _, _, q⟩ := hs
    exact q.elim
  | cont =>
    obtain ⟨_, _, _, q⟩ := hs
    exact q.elim
end
def tCallKw (n : Nat) (sp : Sp) (gV : List V → List V → List V) (E : XK) (tk : TA) : TE := fun σ H Q => tk σ H fun zs H2 => zs.length = n ∧ sp (gV [] zs) H2 Q E
section
variable {X : Cx} {CX : CXT} {k : Nat} {f : Addr} {fd : FuncData} {ps ks : List Str} {sp : Sp} {E : XK} {x : Str} {p pos : Pos} {kws : List Keyword} {tk : TA} {g : List Value → List Value → List Value} {gV : List V → List V → List V}
theorem pe_callKw0 (F : FnOk X.prog X.w X.K X.mg X.base CX k f fd ps sp) (hr : Room k X.A) (hg : Gl X x) (hm : X.mg x = some (.ref f)) (hk : PySem.W.keepIn X.K (.ref f) = true) (hb : KBn X.K fd ps 0 ks g gV) (hx : Passes CX X E) (hkw : PK X kws tk)
    (hall : (backToKw pos (keywordEach kws X.env)).all (·.1.isSome) = true := by rfl) (hks : (backToKw pos (keywordEach kws X.env)).filterMap (·.1) = ks := by rfl) (hdb : (x == ("__debug__" : Str)) = false := by decide)
    (hpl : ((backTo pos (starEach [] X.env)).any (·.1) || (backToKw pos (keywordEach kws X.env)).any (·.1.isNone)) = false := by rfl) :
    PE X (.Call (.Name x p) [] kws pos) (tCallKw ks.length sp gV E tk) := by
  refine ⟨fun pins s σ H Q I h => ?_⟩
  refine wpAny_Call_Name_kw (ld_glob I hg hm ?_ hdb)
  refine PySem.W.callWith_KW0 (h₀ := X.base) I.ok.mod.kin hk hall ?_ hpl
  refine thn (hkw.run pos pins s σ H _ I h) fun ws s2 ⟨zs, H2, I2, rz, l2, q2⟩ => ⟨I2.kIn, ?_⟩
  rw [hks]
  exact run_fnN (us := []) (vs := []) F hr hb hx I2 .nil rz rfl l2 q2
end
/-- two arguments by name, the second first -/
def swV {α : Type} (us ws : List α) : List α := match us, ws with
  | [], [u, v] => [v, u]
  | _, _ => []
theorem kbn_sw {K : PySem.W.Frag} {x qual : Str} {st : Stmt} {f : Addr} {fd : FuncData} {s1 s2 : Str} (F : Fun K x qual st f fd)
    (h : ∀ (kV doc pm : Value) (an : Option Addr) (cdv ct : Value) (u v : Value), bindArgs (PySem.W.fnOf x qual (defArgs st) (defBody st) (defScope st) .none kV doc pm an cdv ct) ⟨[], [(s2, u), (s1, v)]⟩ = pure ([s1, s2].zip [v, u])) : KBn K fd [s1, s2] 0 [s2, s1] swV swV := by
  obtain ⟨oc, od, kV, doc, pm, an, cdv, ct, osl, rfl, lk, hcd⟩ := F.ex
  refine ⟨fun s us ws _ l1 l2 => ?_, fun r1 r2 => ?_⟩
  · match us, l1, ws, l2 with
    | [], _, [u, v], _ => exact .of_eq (h kV doc pm an cdv ct u v)
  · unfold swV
    cases r1 with
    | nil => cases r2 with
      | nil => exact .nil
      | cons a r2 => cases r2 with
        | nil => exact .nil
        | cons b r2 => cases r2 with
          | nil => exact .cons b (.cons a .nil)
          | cons _ _ => exact .nil
    | cons _ _ => exact .nil
end My
set_option Elab.async false
set_option linter.all false
set_option autoImplicit false
set_option maxRecDepth 100000
set_option maxHeartbeats 2000000
/-! the values of a dict whose keys are ints or texts: the view, its list -/
namespace My
open PySem PySem.Spec PyProof.Rows L2
theorem pairs_vals {prog : Program} {w : World} {κ : Type} [DecidableEq κ] {knd : KeyKind prog w κ} : ∀ {es : List DictEntry} {kvs : List (κ × Value)}, Pairs knd es kvs → es.map (·.val) = kvs.map (·.2)
  | _, _, .nil => rfl
  | _, _, .cons _ e t => by rw [List.map_cons, List.map_cons, e, pairs_vals t]
theorem kv_vals {κ : Type} : ∀ {kvs : List (κ × V)} {vs : List (κ × Value)}, KV kvs vs → Vals (kvs.map (·.2)) (vs.map (·.2))
  | _, _, Paired.nil => .nil
  | _, _, Paired.cons h t => .cons h.2 (kv_vals t)
section
variable {X : Cx}
def rValsK : V → List V → Hp → VK → Prop := fun x xs H Q => ∃ (a : Addr) (kvs : List (L2.Key × V)), x = .ref a ∧ xs = [] ∧ H a = some (.dK kvs) ∧ ∀ p, H p = none → Q (.ref p) (upd H p (valsO p a))
theorem mt_valsK : MtR X "dict.values" rValsK := by
  rintro pins s σ H x xs v us Q I rx rxs ⟨a, kvs, rfl, rfl, ha, q⟩
  cases rx
  cases rxs
  obtain ⟨_, hd, vs, _, o, es, ep, ho, hx, hdat, _⟩ := dk_of I.hok ha
  refine callVals (es := es) (ep := ep) hd ⟨o, ho, hx, hdat⟩ ?_
  have fr : H s.heap.objs.size = none := I.hok.fresh (Nat.le_refl _)
  exact ⟨.ref s.heap.objs.size, _, I.laid (t' := s.toks) (o := valsO s.heap.objs.size a) (fun b u e => Heap.get?_push_of_some _ e) (Nat.le_refl _) (valsO_ok (Heap.get?_push_size _ rfl)), rfl, q _ fr⟩
def rListValsK : List V → Hp → VK → Prop := fun xs H Q => ∃ (p a : Addr) (kvs : List (L2.Key × V)), xs = [.ref p] ∧ H p = some (valsO p a) ∧ H a = some (.dK kvs) ∧ ∀ q, H q = none → Q (.ref q) (upd H q (.lst (kvs.map (·.2))))
theorem cr_listValsK (hc : X.calm = true) : CallR X (.type "list") rListValsK := by
  rintro pins s σ H xs us Q I r ⟨p, a, kvs, rfl, hp, ha, q⟩
  obtain ⟨u, rfl, rx⟩ := r.one
  cases rx
  obtain ⟨hs, _, vs, pr, o, es, ep, ho, hx, hdt, _, hP, _⟩ := dk_of I.hok ha
  have hv : s.heap.IsValuesView p a := (show ObjOk X.prog X.w H s.heap p (valsO p a) from I.hok p _ hp).1
  have l1 : es.size = vs.length := by rw [← hP.length, Array.length_toList]
  have l2 : kvs.length = vs.length := Paired.length pr
  refine PySem.W.kdl_call (KdlSrc.rawValues (es := es) (ep := ep)) (I.ok.hd hc) ⟨hv, o, ho, hx, hdt⟩ (by omega) fun h' tk acc' c' kp e it => ?_
  have ea : acc'.toList = vs.map (·.2) := by
    rw [← pairs_vals hP]
    have hl : acc'.toList.length = es.toList.length := by rw [Array.length_toList, Array.length_toList, it.1]
    refine List.ext_getElem? fun j => ?_
    rw [List.getElem?_map]
    cases hj : acc'.toList[j]? with
    | none =>
      have := List.getElem?_eq_none_iff.mp hj
      rw [List.getElem?_eq_none (by omega)]
      rfl
    | some v =>
      obtain ⟨hi, hv⟩ := it.2 j v (by rw [← Array.getElem?_toList]; exact hj)
      rw [hv, Array.getElem?_toList, Array.getElem?_eq_getElem hi]
      rfl
  have rv : Vals (kvs.map (·.2)) acc'.toList := by
    rw [ea]
    exact kv_vals pr
  have hz : (kvs.map (·.2)).length ≤ sizeLine := by
    rw [List.length_map]
    exact hs
  refine ⟨.ref s.heap.objs.size, _, I.laid (t' := tk) (o := .lst (kvs.map (·.2))) kp (Nat.le_refl _) ?_, rfl, q _ (I.hok.fresh (Nat.le_refl _))⟩
  exact ⟨hz, acc'.toList, c', rv, by rw [Array.toArray_toList]; exact e⟩
end
theorem crSum {X : Cx} (K : PySem.W.Frag) (hc : X.calm = true := by rfl) (hK : X.K = K := by rfl) : CallR X (.builtin "sum") (rSum K) := by
  subst hK
  exact cr_sum hc
end My
set_option Elab.async false
set_option linter.all false
set_option autoImplicit false
set_option maxRecDepth 100000
set_option maxHeartbeats 2000000
/-! enumerate over a text -/
namespace My
open PySem PySem.Spec PyProof.Rows L2
/-- a text's signs, each in a new pair with its number -/
def IteS (z : Str) : It :=
  ⟨fun i _ => i < z.cps.size,
   fun i H v H' => ∃ T c, v = .ref T ∧ H T = none ∧ H' = upd H T (.tup [.int (i : Nat), .str ⟨#[c]⟩]) ∧ z.cps[i]? = some c,
   fun i _ => z.cps.size ≤ i⟩
theorem turnEnumS {P : Program} {w : World} {K : PySem.W.Frag} {elts : List Expr} {kk : Nat} {tpos : Pos} (z : Str) (t : Tok) (e it : Addr) :
    Turn P w K (.Tuple elts kk tpos) (IteS z) [e, it] e (fun i h => (∃ old, IsEnum h e it ((i : Nat) : Int) old) ∧ h.IsStrIter it (strIterType z) z t i ∧ e ≠ it ∧ i ≤ z.cps.size) where
  mem := by simp
  obj := fun i h st b hb => by
    obtain ⟨⟨old, he⟩, ⟨o, ho, _, hd⟩, _⟩ := st
    rcases (by simpa using hb : b = e ∨ b = it) with q | q
    · rw [q]
      exact ⟨_, he, fun v y => nomatch y⟩
    · rw [q]
      exact ⟨o, ho, fun v y => by rw [hd] at y; cases y⟩
  keep := fun i h h' st k => by
    obtain ⟨⟨old, he⟩, ⟨o, ho, r⟩, n1, n2⟩ := st
    exact ⟨⟨old, k e (by simp) _ he⟩, ⟨o, k it (by simp) o ho, r⟩, n1, n2⟩
  item := by
    intro X hP hw hK hc i pins s σ H E I hf st hg
    subst hP hw hK
    obtain ⟨⟨old, he⟩, hit, hne, hle⟩ := st
    have hlt : i < z.cps.size := hg
    have lt1 : e < s.heap.objs.size := Heap.lt_size he
    have lt2 : it < s.heap.objs.size := by
      obtain ⟨_, q, _⟩ := hit
      exact Heap.lt_size q
    refine wpAny_pyNext_enum_itemD (Draws.text (A := X.A.in1) (I.ok.hd hc) it z t) he hit hlt hne (by simp [hne]) fun u' h' tk hu' ho st' hT sz hk => ?_
    obtain ⟨c, u, hcx, rfl⟩ := hu'
    refine ⟨_, rfl, wpAny_letOwnedTupleGo_enum (s := { s with heap := h', toks := tk + 1 }) ho fun h'' he' sb => ?_⟩
    have hT2 : h''.get? s.heap.objs.size = some { cls := .type "tuple", data := .seq #[.int i tk, .str ⟨#[c]⟩ u] } := (sb.2 _ (Nat.ne_of_gt lt1)).trans hT
    have new : ObjOk X.prog X.w (upd H s.heap.objs.size (.tup [.int (i : Nat), .str ⟨#[c]⟩])) h'' s.heap.objs.size (.tup [.int (i : Nat), .str ⟨#[c]⟩]) :=
      ⟨by show 2 ≤ sizeLine; decide, [.int i tk, .str ⟨#[c]⟩ u], .cons ⟨_, rfl⟩ (.cons ⟨_, rfl⟩ .nil), ⟨_, hT2, rfl, _, rfl⟩⟩
    have I1 : Inv X pins σ (upd H s.heap.objs.size (.tup [.int (i : Nat), .str ⟨#[c]⟩])) { s with heap := h'', toks := tk + 1 } :=
      I.turnedNew (ch := [e, it]) (fun b ob hb q => (sb.2 b (fun y => hb (by simp [y]))).trans (hk b ob (fun y => hb (by simp [y])) (fun y => hb (by simp [y])) q)) hf (Nat.le_refl _) new
    have st'' : h''.IsStrIter it (strIterType z) z t (i + 1) := by
      obtain ⟨o, q1, q2⟩ := st'
      exact ⟨o, (sb.2 it (Ne.symm hne)).trans q1, q2⟩
    refine ⟨.ref s.heap.objs.size, _, I1, rfl, ⟨_, c, rfl, I.hok.fresh (Nat.le_refl _), rfl, hcx⟩, ⟨⟨.str ⟨#[c]⟩ u, ?_⟩, st'', hne, hlt⟩, fun b hb => ?_⟩
    · have e1 : ((i + 1 : Nat) : Int) = (i : Int) + 1 := by omega
      rw [e1]
      exact he'
    · have lt3 : b < s.heap.objs.size := by
        rcases (by simpa using hb : b = e ∨ b = it) with q | q
        · rw [q]; exact lt1
        · rw [q]; exact lt2
      rw [upd_ne (Nat.ne_of_lt lt3)]
      exact (hf b hb).1
  done := by
    intro X hP hw hK hc i pins s σ H E I hf st hg
    subst hP hw hK
    obtain ⟨⟨old, he⟩, hit, hne, hle⟩ := st
    have hi : i = z.cps.size := Nat.le_antisymm hle hg
    subst hi
    obtain ⟨f0, f1, f2, f3, f4, f5⟩ := hf it (by simp)
    exact wpAny_pyNext_enum_endD (Draws.text (A := X.A.in1) (I.ok.hd hc) it z t) he hit fun h' he' => ⟨rfl, I.turned (t' := s.toks) (fun b o hb q => he' b o hb q) f0 f1 f3 f4 f5⟩
  self := fun A i s Q E st h => by
    obtain ⟨⟨_, he⟩, _⟩ := st
    exact wpAny_pyIter_enum he h
def iEnumS (ta : TA) : TI := fun σ H R => ta σ H fun vs H1 => ∃ z, vs = [.str z] ∧ R (IteS z) H1
theorem pi_enumS {X : Cx} {e : Expr} {ta : TA} {p pos tpos : Pos} {elts : List Expr} {kk : Nat} (hg : Gl X "enumerate") (hm : X.mg "enumerate" = none) (ha : PA X [e] ta) (hs : starEach [e] X.env = [(false, eval e X.env)] := by rfl) :
    PI X (.Tuple elts kk tpos) (.Call (.Name "enumerate" p) [e] [] pos) (iEnumS ta) := by
  refine ⟨fun pins s σ H R I h => ?_⟩
  refine Call_ (ld_blt I hg hm boot_enumerate (PyProof.Rows.callWith_type1 (thn (ha.run pos pins s σ H _ I h) fun us s1 ⟨vs, H1, I1, r1, q1⟩ => ?_) hs rfl))
  obtain ⟨z, ex, q⟩ := q1
  subst ex
  cases r1 with
  | cons r rr =>
    cases rr
    obtain ⟨t, rfl⟩ := r
    refine callEnumT (begins_text z t) trivial fun h' he hit hk => wpAny_pyIter_enum he ?_
    have I2 : Inv X pins σ H1 { s1 with heap := h' } := I1.kept (t' := s1.toks) hk
    refine ⟨s1.heap.objs.size + 1, [s1.heap.objs.size + 1, s1.heap.objs.size], _, _, H1, rfl, I2, turnEnumS z t (s1.heap.objs.size + 1) s1.heap.objs.size, ⟨⟨.none, he⟩, ⟨_, hit, rfl, rfl⟩, Nat.succ_ne_self _, Nat.zero_le _⟩, fun b hb => ?_, q⟩
    have hle : s1.heap.objs.size ≤ b := by
      rcases (by simpa using hb : b = s1.heap.objs.size + 1 ∨ b = s1.heap.objs.size) with y | y
      · rw [y]; exact Nat.le_add_right _ _
      · rw [y]; exact Nat.le_refl _
    exact I1.fpOk hle (I1.hok.fresh hle)
theorem walk_enumS {z : Str} : Walk (IteS z) z.cps.size (fun _ => True) (fun i H v H' => ∃ T c, v = .ref T ∧ H T = none ∧ H' = upd H T (.tup [.int (i : Nat), .str ⟨#[c]⟩]) ∧ z.cps[i]? = some c) :=
  ⟨fun i H hi _ => hi, fun H _ => Nat.le_refl _, fun i H x H' _ _ y => y⟩
end My
set_option Elab.async false
set_option linter.all false
set_option autoImplicit false
set_option maxRecDepth 100000
set_option maxHeartbeats 2000000
/-! a text times a number -/
namespace My
open PySem PySem.Spec PyProof.Rows L2
def repS (z : Str) (n : Nat) : Str := ⟨((List.replicate n z.cps.toList).flatten).toArray⟩
def rMulS : R2 := fun x y H Q => ∃ (z : Str) (n : Nat), x = .str z ∧ y = .int (n : Int) ∧ z.cps.size ≤ 10000 ∧ n ≤ 1000 ∧ Q (.str (repS z n)) H
theorem fold_rep {z : Array Nat} : ∀ (n : Nat) (a : Array Nat), (List.replicate n z).foldl (· ++ ·) a = a ++ ((List.replicate n z.toList).flatten).toArray
  | 0, a => by simp
  | n + 1, a => by
    rw [List.replicate_succ, List.foldl_cons, fold_rep n (a ++ z), List.replicate_succ, List.flatten_cons]
    apply Array.toList_inj.mp
    simp
theorem op_mulS {X : Cx} : OpR X (binaryOp .Mult) rMulS := by
  intro pins s σ H x y v u Q I rx ry h
  obtain ⟨z, n, rfl, rfl, hz, hn, q⟩ := h
  obtain ⟨t, rfl⟩ := rx
  obtain ⟨t2, rfl⟩ := ry
  have hlen : z.length = z.cps.size := rfl
  have hb : z.cps.size * n ≤ 10000000 := by
    have := Nat.mul_le_mul hz hn
    omega
  refine PySem.P.mul_str ?_ (fun h1 h2 => ?_) (fun h1 h2 => ?_) ?_
  · rw [decide_eq_false (by omega), decide_eq_false (by omega)]
    rfl
  · have hn1 : 1 ≤ n := by omega
    have d : (1000000000 : Int) ≤ (2 ^ 63 - 1) / (n : Int) := Int.le_ediv_of_mul_le (by omega) (by omega)
    rw [hlen]
    omega
  · unfold Builtin.Str.tooLong
    rw [hlen, show ((n : Nat) : Int).toNat = n by omega]
    refine decide_eq_false ?_
    rw [sizeLine_eq]
    omega
  · have sz : (repS z n).length ≤ sizeLine := by
      show (((List.replicate n z.cps.toList).flatten).toArray).size ≤ sizeLine
      rw [List.size_toArray, List.length_flatten, List.map_replicate, List.sum_replicate_nat, Array.length_toList, sizeLine_eq, Nat.mul_comm]
      omega
    by_cases h1 : ((n : Nat) : Int) < 1
    · rw [if_pos h1]
      have e : n = 0 := by omega
      subst e
      exact ⟨by decide, .str (repS z 0), H, I.tok _, ⟨_, rfl⟩, q⟩
    · rw [if_neg h1]
      by_cases h2 : (((n : Nat) : Int) == 1 || z.length == 0) = true
      · rw [if_pos h2]
        have e : repS z n = z := by
          unfold repS
          rw [Bool.or_eq_true, beq_iff_eq, beq_iff_eq] at h2
          rcases h2 with h2 | h2
          · have e : n = 1 := by omega
            subst e
            simp
          · have ez : z.cps = #[] := Array.size_eq_zero_iff.mp h2
            have ez2 : z.cps.toList = [] := by
              rw [ez]
            have ef : (List.replicate n ([] : List Nat)).flatten = [] := by simp
            rw [ez2, ef]
            cases z
            dsimp only at ez
            rw [ez]
        rw [e] at q
        exact ⟨.str z, H, I, ⟨_, rfl⟩, q⟩
      · rw [if_neg h2]
        have e : (⟨(List.replicate ((n : Nat) : Int).toNat z.cps).foldl (· ++ ·) #[]⟩ : Str) = repS z n := by
          unfold repS
          rw [show ((n : Nat) : Int).toNat = n by omega, fold_rep]
          simp
        rw [e]
        exact ⟨sz, .str (repS z n), H, I.tok _, ⟨_, rfl⟩, q⟩
end My
set_option Elab.async false
set_option linter.all false
set_option autoImplicit false
set_option maxRecDepth 100000
set_option maxHeartbeats 4000000
/-! several except clauses, each with its name: except A as n: .. except B as n: .. -/
namespace My
open PySem PySem.Spec PyProof.Rows L2
/-- a clause: its class, the slot of its name, its suite's reading -/
abbrev Cl := Value × Nat × (Addr → Value → Option Addr → TS)
/-- behind a suite the name is gone -/
def goneE (i : Nat) (D : Ends) : Ends :=
  { nx := fun σ G => D.nx (σ.set i none) G, rt := D.rt, bk := fun σ G => D.bk (σ.set i none) G, ct := fun σ G => D.ct (σ.set i none) G }
/-- what the clauses wish of an error of the body -/
def wManyAs (K : PySem.W.Frag) (Wout : WX) (D : Ends) : List Cl → WX
  | [] => Wout
  | (c, i, ts) :: r => fun cls d σ H => ∃ b, PySem.W.exmOne K cls c = some b ∧ (b = true → ∀ a, H a = none → ts a cls d (goneE i D) (σ.set i (some (.ref a))) H) ∧ (b = false → wManyAs K Wout D r cls d σ H)
inductive HdsAs (X : Cx) : List ExceptHandler → List Cl → Prop
  | nil : HdsAs X [] []
  | cons {x n : Str} {c : Value} {i : Nat} {ts : Addr → Value → Option Addr → TS} {b0 : Stmt} {su : List Stmt} {p1 p2 : Pos} {hds : List ExceptHandler} {l : List Cl} (hN : X.N.Nodup) (hi : X.N[i]? = some n) (hln : X.env.kindOf n = some .local) (hc : Names X x c)
      (hsu : ∀ (a : Addr) (oe : Obj) (cls : Value) (d : Option Addr) (pn : List (Addr × Obj)), Zc cls d oe → (∃ vs, oe.data = .fields vs) → PSs (X.suite a ((a, oe) :: pn)) (b0 :: su) (ts a cls d)) (r : HdsAs X hds l) :
      HdsAs X (.ExceptHandler (some (.Name x p1)) (some n) (b0 :: su) p2 :: hds) ((c, i, ts) :: l)
section
variable {X : Cx} {body : List Stmt} {h0 : ExceptHandler} {hds : List ExceptHandler} {l : List Cl} {pos : Pos} {tb : WX → TS} {Wout : WX}
theorem ps_try_manyAs (hs : X.stack = X.env :: X.outer) (hf : X.env.frame = some X.env.locals) (tk : Takes X Wout)
    (hb : ∀ (W : WX) (pn : List (Addr × Obj)) (xe : Value → Shared → Prop), Takes (X.tr pn xe) W → PassesOwn (model X.prog X.w) X.A X.env xe → PSs (X.tr pn xe) body (tb W))
    (hh : HdsAs X (h0 :: hds) l) : PS X (.Try body (h0 :: hds) [] [] pos) (fun D σ H => tb (wManyAs X.K Wout D l) D σ H) := by
  refine ⟨fun pins s σ H D I h => ?_⟩
  have ok := I.ok
  have frames : X.A.frames = some (X.env :: X.outer) := ok.frames.trans (by rw [hs])
  refine wpAny_Try_except ?_
  refine wpAny_mono ((hb (wManyAs X.K Wout D l) (X.pn ++ pins) (fun e s1 => wpAny (model X.prog X.w) X.A (noteFrame e X.env) (fun _ s2 => wpAny (model X.prog X.w) X.A (setFlight e none) (fun _ s3 =>
    wpAny (model X.prog X.w) X.A (handleBy e X.env (h0 :: hds)) (SP X pins D) X.xe s3) X.xe s2) X.xe s1) (fun u s' caught => ?_) PassesOwn.looking).run [] s σ H D (I.toTry _) h) (fun f s1 done => ?_) (fun e s1 he => he)
  · skip
    obtain ⟨a, B, sI, pins', σ', H', cls, d, rfl, J', nb, up, sky, na, os, ag, w⟩ := caught
    have J : Inv X pins σ' H' sI := J'.ofTry ok
    show wpAny (model X.prog X.w) X.A (noteFrame (.ref a) X.env) _ _ _
    refine Sky.land Zc.steady frames hf (by rw [← hs]; exact sky) fun h3 fl3 up3 => ?_
    have J3 : Inv X pins σ' H' { s' with heap := h3 } := J.landed nb fl3.1 (up.trans up3) os ag
    obtain ⟨oe3, vs3, he3, hz3, hd3⟩ := fl3.there
    have off : a ∉ frs (X.env :: X.outer) := fun hm => by
      obtain ⟨_, o', e', hnf⟩ := fl3.2.2.1.mem hm
      cases he3.symm.trans e'
      exact hnf _ hd3
    have nL : a ≠ X.env.locals := fun z => off (List.mem_filterMap.mpr ⟨X.env, List.mem_cons_self, by rw [hf, z]⟩)
    have nF : a ∉ X.fs := fun hm => by
      obtain ⟨e, he, q⟩ := List.mem_filterMap.mp hm
      exact off (List.mem_filterMap.mpr ⟨e, List.mem_cons_of_mem _ he, q⟩)
    have S3 := J3.suite he3 hd3 na nL nF
    have go : ∀ {hs2 : List ExceptHandler} {l2 : List Cl}, HdsAs X hs2 l2 → wManyAs X.K Wout D l2 cls d σ' H' → wpAny (model X.prog X.w) X.A (handleBy (.ref a) X.env hs2) (SP X pins D) X.xe { s' with heap := h3 } := by
      intro hs2 l2 hk
      induction hk with
      | nil =>
        intro w
        refine wpAny_handleBy_nil ?_
        obtain ⟨k1, k2, k3, oe, vs, T, oT, ts', he, hz, hd, h1, hr⟩ := id fl3
        unfold PySem.passOn
        refine wpAny_bind (wpAny_field he hd h1 ?_)
        rw [if_neg (show ¬ ((Value.ref T == Value.none) = true) from by simp)]
        have out : wpAny (model X.prog X.w) X.A (setFlight (.ref a) X.env.frame) (fun _ s4 => wpAny (model X.prog X.w) X.A (throw (.ref a) : Sem Flow) (SP X pins D) X.xe s4) X.xe { s' with heap := h3 } := by
          rw [hf]
          refine HandSPX.setFlight_upZ fl3 fun h4 hh4 up4 => wpAny_throw (tk _ _ ?_)
          exact ⟨a, B, sI, pins, σ', H', cls, d, rfl, J, nb, (up.trans up3).trans up4, .inr (.inr (by rw [hs]; exact hh4)), na, os, ag, w⟩
        first
          | exact wpAny_bind (wpAny_pure (wpAny_bind out))
          | exact wpAny_bind out
      | @cons x n c i ts b0 su p1 p2 hds2 l3 hN hi hln hc hsu r ih =>
        intro w
        obtain ⟨b, hb1, yes, no⟩ := w
        refine wpAny_handleBy_cons (codeAny_handlers_test ?_) (by intro q; cases q)
        have looks : PySem.W.Looks (model X.prog X.w) h3 (typeOf (.ref a)) cls := fun A Q E s k q => wpAny_typeOf_ref (k _ _ he3) (by rw [hz3.1]; exact q)
        have named : ∀ {Q : Value → Shared → Prop} {E : Value → Shared → Prop}, Q c { s' with heap := h3 } → wpAny (model X.prog X.w) (X.A.mark (some (.ref a))) (eval (.Name x p1) X.env) Q E { s' with heap := h3 } := fun {Q E} q => by
          obtain ⟨hg, hdbg, hm | ⟨hm, hv, hnn⟩⟩ := hc
          · exact ld_glob (X := X.suite a ((a, oe3) :: (X.pn ++ pins))) S3 hg hm q hdbg
          · exact ld_blt (X := X.suite a ((a, oe3) :: (X.pn ++ pins))) S3 hg hm hv q hnn hdbg
        refine named ((PySem.W.exm_one (M := model X.prog X.w) (J3.kIn) looks hb1).here ?_)
        cases b with
        | false =>
          show wpAny _ X.A (handleBy (.ref a) X.env hds2) _ _ _
          exact ih (no rfl)
        | true =>
          refine codeAny_handlers_suite_as ?_
          refine HandSPX.lands_againZ fl3 fun h4 fl4 up4 => ?_
          have J4 : Inv X pins σ' H' { s' with heap := h4 } := J.landed nb fl4.1 ((up.trans up3).trans up4) os ag
          obtain ⟨oe4, vs4, he4, hz4, hd4⟩ := fl4.there
          have S4 := J4.suite he4 hd4 na nL nF
          refine store_ok (X := X.suite a ((a, oe4) :: (X.pn ++ pins))) (v := .ref a) S4 hN hi (.inl hln) rfl (fun s5 S5 => ?_) (.inr hln)
          refine wpAny_mono ((hsu a oe4 cls d (X.pn ++ pins) hz4 ⟨_, hd4⟩).run [] s5 _ H' _ S5 (yes rfl a na)) (fun f s6 done => ?_) (fun _ _ z => False.elim z)
          have left : ∀ {σ6 : L2.St} {H6 : Hp} {Q : Shared → Prop}, Inv (X.suite a ((a, oe4) :: (X.pn ++ pins))) [] σ6 H6 s6 → (∀ s7, Inv X pins (σ6.set i none) H6 s7 → Q s7) →
              wpAny (model X.prog X.w) X.A (do bindName X.env n .none; unbindBehindTheSuite X.env n p2) (fun _ s7 => Q s7) X.xe s6 := fun {σ6 H6 Q} S6 hq => gone_ok (S6.unsuite ok) hN hi hln hq
          cases f with
          | ret u =>
            obtain ⟨v6, σ6, H6, S6, r6, q6⟩ := done
            exact left S6 fun s7 J7 => ⟨_, _, _, J7, r6, q6⟩
          | next =>
            obtain ⟨σ6, H6, S6, q6⟩ := done
            exact left S6 fun s7 J7 => ⟨_, _, J7, q6⟩
          | brk =>
            obtain ⟨σ6, H6, S6, q6⟩ := done
            exact left S6 fun s7 J7 => ⟨_, _, J7, q6⟩
          | cont =>
            obtain ⟨σ6, H6, S6, q6⟩ := done
            exact left S6 fun s7 J7 => ⟨_, _, J7, q6⟩
    exact go hh w
  · cases f with
    | ret u =>
      obtain ⟨v, σ', H', J', r, q⟩ := done
      exact ⟨v, σ', H', J'.ofTry ok, r, q⟩
    | next =>
      obtain ⟨σ', H', J', q⟩ := done
      exact wpAny_execs_nil ⟨σ', H', J'.ofTry ok, q⟩
    | brk =>
      obtain ⟨σ', H', J', q⟩ := done
      exact ⟨σ', H', J'.ofTry ok, q⟩
    | cont =>
      obtain ⟨σ', H', J', q⟩ := done
      exact ⟨σ', H', J'.ofTry ok, q⟩
end
end My
set_option Elab.async false
set_option linter.all false
set_option autoImplicit false
set_option maxRecDepth 100000
set_option maxHeartbeats 4000000
/-! an own error over a built-in error that has no __new__ of its own (KeyError): what the making asks of the class's line -/
namespace My
open PySem PySem.Spec PySem.HandSPX
/-- of a class's line: the class whose __new__ is taken is in it; no attribute's or name's error -/
structure Line (B : String) (bm : List Value) : Prop where
  has : bm.contains (.type B) = true
  noA : bm.contains (.type "AttributeError") = false
  noN : bm.contains (.type "NameError") = false
section
variable {prog : Program} {w : World} {A : Around} {E : Value → Shared → Prop} {R : Result → Shared → Prop} {h : Heap} {g : Array GenState} {d : Drawn} {t : Nat} {os : OsState}
variable {nm q : Str} {C N : Addr} {bs bm bmB : List Value} {hdct : Bool} {sn : List Str} {sub : List Value} {ab : Bool} {col : Option Bool} {dd : Option Addr} {k0 k1 k2 k3 k5 : Option Value} {B newId initId : String}
theorem Line.ref (L : Line B bm) (C : Addr) : Line B (.ref C :: bm) := by
  refine ⟨?_, ?_, ?_⟩ <;> rw [List.contains_cons]
  · rw [L.has, Bool.or_true]
  · rw [L.noA]
    rfl
  · rw [L.noN]
    rfl
theorem line_check (F : ExcBaseFacts B newId initId bmB) (L : Line B bm) {M : Model} {rest : List Value} {Q : Unit → Shared → Prop} (hC : h.get? C = some (excClassObj nm q C N bs bm hdct sn sub ab col dd k0 k1 k2 k3 k5 newId)) (hq : Q () ⟨h, g, d, t, os⟩) :
    wpAny M A (checkBuiltinCall newId ⟨.ref C :: rest, []⟩) Q E ⟨h, g, d, t, os⟩ := by
  have inLine := (L.ref C).has
  have noStar := F.noStar
  simp only [checkBuiltinCall, F.newKind, F.newSplit, F.newRow]
  repeat (first
    | refine wpAny_loadPart_at hC ?_
    | (refine wpAny_isSubtype_exc hC ?_; rw [inLine])
    | refine wpAny_staticBase_exc hC ?_
    | refine wpAny_madeBy_exc hC ?_
    | simp only [bne_self_eq_false, Bool.false_eq_true, if_false]
    | wp_step)
  exact hq
theorem line_new (F : ExcBaseFacts B newId initId bmB) (L : Line B bm) {rest : List Value} (hC : h.get? C = some (excClassObj nm q C N bs bm hdct sn sub ab col dd k0 k1 k2 k3 k5 newId)) (small : rest.length ≤ sizeLine)
    (hq : R (.ok (.ret (.ref (h.objs.size + 1)))) ⟨(h.push (W.kdv_tup rest)).push (excO C h.objs.size), g, d, t, os⟩) : codeAny (model prog w) A (.builtin newId ⟨.ref C :: rest, []⟩) R ⟨h, g, d, t, os⟩ := by
  have ends := F.ends
  obtain ⟨l1, l2, l3⟩ := L.ref C
  refine codeAny_builtinAt F.entry ?_
  unfold Builtin.«BaseException.__new__»
  refine wpAt_bind ?_
  show wpAt _ _ _ (stack >>= _) _ _ _
  refine wpAt_bind (wpAt_stack fun p below => wpAt_of_wpAny ?_)
  wp_walk
  refine wpAt_of_wpAny ?_
  rw [F.owner]
  repeat (first
    | with_reducible refine wpAny_madeHere_exc F.canon hC ?_
    | with_reducible refine wpAny_loadPart_at hC ?_
    | (with_reducible refine wpAny_isSubtype_exc hC ?_; first | rw [l1] | rw [l2] | rw [l3])
    | wp_step)
  show R _ _
  rw [Heap.size_push]
  exact hq
theorem line_type (F : ExcBaseFacts B newId initId bmB) (L : Line B bm) {rest : List Value} {fI : Addr} {Q : Fin → Shared → Prop} (hC : h.get? C = some (excClassObj nm q C N bs bm hdct sn sub ab col dd k0 k1 k2 k3 k5 newId))
    (hi : W.Looks (model prog w) h (typeLookup (.ref C) "__init__") (some (.ref fI))) (hb : ∀ self, W.Looks (model prog w) h (bindSpecial (.ref fI) self) (.ref fI, [self])) (small : rest.length ≤ sizeLine)
    (hq : codeAny (model prog w) A (.call (.ref fI) ⟨.ref (h.objs.size + 1) :: rest, []⟩) (fun r s' => match r with | .ok (.ret v) => v = .none ∧ Q (.done (.ret (.ref (h.objs.size + 1)))) s' | .ok _ => False | .error e => E e s')
      ⟨(h.push (W.kdv_tup rest)).push (excO C h.objs.size), g, d, t, os⟩) : wpAny (model prog w) A (Builtin.«type.__call__» ⟨.ref C :: rest, []⟩) Q E ⟨h, g, d, t, os⟩ := by
  repeat (first
    | with_reducible refine wpAny_loadPart_at hC ?_
    | with_reducible refine wpAny_madeBy_exc hC ?_
    | wp_step)
  refine codeAny_call_builtin_code (Code.quiet_builtin _ F.quiet) (line_check F L hC (line_new F L hC small ?_))
  show wpAny _ _ _ _ _ _
  have grown : ∀ b o, h.get? b = some o → ((h.push (W.kdv_tup rest)).push (excO C h.objs.size)).get? b = some o := fun b o e => Heap.get?_push_of_some _ (Heap.get?_push_of_some _ e)
  have made : ((h.push (W.kdv_tup rest)).push (excO C h.objs.size)).get? (h.objs.size + 1) = some (excO C h.objs.size) := by heap_get
  have hC' := grown _ _ hC
  have self : (Value.ref C :: bm).contains (.ref C) = true := by simp
  unfold isInstance
  repeat (first
    | with_reducible refine wpAny_loadPart_at made ?_
    | (with_reducible refine wpAny_isSubtype_exc hC' ?_; rw [self])
    | wp_step)
  show wpAny _ _ (typeLookup (.ref C) _) _ _ _
  refine (hi.keeps grown).at ?_
  refine wpAny_holding (wpAny_bind (((hb (.ref (h.objs.size + 1))).keeps grown).at ?_))
  refine wpAny_bind (wpAny_call (codeAny_mono hq fun r s' z => ?_))
  rcases r with e | (v | _ | _ | _) <;> first | exact z | exact z.elim | skip
  obtain ⟨rfl, z⟩ := z
  first
    | exact wpAny_pure (wpAny_pure z)
    | (wp_walk; exact z)
theorem line_call (F : ExcBaseFacts B newId initId bmB) (L : Line B bm) {rest : List Value} {fI : Addr} (hC : h.get? C = some (excClassObj nm q C N bs bm hdct sn sub ab col dd k0 k1 k2 k3 k5 newId))
    (hi : W.Looks (model prog w) h (typeLookup (.ref C) "__init__") (some (.ref fI))) (hb : ∀ self, W.Looks (model prog w) h (bindSpecial (.ref fI) self) (.ref fI, [self])) (small : rest.length ≤ sizeLine)
    (hq : codeAny (model prog w) (A.under (.builtin "type.__call__" ⟨.ref C :: rest, []⟩)) (.call (.ref fI) ⟨.ref (h.objs.size + 1) :: rest, []⟩) (W.InitBack (h.objs.size + 1) R)
      ⟨(h.push (W.kdv_tup rest)).push (excO C h.objs.size), g, d, t, os⟩) : codeAny (model prog w) A (.call (.ref C) ⟨rest, []⟩) R ⟨h, g, d, t, os⟩ := by
  have look := tc_lookup
  have bind := tc_bind (.ref C)
  have isT : (⟨h, g, d, t, os⟩ : Shared).TypeIs (.ref C) "type" := ⟨_, hC, rfl⟩
  refine codeAny_of_tree ?_
  show wpAny _ _ (callAny (.ref C) _) _ _ _
  repeat (any_goals (first
    | assumption
    | with_reducible refine wpAny_loadPart_at hC ?_
    | wp_step))
  refine ⟨rfl, codeAny_call_builtin_at (Code.quiet_builtin _ (by decide +kernel)) entry_typeCall (wpAny_check_type_call_sub hC (line_type F L hC hi hb small (codeAny_mono hq fun r s' z => ?_)))⟩
  rcases r with e | (v | _ | _ | _) <;> exact z
end
end My
set_option Elab.async false
set_option linter.all false
set_option autoImplicit false
set_option maxRecDepth 100000
set_option maxHeartbeats 4000000
/-! own exceptions with one field, over any built-in base (after skel/42, which speaks of ValueError) -/
namespace PySem
namespace OneXL
open PySem.W PySem.Calls PyProof.Rows PySem.HandSPX Builtin.ObjectAttr
/-- what is asked of a built-in base's line of classes -/
structure Tail (bmB : List Value) : Prop where
  pass : ∀ self : Value, refuseLoop self "__setattr__" bmB = pure ()
  obj : bmB.contains (.type "object") = true
abbrev exTail : List Value := [.type "Exception", .type "BaseException", .type "object"]
theorem tail_ex : Tail exTail := ⟨fun self => by kernel_rfl, by decide +kernel⟩
section
variable {prog : Program} {w : World} {A : Around} {R : Result → Shared → Prop} {hp : Heap} {g : Array GenState} {d : Drawn} {t : Nat} {os : OsState}
/-- self.name = v on a fresh exception -/
theorem osaX {bmB : List Value} (TB : Tail bmB) {K : Frag} {name : Str} {tk : Tok} {v : Value} {x C : Addr} {fv : Array Value} {cd : ClassData} (X : K.In hp) (hx : hp.get? x = some { cls := .ref C, data := .fields fv }) (hcd : clsIn K C = some cd)
    (hm : excTail bmB cd.mro = true) (hh : cd.hasDict = true) (ha : findIn K (.ref C) name = some none)
    (hq : ∀ h' tk' dx, (∀ b o, b ≠ x → hp.get? b = some o → h'.get? b = some o) → hp.objs.size ≤ dx → dx ≠ x → h'.get? x = some { cls := .ref C, dict := some dx, data := .fields fv } → h'.Ns1 dx (fun y => if y = name then some v else none) → R (.ok (.ret .none)) ⟨h', g, d, tk', os⟩) :
    codeAny (model prog w) A (.call (.builtin "object.__setattr__") ⟨[.ref x, .str name tk, v], []⟩) R ⟨hp, g, d, t, os⟩ := by
  have ob : cd.mro.contains (.type "object") = true := by rw [excTail_contains "object" _ hm]; exact TB.obj
  have ne : cd.mro.isEmpty = false := by
    cases e : cd.mro with
    | nil => rw [e] at ob; cases ob
    | cons _ _ => rfl
  have at_x : InstAt hp x { cls := .ref C, data := .fields fv } C none := ⟨hx, rfl, rfl, trivial⟩
  have xs : x ≠ hp.objs.size := fun z => Nat.lt_irrefl _ (by have := Heap.lt_size hx; rw [← z] at this; exact this)
  have isObj : Looks (model prog w) hp (isInstance (.ref x) (.type "object")) true := at_x.type.andThen (looks_mroIn X (by unfold mroIn; rw [hcd, Option.bind_some, if_neg (by rw [ne]; exact Bool.false_ne_true), ob]))
  have lm : Looks (model prog w) hp (mroOf (.ref C)) cd.mro := (looks_clsIn X hcd).andThen .now
  have lc : Looks (model prog w) hp (classData C) cd := looks_clsIn X hcd
  refine codeAny_call_builtin F.store_object.slot.plain F.store_object.entry (@check_slot (model prog w) _ _ ⟨hp, g, d, t, os⟩ "object.__setattr__" "object" "__setattr__" (.ref x) [.str name tk, v] [] _ F.store_object.kind F.store_object.split isObj (F.store_object.args (.ref x) (.str name tk) v) ?_)
  rw [osa_eq, refuse_eq]
  refine wpAny_bind (wpAny_bind (at_x.type.at (wpAny_bind (lm.at ?_))))
  rw [excTail_pass (.ref x) (TB.pass _) _ hm]
  have lt : Looks (model prog w) hp (storeTaker? none) none := .now
  refine wpAny_pure (wpAny_bind (at_x.type.at (wpAny_bind ((looks_findIn X ha).at (wpAny_bind (lt.at ?_))))))
  show wpAny _ _ (storeInOwnDict (.ref x) (.ref C) (.str name tk) name v false) _ _ _
  obtain ⟨c1, c2, c3, c4, c5, c6, c7, c8, c9, c10, c11⟩ := cd
  dsimp only at hh
  subst hh
  unfold storeInOwnDict ownDictForStores
  repeat (first | with_reducible refine store_in_new ?_ ?_ | with_reducible refine wpAny_loadPart_at hx ?_ | with_reducible refine lc.at ?_ | wp_step)
  · refine ⟨_, #[], _, (Heap.get?_update_ne _ _ _ _ xs.symm).trans (Heap.get?_push_at rfl rfl), rfl, fun e he => absurd he (by simp), fun _ => rfl⟩
  · intro h' tk' hn' hs
    have x1 : (hp.push { cls := .type "dict", data := .dict #[] }).get? x = some { cls := .ref C, data := .fields fv } := Heap.get?_push_of_some _ hx
    refine hq h' tk' hp.objs.size (fun b o hb ho => ?_) (Nat.le_refl _) xs.symm ((hs.2 x xs).trans (Heap.get?_update_self _ x1 rfl)) hn'
    have nb : b ≠ hp.objs.size := Nat.ne_of_lt (Heap.lt_size ho)
    exact (hs.2 b nb).trans ((Heap.get?_update_ne _ _ _ _ hb).trans (Heap.get?_push_of_some _ ho))
end
abbrev keyTail : List Value := [.type "KeyError", .type "LookupError", .type "Exception", .type "BaseException", .type "object"]
theorem tail_key : Tail keyTail := ⟨fun self => by kernel_rfl, by decide +kernel⟩
theorem line_key : My.Line "LookupError" keyTail := ⟨by decide +kernel, by decide +kernel, by decide +kernel⟩
theorem line_ex : My.Line "Exception" exTail := ⟨by decide +kernel, by decide +kernel, by decide +kernel⟩
/-! ### the text of __init__(self, at): self.at = at -/
def iA (p1 p2 : Pos) : Arguments := { posonlyargs := [], args := [{ arg := "self", annotation := none, pos := p1 }, { arg := "letter", annotation := none, pos := p2 }], vararg := none, kwonlyargs := [], kw_defaults := [], kwarg := none, defaults := [] }
def iB (q1 q2 q3 q4 : Pos) : List Stmt := [.Assign [.Attribute (.Name "self" q1) "letter" q2] (.Name "letter" q3) q4]
def iS : Scope := { kind := .function, names := [(PySem.Str.ofString "self", .local), (PySem.Str.ofString "letter", .local)], isGenerator := false, isCoroutine := false, more := [] }
/-- what the written part says of the class nm at C over the built-in base of newId, bmB, and of its __init__ at fI -/
structure OneTxt (K : Frag) (mg : Str → Option Value) (nm : Str) (bmB : List Value) (newId : String) (C fI : Addr) : Prop where
  gC : mg nm = some (.ref C)
  cls : ∃ n0 q N bs bm sn sub ab col dd k0 k1 k2 k3 k5, K.lookup C = some (excClassObj n0 q C N bs bm true sn sub ab col dd k0 k1 k2 k3 k5 newId) ∧ excTail bmB bm = true
  sa : findIn K (.ref C) "__setattr__" = some (some (.builtin "object.__setattr__"))
  ga : findIn K (.ref C) "__getattribute__" = some (some (.builtin "BaseException.__getattribute__"))
  gg : findIn K (.ref C) "__getattr__" = some none
  noN : findIn K (.ref C) "letter" = some none
  iC : findIn K (.ref C) "__init__" = some (some (.ref fI))
  tC : typeIn K (.ref fI) = some (.type "function")
  kC : keepIn K (.ref C) = true
  exC : subIn K (.ref C) (.type "BaseException") = some true
  tyC : typeIn K (.ref C) = some (.type "type")
  hdC : hasDictIn K C = true
  te : exmOne K (.ref C) (.ref C) = some true
  fn : ∃ (qn : Str) (oc : Value) (od : Option Addr) (doc pm : Value) (an : Option Addr) (cdv ct : Value) (osl : Array (Option Value)) (p1 p2 q1 q2 q3 q4 : Pos),
    K.lookup fI = some ⟨oc, od, .func (fnOf "__init__" qn (iA p1 p2) (iB q1 q2 q3 q4) iS .none .none doc pm an cdv ct), osl⟩ ∧ codeIn K cdv qn = true
theorem one_size (v : Value) : [v].length ≤ sizeLine := by
  rw [sizeLine_eq]
  exact (by decide : 1 ≤ 16777216)
theorem ldC {M : Model} {s : Shared} {name : Str} {scope : Scope} {L a : Addr} {cd : Value} {m : Str → Option Value} {x : Str} {pos : Pos} {v : Value} {Q : Value → Shared → Prop} {A : Around} {E : Value → Shared → Prop} (hn : s.heap.Ns L m) (hv : m x = some v) (h : Q v s)
    (hk : scope.kind = .function := by rfl) (hl : (envOfC name scope L a cd).kindOf x = some .local := by rfl) (hd : (x == ("__debug__" : Str)) = false := by decide) :
    wpAny M A (eval (.Name x pos) (envOfC name scope L a cd)) Q E s := wpAny_Name (wpAny_loadName_local hk hl hn hv h) hd
/-- what __init__ leaves of a fresh exception at x -/
structure InitEnd (h h' : Heap) (x C dx t1 : Addr) (v : Value) : Prop where
  keep : ∀ b o, b ≠ x → h.get? b = some o → h'.get? b = some o
  obj : h'.get? x = some { cls := .ref C, dict := some dx, data := .fields #[.ref t1, .none, .none, .none, .bool false, .none] }
  dbig : h.objs.size ≤ dx
  dne : dx ≠ x
  ns : h'.Ns1 dx (fun y => if y = "letter" then some v else none)
/-- a made one -/
structure OwnMade (h h' : Heap) (e C d : Addr) (v : Value) : Prop where
  keep : ∀ b o, h.get? b = some o → h'.get? b = some o
  new : h.objs.size ≤ e
  obj : ∃ oe vs, h'.get? e = some oe ∧ oe.cls = .ref C ∧ oe.dict = some d ∧ oe.data = .fields vs ∧ vs[1]? = some .none
  dbig : h.objs.size ≤ d
  dne : d ≠ e
  ns : h'.Ns1 d (fun y => if y = "letter" then some v else none)
section
variable {prog : Program} {w : World} {A : Around} {E : Value → Shared → Prop} {R : Result → Shared → Prop} {s : Shared} {K : Frag} {mg : Str → Option Value} {nm : Str} {bmB bmF : List Value} {B newId initId : String} {C fI : Addr}
theorem one_init (T : OneTxt K mg nm bmB newId C fI) (TB : Tail bmB) {x t0 : Addr} {v : Value} (X : K.In s.heap) (hlim : s.heap.NoLimit) (hx : s.heap.get? x = some (excO C t0)) (hnx : K.lookup x = none) (hroom : A.depth < recursionLimit)
    (hq : ∀ h' tk dx, InitEnd s.heap h' x C dx t0 v → R (.ok (.ret .none)) { s with heap := h', toks := tk }) :
    codeAny (model prog w) A (.call (.ref fI) ⟨[.ref x, v], []⟩) R s := by
  obtain ⟨qn, oc, od, doc, pm, an, cdv, ct, osl, p1, p2, q1, q2, q3, q4, ho, hcd⟩ := T.fn
  obtain ⟨n0, q, N, bs, bm, sn, sub, ab, col, dd, k0, k1, k2, k3, k5, hC, hbm⟩ := T.cls
  have hcl : clsIn K C = some { name := n0, bases := bs, mro := .ref C :: bm, ns := N, qualname := q, hasDict := true, slotNames := sn, subclasses := sub, abstract := ab, collection := col, hasDel := false } := by unfold clsIn; rw [hC] <;> rfl
  refine Att.call_fn (binds := [("self", .ref x), ("letter", v)]) X hlim ho hcd hroom (BindsTo.of_eq (by first | rfl | with_unfolding_all rfl)) (by first | rfl | decide | with_unfolding_all rfl) (fun s₁ IC => ?_) rfl rfl rfl
  obtain ⟨h₁, tk₁, rfl⟩ := IC.toInCall.same
  have k : ∀ b o, s.heap.get? b = some o → h₁.get? b = some o := IC.toInCall.keep
  have hn := IC.toInCall.ns
  have hxL : s.heap.objs.size ≠ x := Nat.ne_of_gt (Heap.lt_size hx)
  have X₁ : K.In h₁ := X.keeps k
  have hx₁ := k _ _ hx
  show wpAny _ _ (execs _ _) _ _ _
  refine wpAny_execs_cons (plainObj_wpAny_Assign_Attribute ?_)
  refine ldC (v := v) hn (by first | rfl | with_unfolding_all rfl | kernel_rfl) (ldC (v := .ref x) hn (by first | rfl | with_unfolding_all rfl | kernel_rfl) ?_)
  refine set_plain X₁ (ox := excO C t0) (od := none) ⟨hx₁, rfl, rfl, trivial⟩ T.sa ?_
  refine osaX TB X₁ hx₁ hcl (show excTail bmB (.ref C :: bm) = true from hbm) rfl T.noN (fun h₃ tk₃ dx k₃ dn dne hx₃ hn₃ => ?_)
  show wpAny _ _ (execs _ _) _ _ _
  have z : s.heap.objs.size < h₁.objs.size := hn.lt
  exact wpAny_execs_nil (hq h₃ tk₃ dx ⟨fun b o hb e => k₃ b o hb (k b o e), hx₃, Nat.le_of_lt (Nat.lt_of_lt_of_le z dn), dne, hn₃⟩)
theorem one_made (T : OneTxt K mg nm bmB newId C fI) (TB : Tail bmB) (F : ExcBaseFacts B newId initId bmF) (LB : My.Line B bmB) {v : Value} (X : K.In s.heap) (hlim : s.heap.NoLimit) (hroom : A.depth + 1 < recursionLimit)
    (hq : ∀ h' tk e d, OwnMade s.heap h' e C d v → R (.ok (.ret (.ref e))) { s with heap := h', toks := tk }) :
    codeAny (model prog w) A (.call (.ref C) ⟨[v], []⟩) R s := by
  obtain ⟨n0, q, N, bs, bm, sn, sub, ab, col, dd, k0, k1, k2, k3, k5, hC, hbm⟩ := T.cls
  obtain ⟨hp, g, dr, tk, os⟩ := s
  have k : ∀ b o, hp.get? b = some o → ((hp.push (kdv_tup [v])).push (excO C hp.objs.size)).get? b = some o := fun b o e => Heap.get?_push_of_some _ (Heap.get?_push_of_some _ e)
  have hget : ((hp.push (kdv_tup [v])).push (excO C hp.objs.size)).get? (hp.objs.size + 1) = some (excO C hp.objs.size) := by heap_get
  have hnx : K.lookup (hp.objs.size + 1) = none := by
    cases e : K.lookup (hp.objs.size + 1) with
    | none => rfl
    | some o =>
      have z : hp.get? (hp.objs.size + 1) = some o := X _ _ e
      exact absurd (Nat.lt_of_succ_lt (Heap.lt_size z)) (Nat.lt_irrefl _)
  refine My.line_call F ⟨(excTail_contains _ bm hbm).trans LB.has, (excTail_contains _ bm hbm).trans LB.noA, (excTail_contains _ bm hbm).trans LB.noN⟩ (X _ _ hC) (looks_findIn X T.iC) (fun self => bind_fn X self T.tC) (one_size v) ?_
  refine one_init (s := ⟨(hp.push (kdv_tup [v])).push (excO C hp.objs.size), g, dr, tk, os⟩) T TB (X.keeps k) (hlim.keeps k) hget hnx ?_ fun h' tk' dx ⟨k', hx, dn, dne, hns⟩ => ?_
  · show A.depth + 1 < recursionLimit
    exact hroom
  · have old : ∀ b o, hp.get? b = some o → h'.get? b = some o := fun b o e => k' b o (Nat.ne_of_lt (Nat.lt_succ_of_lt (Heap.lt_size e))) (k b o e)
    have z : hp.objs.size + 1 + 1 ≤ dx := by
      first
        | (simpa only [Heap.size_push] using dn)
        | exact dn
        | (have q := dn; rw [Heap.size_push, Heap.size_push] at q; exact q)
    exact ⟨rfl, hq h' tk' (hp.objs.size + 1) dx ⟨old, Nat.le_succ _, ⟨_, _, hx, rfl, rfl, rfl, rfl⟩, Nat.le_trans (Nat.le_trans (Nat.le_succ _) (Nat.le_succ _)) z, dne, hns⟩⟩
end
end OneXL
end PySem
namespace L2
open PySem PySem.Spec PyProof.Rows
theorem relO_atL {v : V} {v' : Value} (r : RelV v v') (f : Str) : RelO (List.lookup f [(("letter" : Str), v)]) (if f = "letter" then some v' else none) := by
  by_cases hw : f = "letter"
  · subst hw
    rw [if_pos rfl]
    have q : List.lookup ("letter" : Str) [(("letter" : Str), v)] = some v := by simp [List.lookup]
    rw [q]
    exact r
  · rw [if_neg hw]
    have qw : (f == ("letter" : Str)) = false := by simpa using hw
    have q2 : List.lookup f [(("letter" : Str), v)] = none := by simp [List.lookup, qw]
    rw [q2]
    trivial
section
variable {X : Cx} {nm : Str} {bmB bmF : List Value} {B newId initId : String} {C fI : Addr}
/-- C(e) -/
def tMkAtL (C : Addr) (ta : TA) : St → Hp → XK → Prop := fun σ H Q => ta σ H fun vs H1 => ∃ v, vs = [v] ∧ ∀ d, H1 d = none → Q (.ref C) (some d) (upd H1 d (.xd [(("letter" : Str), v)]))
theorem pmk_atL {a : Expr} {ta : TA} {p pos : Pos} {k : Nat} (T : PySem.OneXL.OneTxt X.K X.mg nm bmB newId C fI) (TB : PySem.OneXL.Tail bmB) (F : ExcBaseFacts B newId initId bmF) (LB : My.Line B bmB) (hr : Room k X.A) (ha : PA X [a] ta) (hg : Gl X nm := by rfl) (hdb : (nm == ("__debug__" : Str)) = false := by decide)
    (he : starEach (a :: []) X.env = (false, eval a X.env) :: starEach [] X.env := by rfl) (hpl : (backTo pos (starEach [] X.env)).any (·.1) = false := by rfl) :
    PMk X (.Call (.Name nm p) [a] [] pos) (tMkAtL C ta) := by
  intro pins s σ H Q I h
  refine wpAny_Call_Name_kw (ld_glob I hg T.gC ?_ hdb)
  refine PySem.W.callWith_K (h₀ := X.base) I.ok.mod.kin T.kC (thn (ha.run pos pins s σ H _ I h) fun us s1 hh => ?_) he hpl
  obtain ⟨vs, H1, I1, r1, v, ev, q1⟩ := hh
  subst ev
  refine ⟨I1.kIn, ?_⟩
  cases r1 with
  | cons rv rn =>
    rename_i v' us'
    cases rn
    show wpAny _ _ (call (.ref C) [v']) _ _ _
    have hlim := I1.nolimit
    obtain ⟨hp, g, dr, tk, os⟩ := s1
    refine wpAny_call (PySem.OneXL.one_made T TB F LB I1.kIn hlim (by have := hr.dp; omega) fun h' tk' e d M => ?_)
    show MkP X pins σ Q (.ref e) ⟨h', g, dr, tk', os⟩
    obtain ⟨oe, fv, hoe, hc, hd, hdat, h1⟩ := M.obj
    have hns := M.ns
    obtain ⟨G', g1, g2⟩ := restrict h' fun b => decide (b ≠ e)
    have gk : ∀ b, b ≠ e → G'.get? b = h'.get? b := fun b hb => g1 b (decide_eq_true hb)
    have ge : G'.get? e = none := g2 e (by simp)
    have old : ∀ b o, hp.get? b = some o → G'.get? b = some o := fun b o q => (gk b (Nat.ne_of_lt (Nat.lt_of_lt_of_le (Heap.lt_size q) M.new))).trans (M.keep b o q)
    have ob : ObjOk X.prog X.w (upd H1 d (.xd [(("letter" : Str), v)])) G' d (.xd [(("letter" : Str), v)]) :=
      ⟨_, hns.at (fun o q => (gk d M.dne).trans q), fun f => relO_atL rv f⟩
    have J : Inv X pins σ (upd H1 d (.xd [(("letter" : Str), v)])) ⟨G', g, dr, tk', os⟩ := I1.laid (t' := tk') old M.dbig ob
    refine ⟨e, oe, fv, ⟨G', g, dr, tk', os⟩, _, .ref C, some d, rfl, J, fun b o q => ?_, ge, hoe, ⟨hc, hd⟩, hdat, h1, ?_, rfl, I1.bare, raises_own T.exC T.tyC, q1 d (I1.hok.fresh M.dbig)⟩
    · by_cases hb : b = e
      · have q' : G'.get? b = some o := q
        rw [hb, ge] at q'; cases q'
      · exact (gk b hb).symm.trans q
    · rw [upd_ne (Ne.symm M.dne)]
      exact I1.hok.fresh M.new
/-- raise C(e) -/
def tRaiseAtL (C : Addr) (W : WX) (ta : TA) : TS := fun _ σ H => tMkAtL C ta σ H fun cls d H' => W cls d σ H'
theorem ps_raiseAtL {a : Expr} {ta : TA} {W : WX} {p pos pos2 : Pos} {k : Nat} (hc : X.calm = true) (T : PySem.OneXL.OneTxt X.K X.mg nm bmB newId C fI) (TB : PySem.OneXL.Tail bmB) (F : ExcBaseFacts B newId initId bmF) (LB : My.Line B bmB) (hr : Room k X.A) (tk : Takes X W) (ha : PA X [a] ta) (hg : Gl X nm := by rfl) (hdb : (nm == ("__debug__" : Str)) = false := by decide)
    (he : starEach (a :: []) X.env = (false, eval a X.env) :: starEach [] X.env := by rfl) (hpl : (backTo pos (starEach [] X.env)).any (·.1) = false := by rfl) :
    PS X (.Raise (some (.Call (.Name nm p) [a] [] pos)) none pos2) (tRaiseAtL C W ta) := ps_raise hc tk (pmk_atL T TB F LB hr ha hg hdb he hpl)
/-- e.at, e the exception that the suite holds (at a; its class cls, its dict d) -/
def tByAtL (C : Addr) (a : Addr) (cls : Value) (d : Option Addr) (te : TE) : TE := fun σ H Q => te σ H fun x H1 => x = .ref a ∧ cls = .ref C ∧ ∃ (dd : Addr) (v : V), d = some dd ∧ H1 dd = some (.xd [(("letter" : Str), v)]) ∧ Q v H1
theorem pe_byAtL {a : Addr} {oe : Obj} {cls : Value} {d : Option Addr} {pn : List (Addr × Obj)} {e : Expr} {te : TE} {pos : Pos} (T : PySem.OneXL.OneTxt X.K X.mg nm bmB newId C fI) (hz : Zc cls d oe) (hf : ∃ vs, oe.data = .fields vs) (he : PE (X.suite a ((a, oe) :: pn)) e te)
    (hb : attributeBase e "letter" X.env (eval e X.env) = eval e X.env := by rfl) :
    PE (X.suite a ((a, oe) :: pn)) (.Attribute e "letter" pos) (tByAtL C a cls d te) := by
  refine ⟨fun pins s σ H Q I h => ?_⟩
  refine attr_of hb (thn (he.run pins s σ H _ I h) fun u s1 hh => ?_)
  obtain ⟨x, H1, I1, rx, ex, ec, dd, v, ed, ea, q⟩ := hh
  subst ex
  obtain rfl : u = Value.ref a := rx
  subst ec
  subst ed
  obtain ⟨ha, _⟩ := I1.pin (a, oe) (List.mem_append_left _ List.mem_cons_self)
  obtain ⟨vs, hd⟩ := hf
  have hx : ObjOk X.prog X.w H1 s1.heap dd (.xd [(("letter" : Str), v)]) := I1.hok dd _ ea
  obtain ⟨mA, hns, hr⟩ := hx
  obtain ⟨od, ho, hl⟩ := lookIn_ns hns
  have l : List.lookup ("letter" : Str) [(("letter" : Str), v)] = some v := by simp [List.lookup]
  obtain ⟨u, hu, ru⟩ := RelO.some_of (v := v) (o := mA "letter") (by rw [← l]; exact hr "letter")
  have J : PySem.W.InstAt s1.heap a oe C (some od) := ⟨ha, hz.1, by unfold PySem.W.notCls; rw [hd] <;> rfl, by rw [hz.2]; exact ho⟩
  exact HandSPX.exc_get I1.kIn J T.ga T.gg T.exC (PySem.W.findObj_own T.hdC T.noN rfl (by rw [hl, hu])) (handed_of ru) ⟨v, H1, I1.tok _, ru, q⟩
end
end L2
set_option Elab.async false
set_option linter.all false
set_option autoImplicit false
set_option maxRecDepth 100000
set_option maxHeartbeats 2000000
/-! a list or a tuple, whichever; data of any kind; a comprehension of tuples that may be old -/
namespace My
open PySem PySem.Spec PyProof.Rows L2 Evl
/-- at a stands a tuple (t), else a list -/
def SqB (t : Bool) (K : PySem.W.Frag) (H : Hp) (a : Addr) (xs : List V) : Prop := if t = true then SqT K H a xs else SqL K H a xs
theorem SqB.or {t : Bool} {K : PySem.W.Frag} {H : Hp} {a : Addr} {xs : List V} (h : SqB t K H a xs) : SqL K H a xs ∨ SqT K H a xs := by
  cases t with
  | true => exact .inr h
  | false => exact .inl h
theorem SqB.ex {t : Bool} {K : PySem.W.Frag} {H H' : Hp} {a : Addr} {xs : List V} (h : SqB t K H a xs) (e : Ex H H') : SqB t K H' a xs := by
  cases t with
  | true => exact ex_t e h
  | false => exact ex_l e h
theorem SqB.at {t : Bool} {K : PySem.W.Frag} {H H' : Hp} {a : Addr} {xs : List V} (h : SqB t K H a xs) (e : ∀ o, H a = some o → H' a = some o) : SqB t K H' a xs := by
  cases t with
  | true =>
    rcases (h : SqT K H a xs) with (h | ⟨o, h⟩) | h
    · exact .inl (.inl (e _ h))
    · exact .inl (.inr ⟨o, e _ h⟩)
    · exact .inr h
  | false =>
    rcases (h : SqL K H a xs) with (h | ⟨o, h⟩) | h
    · exact .inl (.inl (e _ h))
    · exact .inl (.inr ⟨o, e _ h⟩)
    · exact .inr h
/-- data that is a sequence -/
def seqD : PyData → Option (List PyData)
  | .list ds => some ds
  | .tuple ds => some ds
  | _ => none
theorem dp_seq {K : PySem.W.Frag} {H : Hp} {v : V} {d : PyData} {ds : List PyData} (h : Dp K H v d) (e : seqD d = some ds) : ∃ t a xs, v = .ref a ∧ SqB t K H a xs ∧ DpAll K H xs ds := by
  cases h with
  | lst h r =>
    cases e
    exact ⟨false, _, _, rfl, h, r⟩
  | tup h r =>
    cases e
    exact ⟨true, _, _, rfl, h, r⟩
  | _ => cases e
section
variable {X : Cx} {tg l : Expr}
theorem pi_or {w1 w2 : TI} (h1 : PI X tg l w1) (h2 : PI X tg l w2) : PI X tg l (fun σ H R => w1 σ H R ∨ w2 σ H R) :=
  ⟨fun pins s σ H R I h => h.elim (h1.run pins s σ H R I) (h2.run pins s σ H R I)⟩
theorem call_or {f : Value} {r1 r2 : List V → Hp → VK → Prop} (h1 : CallR X f r1) (h2 : CallR X f r2) : CallR X f (fun xs H Q => r1 xs H Q ∨ r2 xs H Q) :=
  fun pins s σ H xs us Q I r h => h.elim (h1 pins s σ H xs us Q I r) (h2 pins s σ H xs us Q I r)
theorem op_or {f : Value → Value → Sem Value} {r1 r2 : R2} (h1 : OpR X f r1) (h2 : OpR X f r2) : OpR X f (fun x y H Q => r1 x y H Q ∨ r2 x y H Q) :=
  fun pins s σ H x y v u Q I a b h => h.elim (h1 pins s σ H x y v u Q I a b) (h2 pins s σ H x y v u Q I a b)
end
section
variable {K : PySem.W.Frag} {σ : L2.St} {H : Hp} {a : Addr} {t : Bool} {xs : List V} {R : It → Hp → Prop}
theorem itB {tl : TE} (hta : ∀ q : VK, q (.ref a) H → tl σ H q) (hs : SqB t K H a xs) (hR : ∀ J, Walk J xs.length (fun H => SqB t K H a xs) (YAt xs) → R J H) : iList K tl σ H R ∨ iTup K tl σ H R := by
  cases t with
  | true => exact .inr (hta _ ⟨a, rfl, ⟨xs, hs⟩, hR _ walk_tup⟩)
  | false => exact .inl (hta _ ⟨a, rfl, ⟨xs, hs⟩, hR _ walk_list⟩)
theorem enumB {ta : TA} (hta : ∀ q : List V → Hp → Prop, q [.ref a] H → ta σ H q) (hs : SqB t K H a xs) (hR : ∀ J, Walk J xs.length (fun H => SqB t K H a xs) (YPair (fun i => some (.int (i : Nat))) (fun i => xs[i]?)) → R J H) : iEnum K ta σ H R ∨ iEnumT K ta σ H R := by
  cases t with
  | true => exact .inr (hta _ ⟨a, xs, rfl, hs, hR _ walk_enumT⟩)
  | false => exact .inl (hta _ ⟨a, xs, rfl, hs, hR _ walk_enum⟩)
end
/-! the class of data -/
def tyD : PyData → String
  | .none => "NoneType"
  | .bool _ => "bool"
  | .int _ => "int"
  | .str _ => "str"
  | .list _ => "list"
  | .tuple _ => "tuple"
  | .dict _ => "dict"
theorem tyLs {K : PySem.W.Frag} {H : Hp} {a : Addr} {xs : List V} (h : SqL K H a xs) : TyX K H (.ref a) (.type "list") := by
  rcases h with (h | ⟨o, h⟩) | ⟨o, its, n, h1, h2, _⟩
  · exact .base (.lst h)
  · exact .base (.frz h)
  · exact .kList h1 h2
theorem tyTs {K : PySem.W.Frag} {H : Hp} {a : Addr} {xs : List V} (h : SqT K H a xs) : TyX K H (.ref a) (.type "tuple") := by
  rcases h with (h | ⟨o, h⟩) | ⟨o, its, n, h1, h2, _⟩
  · exact .base (.tup h)
  · exact .fTuple h
  · exact .kTuple h1 h2
theorem ty_dp {K : PySem.W.Frag} {H : Hp} {v : V} {d : PyData} (h : Dp K H v d) : TyX K H v (.type (tyD d)) := by
  cases h with
  | non => exact .base .non
  | bl b => exact .base (.bl b)
  | int i => exact .base (.int i)
  | str z => exact .base (.str z)
  | lst h r => exact tyLs h
  | tup h r => exact tyTs h
/-! a comprehension of tuples, old or new -/
section
variable {K : PySem.W.Frag} {J : It} {n : Nat} {G : Hp → Prop} {Y : Nat → Hp → V → Hp → Prop}
theorem lcT (w : Walk J n G Y) {g : TG} {te : TE} {vs : List Nat} {σ : L2.St} {H1 : Hp} {D : Addr} {Qd : Hp → Prop} (f : Nat → PyData) (ht : ∀ i, i < n → tupOnly (f i) = true) (hn : n ≤ 100000) (hD : H1 D = none) (hG : ∀ H, Ex H1 H → G H)
    (hs : ∀ i x H H', i < n → Ex H1 H → Y i H x H' → ∀ (A : V → Hp → Prop), (∀ y H4, Ex H H4 → Dp K H4 y (f i) → A y H4) → g x (wipe σ vs) H' fun σ2 H2 => wipe σ2 vs = wipe σ vs ∧ te σ2 H2 A)
    (hd : ∀ H ys, Ex H1 H → H D = some (.lst ys) → DpAll K H ys ((List.range n).map f) → Qd H) :
    ∃ W : Nat → Nat → Hp → Prop, (∃ m, W 0 m (upd H1 D (.lst []))) ∧ ∀ i m H, W i m H →
      (J.stop i H ∧ Qd H) ∨ (J.go i H ∧ ∃ Nx : Hp → Prop, (∀ H', Nx H' → ∃ m', m' < m ∧ W (i + 1) m' H') ∧ ∀ x H', J.yld i H x H' → g x (wipe σ vs) H' fun σ2 H2 => wipe σ2 vs = wipe σ vs ∧ tYes σ2 H2 fun b H3 =>
        if b = true then te σ2 H3 fun y H4 => ∃ acc, H4 D = some (.lst acc) ∧ acc.length < sizeLine ∧ Nx (upd H4 D (.lst (acc ++ [y]))) else Nx H3) := by
  refine lc_it (tt := tYes) w (fun i H => i ≤ n ∧ Ex H1 H ∧ ∃ acc, H D = some (.lst acc) ∧ DpAll K H acc ((List.range i).map f)) ⟨Nat.zero_le _, Ex.new hD, [], upd_same, .nil⟩ (fun i H _ h => hG H h.2.1) (fun i x H H' hi h y => ?_) (fun H h => ?_)
  · obtain ⟨hin, e, acc, h1, h2⟩ := h
    have := hs i x H H' hi e y (fun y H4 => ∃ acc, H4 D = some (.lst acc) ∧ acc.length < sizeLine ∧ (i + 1 ≤ n ∧ Ex H1 (upd H4 D (.lst (acc ++ [y]))) ∧ ∃ acc', upd H4 D (.lst (acc ++ [y])) D = some (.lst acc') ∧ DpAll K (upd H4 D (.lst (acc ++ [y]))) acc' ((List.range (i + 1)).map f))) fun y H4 e4 hy => ?_
    · exact this
    · have hl : acc.length = i := by
        rw [dpAll_len h2, List.length_map, List.length_range]
      have tx : TEx H4 (upd H4 D (.lst (acc ++ [y]))) := tex_upd (e4 _ _ h1)
      refine ⟨acc, e4 _ _ h1, by rw [hl, sizeLine_eq]; omega, hi, fun b o hb => ?_, _, upd_same, ?_⟩
      · rw [upd_ne]
        · exact e4 _ _ (e b o hb)
        · rintro rfl
          rw [hD] at hb
          cases hb
      · rw [List.range_succ, List.map_append]
        refine dpAll_app (dpAll_tex tx (dpAll_ex e4 h2) ?_) (.cons (dp_tex tx hy (ht i hi)) .nil)
        rw [tupAll_iff]
        intro d hd
        obtain ⟨j, hj, rfl⟩ := List.mem_map.mp hd
        exact ht j (Nat.lt_trans (List.mem_range.mp hj) hi)
  · obtain ⟨_, e, acc, h1, h2⟩ := h
    exact hd H acc e h1 h2
end
end My
set_option Elab.async false
set_option linter.all false
set_option autoImplicit false
set_option maxRecDepth 100000
set_option maxHeartbeats 4000000
namespace My
open PySem PySem.Spec PyProof.Rows L2 Evl
/-- flat data: what may be compared and shown -/
structure Fl (k w : Nat) (d : PyData) : Prop where
  lay : d.canLay0 = true
  shw : d.showable = true
  nd : d.hasDict = false
  dep : d.depth ≤ k
  lv : d.leavesShort 8 = true
  wt : d.weight ≤ w
structure FlA (k w : Nat) (ds : List PyData) : Prop where
  lay : PyData.canLayAll0 ds = true
  shw : PyData.showableAll ds = true
  nd : PyData.hasDictAll ds = false
  dep : PyData.depthAll ds ≤ k
  lv : PyData.leavesShortAll 8 ds = true
  wt : PyData.weightAll ds ≤ ds.length * (w + 1)
theorem Fl.mono {k k' w w' : Nat} {d : PyData} (h : Fl k w d) (hk : k ≤ k') (hw : w ≤ w') : Fl k' w' d := ⟨h.lay, h.shw, h.nd, Nat.le_trans h.dep hk, h.lv, Nat.le_trans h.wt hw⟩
theorem flA {k w : Nat} : ∀ {ds : List PyData}, (∀ d ∈ ds, Fl k w d) → FlA k w ds
  | [], _ => ⟨rfl, rfl, rfl, Nat.zero_le _, rfl, Nat.zero_le _⟩
  | d :: ds, h => by
    have a := h d List.mem_cons_self
    have b := flA (ds := ds) fun x hx => h x (List.mem_cons_of_mem _ hx)
    refine ⟨?_, ?_, ?_, ?_, ?_, ?_⟩
    · show (PyData.canLay0 d && PyData.canLayAll0 ds) = true
      rw [a.lay, b.lay]
      rfl
    · show (PyData.showable d && PyData.showableAll ds) = true
      rw [a.shw, b.shw]
      rfl
    · show (PyData.hasDict d || PyData.hasDictAll ds) = false
      rw [a.nd, b.nd]
      rfl
    · show max (PyData.depth d) (PyData.depthAll ds) ≤ k
      exact Nat.max_le.mpr ⟨a.dep, b.dep⟩
    · show (PyData.leavesShort 8 d && PyData.leavesShortAll 8 ds) = true
      rw [a.lv, b.lv]
      rfl
    · show PyData.weight d + 1 + PyData.weightAll ds ≤ (ds.length + 1) * (w + 1)
      have := a.wt
      have := b.wt
      rw [Nat.add_mul]
      omega
theorem fl_tup {k w m : Nat} {ds : List PyData} (h : ∀ d ∈ ds, Fl k w d) (hm : ds.length ≤ m) : Fl (k + 1) (m * (w + 1)) (.tuple ds) := by
  have a := flA h
  exact ⟨a.lay, a.shw, a.nd, by show PyData.depthAll ds + 1 ≤ k + 1; exact Nat.succ_le_succ a.dep, a.lv, Nat.le_trans a.wt (Nat.mul_le_mul_right _ hm)⟩
theorem fl_lst {k w m : Nat} {ds : List PyData} (h : ∀ d ∈ ds, Fl k w d) (hm : ds.length ≤ m) : Fl (k + 1) (m * (w + 1)) (.list ds) := by
  have a := flA h
  exact ⟨a.lay, a.shw, a.nd, by show PyData.depthAll ds + 1 ≤ k + 1; exact Nat.succ_le_succ a.dep, a.lv, Nat.le_trans a.wt (Nat.mul_le_mul_right _ hm)⟩
theorem fl_non : Fl 0 0 .none := ⟨rfl, rfl, rfl, Nat.le_refl _, rfl, Nat.le_refl _⟩
theorem fl_bool (b : Bool) : Fl 0 0 (.bool b) := ⟨rfl, rfl, rfl, Nat.le_refl _, rfl, Nat.le_refl _⟩
theorem fl_nat0 : ∀ j : Fin 256, ((PyData.int ((j.val : Nat) : Int)).showable && (PyData.int ((j.val : Nat) : Int)).leavesShort 8 && decide ((PyData.int ((j.val : Nat) : Int)).weight ≤ 8)) = true := by decide +kernel
theorem fl_nat {j : Nat} (h : j < 256) : Fl 0 8 (.int (j : Int)) := by
  have q := fl_nat0 ⟨j, h⟩
  rw [Bool.and_eq_true, Bool.and_eq_true] at q
  exact ⟨rfl, q.1.1, rfl, Nat.le_refl _, q.1.2, of_decide_eq_true q.2⟩
theorem Fl.shaped {k w : Nat} {d : PyData} (h : Fl k w d) (hk : k ≤ 64) : SeqAt.shaped d = true := by
  unfold SeqAt.shaped
  rw [h.lay, decide_eq_true (Nat.le_trans h.dep hk)]
  rfl
theorem Fl.len {k w : Nat} {d : PyData} (h : Fl k w d) (hw : w ≤ 1000000) : d.shown.length ≤ sizeLine := by
  have a := PyData.shown_le 8 (by decide) d h.lv
  have := h.wt
  rw [sizeLine_eq]
  omega
theorem rRepr_fl {K : PySem.W.Frag} {H : Hp} {Q : VK} {v : V} {d : PyData} {k w : Nat} (f : Fl k w d) (hk : k ≤ 60) (hw : w ≤ 1000000) (hd : isDisplay d = true) (h : Dp K H v d) (q : Q (.str d.shown) H) : rRepr K [v] H Q :=
  ⟨v, d, rfl, h, hd, f.shw, f.nd, Nat.le_trans f.dep hk, f.len hw, q⟩
theorem fl_str {z : Str} (h : (PyData.str z).canLay0 = true) (hs : (PyData.str z).showable = true) (hl : (PyData.str z).leavesShort 8 = true) (w : Nat) (hw : (PyData.str z).weight ≤ w) : Fl 0 w (.str z) := ⟨h, hs, rfl, Nat.le_refl _, hl, hw⟩
theorem eqvAll_of {α : Type} [DecidableEq α] {g : α → PyData} (h : ∀ a b, PyData.eqv (g a) (g b) = decide (a = b)) : ∀ l m : List α, PyData.eqvAll (l.map g) (m.map g) = decide (l = m)
  | [], [] => rfl
  | [], _ :: _ => rfl
  | _ :: _, [] => rfl
  | a :: l, b :: m => by
    show (PyData.eqv (g a) (g b) && PyData.eqvAll (l.map g) (m.map g)) = _
    rw [h a b, eqvAll_of h l m]
    by_cases e1 : a = b
    · by_cases e2 : l = m
      · rw [e1, e2, decide_eq_true rfl, decide_eq_true rfl, decide_eq_true rfl]
        rfl
      · rw [decide_eq_false e2, Bool.and_false, decide_eq_false (fun q => e2 (by injection q))]
    · rw [decide_eq_false e1, Bool.false_and, decide_eq_false (fun q => e1 (by injection q))]
/-- data that may be compared -/
structure Sh (k : Nat) (d : PyData) : Prop where
  lay : d.canLay0 = true
  dep : d.depth ≤ k
theorem Sh.shaped {k : Nat} {d : PyData} (h : Sh k d) (hk : k ≤ 64) : SeqAt.shaped d = true := by
  unfold SeqAt.shaped
  rw [h.lay, decide_eq_true (Nat.le_trans h.dep hk)]
  rfl
theorem shA {k : Nat} : ∀ {ds : List PyData}, (∀ d ∈ ds, Sh k d) → PyData.canLayAll0 ds = true ∧ PyData.depthAll ds ≤ k
  | [], _ => ⟨rfl, Nat.zero_le _⟩
  | d :: ds, h => by
    have a := h d List.mem_cons_self
    have b := shA (ds := ds) fun x hx => h x (List.mem_cons_of_mem _ hx)
    refine ⟨?_, ?_⟩
    · show (PyData.canLay0 d && PyData.canLayAll0 ds) = true
      rw [a.lay, b.1]
      rfl
    · show max (PyData.depth d) (PyData.depthAll ds) ≤ k
      exact Nat.max_le.mpr ⟨a.dep, b.2⟩
theorem sh_tup {k : Nat} {ds : List PyData} (h : ∀ d ∈ ds, Sh k d) : Sh (k + 1) (.tuple ds) := ⟨(shA h).1, Nat.succ_le_succ (shA h).2⟩
theorem sh_lst {k : Nat} {ds : List PyData} (h : ∀ d ∈ ds, Sh k d) : Sh (k + 1) (.list ds) := ⟨(shA h).1, Nat.succ_le_succ (shA h).2⟩
theorem sh_int (i : Int) : Sh 0 (.int i) := ⟨rfl, Nat.le_refl _⟩
theorem sh_non : Sh 0 .none := ⟨rfl, Nat.le_refl _⟩
theorem sh_bool (b : Bool) : Sh 0 (.bool b) := ⟨rfl, Nat.le_refl _⟩
theorem sh_str {z : Str} (h : (PyData.str z).canLay0 = true) : Sh 0 (.str z) := ⟨h, Nat.le_refl _⟩
theorem Sh.mono {k k' : Nat} {d : PyData} (h : Sh k d) (hk : k ≤ k') : Sh k' d := ⟨h.lay, Nat.le_trans h.dep hk⟩
end My
set_option Elab.async false
set_option linter.all false
set_option autoImplicit false
set_option maxRecDepth 100000
set_option maxHeartbeats 4000000
/-! isinstance(e, c) and isinstance(e, (c, ..)), e a caught error that may have a dict of its own -/
namespace My
open PySem PySem.Spec PySem.Calls PyProof.Rows
open L2
/-- the error that the suite holds: of which class, with which dict -/
def ErrIs (K : PySem.W.Frag) (cls : Value) (d : Option Addr) (H : Hp) (D : Addr) : Prop := cls = .ref D ∧ L2.ExcC K D ∧ ∃ dd fs, d = some dd ∧ H dd = some (.xd fs)
/-- isinstance(e, c), isinstance(e, (c, ..)) -/
def rIsErr (K : PySem.W.Frag) (a : Addr) (cls : Value) (d : Option Addr) : List V → Hp → VK → Prop := fun xs H Q => ∃ (D : Addr) (y : V) (b : Bool), xs = [.ref a, y] ∧ ErrIs K cls d H D ∧ Q (.bl b) H ∧
  ((∃ u, ClsV y u ∧ PySem.W.kitOne K cls u = some b) ∨ ∃ tp cs us, y = .ref tp ∧ H tp = some (.tup cs) ∧ Paired ClsV cs us ∧ PySem.W.kitAny K cls us = some b)
theorem kitErr {K : PySem.W.Frag} {x D : Addr} {ox : Obj} {od : Option Obj} (C : L2.ExcC K D) : PySem.W.KitX K (.ref x) (.ref D) (fun h => PySem.W.InstAt h x ox D od) :=
  PySem.W.kitx_exc (by obtain ⟨cd, hc, _⟩ := PySem.W.any_some C.hd; rw [hc]; rfl) C.hg C.hk C.hs C.ha C.hn C.ht C.hm
theorem call_isErr {X : Cx} {a : Addr} {cls : Value} {d : Option Addr} {oe : Obj} {pn : List (Addr × Obj)} (hz : Zc cls d oe) (hf : ∃ vs, oe.data = .fields vs) : CallR (X.suite a ((a, oe) :: pn)) (.builtin "isinstance") (rIsErr X.K a cls d) := by
  intro pins s σ H xs us Q I r h
  obtain ⟨D, y, b, rfl, ⟨rfl, C, dd, fs, rfl, hd⟩, q, h⟩ := h
  obtain ⟨u1, u2, rfl, r1, r2⟩ := vals2 r
  obtain rfl : u1 = Value.ref a := r1
  obtain ⟨vs, hv⟩ := hf
  obtain ⟨ha, _⟩ := I.pin (a, oe) (List.mem_append_left _ List.mem_cons_self)
  obtain ⟨mA, hns, _⟩ := (show ObjOk X.prog X.w H s.heap dd (.xd fs) from I.hok dd _ hd)
  obtain ⟨od, ho, _⟩ := lookIn_ns hns
  have J : PySem.W.InstAt s.heap a oe D (some od) := ⟨ha, hz.1, by unfold PySem.W.notCls; rw [hv] <;> rfl, by rw [hz.2]; exact ho⟩
  rcases h with ⟨u, k, e⟩ | ⟨tp, cs, us, rfl, hT, k, e⟩
  · obtain rfl := k.eq r2
    exact PySem.W.kia_one (kitErr C) I.kIn J e (fun z => nomatch z) fun tk => ⟨.bl b, H, I.tok tk, rfl, q⟩
  · obtain rfl : u2 = Value.ref tp := r2
    obtain ⟨_, its, rv, o, h1, h2, n, h3⟩ := (show ObjOk X.prog X.w H s.heap tp (.tup cs) from I.hok tp _ hT)
    obtain rfl := ClsV.all k rv
    obtain ⟨oc, od2, dt, sl⟩ := o
    simp only at h2 h3
    subst h2 h3
    exact PySem.W.kia_tup (kitErr C) I.kIn J h1 e (fun z => nomatch z) fun tk => ⟨.bl b, H, I.tok tk, rfl, q⟩
end My
set_option Elab.async false
set_option linter.all false
set_option autoImplicit false
set_option maxRecDepth 100000
set_option maxHeartbeats 2000000
/-! F1: defs that are run where no guard stands: bodies, calls, methods, objects made, keywords -/
namespace My
open PySem PySem.Spec PyProof.Rows L2
section
variable {P : Program} {w : World} {K : PySem.W.Frag} {mg : Str → Option Value} {base : Heap}
/-- as Fun.okX -/
theorem okH {x qual : Str} {st : Stmt} {f : Addr} {fd : FuncData} {N ps : List Str} {k : Nat} {sp : Sp} (F : Fun K x qual st f fd) (S : FnScope N ps (defScope st)) (len : ∀ vs H Q E, sp vs H Q E → vs.length = ps.length)
    (hbody : ∀ (cdv : Value) (A : Around) (outer : List Env) (s : Shared) (H : Hp) (vs : List V) (Q : VK) (E : XK), A.guards = some [] → Room k (A.deeper (envOfC qual (defScope st) s.heap.objs.size f cdv)) → sp vs H Q E →
      ∃ t, PSs (cxOf (L2.CX P w) P w K mg base N qual (defScope st) f cdv A outer s H E) (defBody st) t ∧ t { nx := fun _ H' => Q .non H', rt := Q } (start N vs) H) : FnG P w K mg base (L2.CX P w) (k + 1) f fd ps sp := by
  obtain ⟨oc, od, kV, doc, pm, an, cdv, ct, osl, rfl, lk, hcd⟩ := F.ex
  refine ⟨len, fun A outer s H args us vs Q E gd hr e0 hb r hsp => ?_⟩
  have hl := len _ _ _ _ hsp
  have KX : K.In s.heap := e0.mod.kin.keeps fun b o e => (e0.bs b o e).1
  have lim : s.heap.NoLimit := e0.mod.nolimit.keeps fun b o e => (e0.bs b o e).1
  have hkind : ∀ y ∈ ps.zip us, (defScope st).names.lookup y.1 = some .local ∨ ((defScope st).names.lookup y.1 = some .cell ∧ ((cellsFrom (s.heap.objs.size + 1) (defScope st).names []).lookup y.1).isSome = true) := fun ⟨n, v⟩ hy => by
    rcases S.par n (List.of_mem_zip hy).1 with q | q
    · exact .inl q
    · exact .inr ⟨q, PySem.W.cellsFrom_some _ _ _ (.inl q)⟩
  refine codeAny_call_function hr.depth (KX _ _ lk) rfl S.co S.gen rfl (PySem.W.codeRec_of KX hcd) (hb _ _ _ _ ?_)
  refine wpAny_newFunctionEnv_cells S.kind hkind fun env he s1 x => ?_
  subst he
  refine ⟨lim.keeps x.toInCall.keep, codeAny_func ?_⟩
  obtain ⟨t, ht, hq⟩ := hbody cdv A outer s H vs Q E gd (hr.deeper _) hsp
  have I : Inv (cxOf (L2.CX P w) P w K mg base N qual (defScope st) f cdv A outer s H E) [] (start N vs) H s1 := inv_start S hr.hd e0 hl r x
  refine wpAny_mono (ht.run [] s1 (start N vs) H _ I hq) (fun fl s' hs => ?_) fun e s' hs => hs
  have fin : ∀ {σ' : L2.St} {H' : Hp} {v : V} {u : Value}, Inv (cxOf (L2.CX P w) P w K mg base N qual (defScope st) f cdv A outer s H E) [] σ' H' s' → RelV v u → Q v H' → CE outer P w H s Q u s' :=
    fun {σ' H' v u} J rv q => ⟨v, H', J.os, J.bare, J.base, J.hok, rv, q⟩
  cases fl with
  | ret u =>
    obtain ⟨v, σ', H', J, rv, q⟩ := hs
    exact fin J rv q
  | next =>
    obtain ⟨σ', H', J, q⟩ := hs
    exact fin (v := V.non) (u := Value.none) J rfl q
  | brk =>
    obtain ⟨_, _, _, q⟩ := hs
    exact q.elim
  | cont =>
    obtain ⟨_, _, _, q⟩ := hs
    exact q.elim
end
theorem make_guards {A : Around} {C : Addr} {us : List Value} {kw : List (Str × Value)} : (A.under (.builtin "type.__call__" ⟨.ref C :: us, kw⟩)).guards = A.guards := by
  first | rfl | simp [Around.under, Code.weight, Code.isCreation, Code.isGuard, Code.isCaller, Code.frames, Code.isFrame, guardIds]
section
variable {X : Cx} {k : Nat} {f C : Addr} {fd : FuncData} {ps ks : List Str} {sp : Sp} {dvs : List V} {ds : List Value} {E : L2.St → XK} {x m : Str} {p pos apos : Pos} {e o : Expr} {es : List Expr} {kws : List Keyword} {ta : TE} {t tk : TA} {g : List Value → List Value → List Value} {gV : List V → List V → List V}
abbrev FnX (X : Cx) (k : Nat) (f : Addr) (fd : FuncData) (ps : List Str) (sp : Sp) : Prop := FnG X.prog X.w X.K X.mg X.base (L2.CX X.prog X.w) k f fd ps sp
abbrev PassX (X : Cx) (E : L2.St → XK) : Prop := ∀ (pins : List (Addr × Obj)) (σ : L2.St) (H : Hp) (s : Shared) (e : Value) (s' : Shared), Inv X pins σ H s → L2.CX X.prog X.w X.stack H s (E σ) e s' → X.xe e s'
def tCallS (sp : Sp) (dvs : List V) (E : L2.St → XK) (t : TA) : TE := fun σ H Q => t σ H fun vs H1 => sp (vs ++ dvs) H1 Q (E σ)
def tMethS (C : Addr) (m : Str) (sp : Sp) (dvs : List V) (E : L2.St → XK) (ta : TE) (t : TA) : TE := fun σ H Q => ta σ H fun x H1 => ∃ a dx fs, x = .ref a ∧ H1 a = some (.ins C dx fs) ∧ fs.lookup m = none ∧ t σ H1 fun vs H2 => sp (x :: (vs ++ dvs)) H2 Q (E σ)
def tMakeS (C : Addr) (sp : Sp) (dvs : List V) (E : L2.St → XK) (t : TA) : TE := fun σ H Q => t σ H fun vs H1 => ∀ x dx, H1 x = none → H1 dx = none → dx ≠ x → sp (.ref x :: (vs ++ dvs)) (upd (upd H1 dx (.own x)) x (.ins C dx [])) (fun v H2 => v = .non ∧ Q (.ref x) H2) (E σ)
theorem runS {pins : List (Addr × Obj)} {σ : L2.St} {H : Hp} {s : Shared} {Q : VK} {us : List Value} {vs : List V} (F : FnX X k f fd ps sp) (gd : X.A.guards = some []) (hr : Room k X.A) (hb : Binds X.K fd ps ds) (hd : Vals dvs ds)
    (hx : PassX X E) (I : Inv X pins σ H s) (r : Vals vs us) (h : sp (vs ++ dvs) H Q (E σ)) : wpAny (model X.prog X.w) X.A (call (.ref f) us) (EP X pins σ Q) X.xe s := by
  have r2 : Vals (vs ++ dvs) (us ++ ds) := r.append hd
  have hl : (us ++ ds).length = ps.length := r2.length.symm.trans (F.len _ _ _ _ h)
  refine wpAny_call (codeAny_mono (F.run X.A X.stack s H ⟨us, []⟩ (us ++ ds) (vs ++ dvs) Q (E σ) gd hr I.env0 (hb s us I.kIn hl) r2 h) fun r s' hq => ?_)
  match r, hq with
  | .error e, hq => exact hx pins σ H s e s' I hq
  | .ok (.ret u), hq => exact I.after hq
  | .ok .next, hq => exact False.elim hq
  | .ok .brk, hq => exact False.elim hq
  | .ok .cont, hq => exact False.elim hq
theorem pe_callH (F : FnX X k f fd ps sp) (gd : X.A.guards = some []) (hr : Room k X.A) (hg : Gl X x) (hm : X.mg x = some (.ref f)) (hk : PySem.W.keepIn X.K (.ref f) = true) (hb : Binds X.K fd ps ds) (hd : Vals dvs ds) (hx : PassX X E)
    (ha : PA X (e :: es) t) (hs : starEach (e :: es) X.env = (false, eval e X.env) :: starEach es X.env := by rfl) (hpl : (backTo pos (starEach es X.env)).any (·.1) = false := by rfl) (hdb : (x == ("__debug__" : Str)) = false := by decide +kernel) :
    PE X (.Call (.Name x p) (e :: es) [] pos) (tCallS sp dvs E t) := by
  refine ⟨fun pins s σ H Q I h => ?_⟩
  refine wpAny_Call_Name_kw (ld_glob I hg hm ?_ hdb)
  refine PySem.W.callWith_K (h₀ := X.base) I.ok.mod.kin hk (thn (ha.run pos pins s σ H _ I h) fun us s1 ⟨vs, H1, I1, r1, q1⟩ => ⟨I1.kIn, ?_⟩) hs hpl
  exact runS F gd hr hb hd hx I1 r1 q1
theorem pe_call0H (F : FnX X k f fd ps sp) (gd : X.A.guards = some []) (hr : Room k X.A) (hg : Gl X x) (hm : X.mg x = some (.ref f)) (hk : PySem.W.keepIn X.K (.ref f) = true) (hb : Binds X.K fd ps ds) (hd : Vals dvs ds) (hx : PassX X E)
    (hdb : (x == ("__debug__" : Str)) = false := by decide +kernel) : PE X (.Call (.Name x p) [] [] pos) (tCallS sp dvs E tNil) := by
  refine ⟨fun pins s σ H Q I h => ?_⟩
  refine wpAny_Call_Name_kw (ld_glob I hg hm ?_ hdb)
  exact PySem.W.callWith_K0 I.kIn hk (runS (us := []) F gd hr hb hd hx I .nil h)
theorem pe_methH {pl : Sem Bool} (he : PE X o ta) (c : Cls X.K C) (hm : Meth X.K C m f) (F : FnX X k f fd ps sp) (gd : X.A.guards = some []) (hr : Room k X.A) (hb : Binds X.K fd ps ds) (hd : Vals dvs ds) (hx : PassX X E) (ha : PA X (e :: es) t)
    (hst : starEach (e :: es) X.env = (false, eval e X.env) :: starEach es X.env := by rfl) (hpl : (backTo pos (starEach es X.env)).any (·.1) = false := by rfl)
    (ht : eval (.Call (.Attribute o m apos) (e :: es) [] pos) X.env = (do
      let ov ← eval o X.env
      standAt apos.atName
      let (f, first) ← holding [ov] (getMethod ov m pl)
      callWith pos f first (backTo pos (starEach (e :: es) X.env)) (backToKw pos (keywordEach [] X.env))) := by rfl) :
    PE X (.Call (.Attribute o m apos) (e :: es) [] pos) (tMethS C m sp dvs E ta t) := by
  refine ⟨fun pins s σ H Q I h => ?_⟩
  refine PySem.W.methodCall_KW (pl := pl) (thn (he.run pins s σ H _ I h) fun u s1 ⟨x, H1, I1, rx, a, dx, fs, ex, ea, l, q⟩ => ?_) ht
  subst ex
  obtain rfl : u = Value.ref a := rx
  refine getmeth_ok I1 ea c hm l ?_
  refine PySem.W.callWith_K (first := [.ref a]) (h₀ := X.base) I.ok.mod.kin hm.kp (thn (ha.run pos pins s1 σ H1 _ I1 q) fun us s2 ⟨vs, H2, I2, r, q2⟩ => ⟨I2.kIn, ?_⟩) hst hpl
  exact runS (us := .ref a :: us) (vs := .ref a :: vs) F gd hr hb hd hx I2 (.cons rfl r) q2
theorem pe_meth0H {pl : Sem Bool} (he : PE X o ta) (c : Cls X.K C) (hm : Meth X.K C m f) (F : FnX X k f fd ps sp) (gd : X.A.guards = some []) (hr : Room k X.A) (hb : Binds X.K fd ps ds) (hd : Vals dvs ds) (hx : PassX X E)
    (ht : eval (.Call (.Attribute o m apos) [] [] pos) X.env = (do
      let ov ← eval o X.env
      standAt apos.atName
      let (f, first) ← holding [ov] (getMethod ov m pl)
      callWith pos f first (backTo pos (starEach [] X.env)) (backToKw pos (keywordEach [] X.env))) := by rfl) :
    PE X (.Call (.Attribute o m apos) [] [] pos) (tMethS C m sp dvs E ta tNil) := by
  refine ⟨fun pins s σ H Q I h => ?_⟩
  refine PySem.W.methodCall_KW (pl := pl) (thn (he.run pins s σ H _ I h) fun u s1 ⟨x, H1, I1, rx, a, dx, fs, ex, ea, l, q⟩ => ?_) ht
  subst ex
  obtain rfl : u = Value.ref a := rx
  refine getmeth_ok I1 ea c hm l ?_
  exact PySem.W.callWith_K0 (first := [.ref a]) I1.kIn hm.kp (runS (us := [.ref a]) (vs := [.ref a]) F gd hr hb hd hx I1 (.cons rfl .nil) q)
theorem run_makeH {pins : List (Addr × Obj)} {σ : L2.St} {H : Hp} {s : Shared} {Q : VK} {us : List Value} {vs : List V} (M : Mk X.K C f) (F : FnX X k f fd ps sp) (gd : X.A.guards = some []) (hr : Room (k + 1) X.A) (hb : Binds X.K fd ps ds) (hd : Vals dvs ds)
    (hx : PassX X E) (I : Inv X pins σ H s) (r : Vals vs us)
    (h : ∀ x dx, H x = none → H dx = none → dx ≠ x → sp (.ref x :: (vs ++ dvs)) (upd (upd H dx (.own x)) x (.ins C dx [])) (fun v H2 => v = .non ∧ Q (.ref x) H2) (E σ)) :
    wpAny (model X.prog X.w) X.A (call (.ref C) us) (EP X pins σ Q) X.xe s := by
  have hq := h (s.heap.objs.size + 1) s.heap.objs.size (I.hok.fresh (Nat.le_succ _)) (I.hok.fresh (Nat.le_refl _)) (Nat.ne_of_lt (Nat.lt_succ_self _))
  have I2 := Inv.made (C := C) I
  have r2 : Vals (V.ref (s.heap.objs.size + 1) :: (vs ++ dvs)) (Value.ref (s.heap.objs.size + 1) :: (us ++ ds)) := .cons rfl (r.append hd)
  have hl : (Value.ref (s.heap.objs.size + 1) :: us ++ ds).length = ps.length := by
    have e := r2.length
    rw [F.len _ _ _ _ hq] at e
    exact e.symm
  refine wpAny_call (make_map (f := f) I.kIn M.makes M.init (beq_iff_eq.mp M.fn) (codeAny_mono (F.run _ X.stack _ _ ⟨Value.ref (s.heap.objs.size + 1) :: us, []⟩ (Value.ref (s.heap.objs.size + 1) :: (us ++ ds)) _ _ (E σ) (make_guards.trans gd) (hr.make C us [])
    (I2.env0.make C us []) (hb _ (Value.ref (s.heap.objs.size + 1) :: us) I2.kIn hl) r2 hq) fun r s' hq' => ?_))
  cases r with
  | error e => exact hx pins σ _ _ e s' I2 hq'
  | ok fl =>
    cases fl with
    | ret u =>
      obtain ⟨v, H', I3, rv, ev, q3⟩ := I2.after hq'
      subst ev
      exact ⟨rv, ⟨V.ref (s.heap.objs.size + 1), H', I3, rfl, q3⟩⟩
    | next => exact False.elim hq'
    | brk => exact False.elim hq'
    | cont => exact False.elim hq'
theorem pe_makeH (M : Mk X.K C f) (F : FnX X k f fd ps sp) (gd : X.A.guards = some []) (hr : Room (k + 1) X.A) (hg : Gl X x) (hm : X.mg x = some (.ref C)) (hb : Binds X.K fd ps ds) (hd : Vals dvs ds) (hx : PassX X E)
    (ha : PA X (e :: es) t) (hdb : (x == ("__debug__" : Str)) = false := by decide +kernel) (he : starEach (e :: es) X.env = (false, eval e X.env) :: starEach es X.env := by rfl) (hpl : (backTo pos (starEach es X.env)).any (·.1) = false := by rfl) :
    PE X (.Call (.Name x p) (e :: es) [] pos) (tMakeS C sp dvs E t) := by
  refine ⟨fun pins s σ H Q I h => ?_⟩
  refine wpAny_Call_Name_kw (ld_glob I hg hm ?_ hdb)
  refine PySem.W.callWith_K (h₀ := X.base) I.ok.mod.kin M.kp (thn (ha.run pos pins s σ H _ I h) fun us s1 ⟨vs, H1, I1, r, q⟩ => ⟨I1.kIn, ?_⟩) he hpl
  exact run_makeH M F gd hr hb hd hx I1 r q
theorem run_fnkH {pins : List (Addr × Obj)} {σ : L2.St} {H : Hp} {s : Shared} {Q : VK} {us ws : List Value} {vs zs : List V} (F : FnX X k f fd ps sp) (gd : X.A.guards = some []) (hr : Room k X.A) (hb : KBinds X.K fd ps ks g gV) (hx : PassX X E)
    (I : Inv X pins σ H s) (r : Vals vs us) (rz : Vals zs ws) (h : sp (gV vs zs) H Q (E σ)) : wpAny (model X.prog X.w) X.A (call (.ref f) us (ks.zip ws)) (EP X pins σ Q) X.xe s := by
  have r2 := hb.rel r rz
  have hl : (g us ws).length = ps.length := by rw [← r2.length]; exact F.len _ _ _ _ h
  refine wpAny_call (codeAny_mono (F.run X.A X.stack s H ⟨us, ks.zip ws⟩ (g us ws) (gV vs zs) Q (E σ) gd hr I.env0 (hb.to s us ws I.kIn hl) r2 h) fun r s' hq => ?_)
  cases r with
  | error e => exact hx pins σ H s e s' I hq
  | ok fl =>
    cases fl with
    | ret u => exact I.after hq
    | next => exact False.elim hq
    | brk => exact False.elim hq
    | cont => exact False.elim hq
theorem pe_callKH (F : FnX X k f fd ps sp) (gd : X.A.guards = some []) (hr : Room k X.A) (hg : Gl X x) (hm : X.mg x = some (.ref f)) (hk : PySem.W.keepIn X.K (.ref f) = true) (hb : KBinds X.K fd ps ks g gV) (hx : PassX X E)
    (ha : PA X (e :: es) t) (hkw : PK X kws tk) (hall : (backToKw pos (keywordEach kws X.env)).all (·.1.isSome) = true := by rfl) (hks : (backToKw pos (keywordEach kws X.env)).filterMap (·.1) = ks := by rfl)
    (hdb : (x == ("__debug__" : Str)) = false := by decide +kernel) (he : starEach (e :: es) X.env = (false, eval e X.env) :: starEach es X.env := by rfl)
    (hpl : ((backTo pos (starEach (e :: es) X.env)).any (·.1) || (backToKw pos (keywordEach kws X.env)).any (·.1.isNone)) = false := by rfl) :
    PE X (.Call (.Name x p) (e :: es) kws pos) (fun σ H Q => t σ H fun vs H1 => tk σ H1 fun zs H2 => sp (gV vs zs) H2 Q (E σ)) := by
  refine ⟨fun pins s σ H Q I h => ?_⟩
  refine wpAny_Call_Name_kw (ld_glob I hg hm ?_ hdb)
  refine PySem.W.callWith_KW (h₀ := X.base) I.ok.mod.kin hk hall (thn (ha.run pos pins s σ H _ I h) fun us s1 ⟨vs, H1, I1, r, q⟩ => ?_) hpl he
  refine thn (hkw.run pos pins s1 σ H1 _ I1 q) fun ws s2 ⟨zs, H2, I2, rz, q2⟩ => ⟨I2.kIn, ?_⟩
  rw [hks]
  exact run_fnkH F gd hr hb hx I2 r rz q2
end
end My
set_option Elab.async false
set_option linter.all false
set_option autoImplicit false
set_option maxRecDepth 100000
set_option maxHeartbeats 2000000
/-! F2: a list comprehension whose element may let an own error out -/
namespace My
open PySem PySem.Spec PyProof.Rows L2
/-- B without the place C -/
theorem hide_one (B : Heap) (C : Addr) : ∃ B2 : Heap, (∀ b, b ≠ C → B2.get? b = B.get? b) ∧ B2.get? C = none := by
  obtain ⟨G, g1, g2⟩ := restrict B fun b => decide (b ≠ C)
  exact ⟨G, fun b h => g1 b (by simp [h]), g2 C (by simp)⟩
theorem hok_hide {P : Program} {w : World} {H : Hp} {B B2 : Heap} {C : Addr} (x : HOk P w H B) (hC : H C = none) (k : ∀ b, b ≠ C → B2.get? b = B.get? b) : HOk P w H B2 := fun b u e => by
  refine (x b u e).stay (fun c v hc q => ?_) (fun _ q => q) fun _ _ q => q
  rw [k c fun z => ?_]
  · exact q
  · subst z
    rcases hc with z | z
    · rw [z, e] at hC; cases hC
    · rw [hC] at z; cases z
theorem ups_trans_but {h0 h1 h2 h3 : Heap} {C : Addr} (a : h0.UpToSlots h1) (s : Heap.SameBut C h1 h2) (b : h2.UpToSlots h3) (n : h0.get? C = none) : h0.UpToSlots h3 := fun x o e nf => by
  have hx : x ≠ C := fun z => by rw [z, n] at e; cases e
  obtain ⟨sl, e1⟩ := a x o e nf
  rw [← s.2 x hx] at e1
  obtain ⟨sl2, e2⟩ := b x _ e1 nf
  exact ⟨sl2, e2⟩
/-- an own error that an element lets out, on its way through the block -/
theorem blk_fails {X : Cx} {W : WX} {pins pinsB : List (Addr × Obj)} {σ σB : L2.St} {H3 HB : Hp} {s3 s s' : Shared} {scope : Scope} {ce : Env} {fp : List Addr} {E : XK} {u : Value}
    (tk : Takes X W) (hs : X.stack = X.env :: X.outer) (hf : X.env.frame = some X.env.locals) (cf : ce.frame = X.env.frame) (cne : X.env.locals ≠ ce.locals)
    (I0 : Inv X pins σ H3 s3) (hfp : ∀ b ∈ fp, (b ∈ X.ex ∨ X.s_0.heap.objs.size ≤ b) ∧ b ≠ X.env.locals ∧ (∀ x c, X.env.cells.lookup x = some c → c ≠ b) ∧ ∀ p ∈ X.pn ++ pins, p.1 ≠ b)
    (I : Inv (X.blk s3 H3 scope ce fp) pinsB σB HB s) (c : L2.CX X.prog X.w X.stack HB s E u s') (hW : ∀ cls d H, E cls d H → W cls d σ H) :
    notedBy (model X.prog X.w) X.A ce (CompFails (model X.prog X.w) X.A X.xe ce) u s' := by
  obtain ⟨a, B, H', cls, d, rfl, fl, hok, ub, na, os, ag, hE⟩ := c
  have ne : noteFrame (.ref a) ce = noteFrame (.ref a) X.env := by
    unfold noteFrame PySem.frameOf
    rw [cf]
  unfold notedBy
  rw [ne]
  have hfr : X.A.frames = some (X.env :: X.outer) := by rw [I0.ok.frames, hs]
  rw [hs] at fl
  refine HandSPX.looks_onZ Zc.steady hfr hf fl fun h1 hh up => ?_
  obtain ⟨st1, nb0, ff1, tz1⟩ := hh
  have cge : s3.heap.objs.size ≤ ce.locals := I.ok.above
  have cfr : ce.locals ∉ frs X.stack := fun hm => by
    obtain ⟨_, o, ho, _⟩ := I.ok.funs.mem (show ce.locals ∈ (X.stack).filterMap (·.frame) from hm)
    exact absurd (Nat.lt_of_lt_of_le (Heap.lt_size ho) cge) (Nat.lt_irrefl _)
  obtain ⟨m, hn, _⟩ := I.loc
  obtain ⟨oc, es, ep, hc0, hcd, hcr⟩ := hn
  have hcB : B.get? ce.locals = some oc := ub.keep _ _ hc0 I.free cfr
  have hC' : H' ce.locals = none := ub.free _ _ hc0 I.free
  have hc1 : h1.get? ce.locals = some oc := st1 _ _ hcB
  refine ⟨m, ⟨oc, es, ep, hc1, hcd, hcr⟩, fun h2 m2 hn2 sb => ?_⟩
  obtain ⟨oe, vs, T, oT, ts, he, hz, hd, hv1, hnT, hTe, hT, hdT, hv3⟩ := tz1
  have ane : a ≠ ce.locals := fun z => by
    rw [z, hc1] at he; cases he; rw [hcd] at hd; cases hd
  have Tne : T ≠ ce.locals := fun z => by
    rw [z, hc1] at hT; cases hT; rw [hcd] at hdT; cases hdT
  obtain ⟨B2, b1, b2⟩ := hide_one B ce.locals
  have st2 : B2.StaysIn h2 := fun b o e => by
    have hb : b ≠ ce.locals := fun z => by rw [z, b2] at e; cases e
    rw [b1 b hb] at e
    rw [sb.2 b hb]
    exact st1 b o e
  have hB2 : ∀ b, B.get? b = none → B2.get? b = none := fun b e => by
    by_cases hb : b = ce.locals
    · rw [hb]; exact b2
    · rw [b1 b hb]; exact e
  have ff2 : h2.FunFrames B2 (X.env :: X.outer) := funFrames_none (Heap.FunFrames.sameBut sb hn2 ff1) fun L hL => hB2 L (ff1.mem hL).1
  have hh2 : HandSPX.HeldZ B2 (X.env :: X.outer) a (Zc cls d) X.env.locals h2 := ⟨st2, hB2 _ nb0, ff2, oe, vs, T, oT, ts, by rw [sb.2 a ane]; exact he, hz, hd, hv1, hB2 _ hnT, hTe, by rw [sb.2 T Tne]; exact hT, hdT, hv3⟩
  unfold PySem.passOn
  refine wpAny_bind (wpAny_field (by rw [sb.2 a ane]; exact he) hd hv1 ?_)
  rw [if_neg (show ¬ ((Value.ref T == Value.none) = true) from by simp), cf, hf]
  refine wpAny_bind (HandSPX.setFlight_onZ hh2 fun h4 hh4 up4 => wpAny_throw (tk _ _ ?_))
  obtain ⟨G, g1, g2⟩ := restrict s'.heap fun b => (B2.get? b).isSome || decide (b ∈ frs X.stack)
  have stB : B.StaysIn s'.heap := fl.1
  have gB : ∀ b o, B2.get? b = some o → G.get? b = some o := fun b o e => by
    rw [g1 b (by simp [e])]
    refine stB b o ?_
    by_cases hb : b = ce.locals
    · rw [hb, b2] at e; cases e
    · rw [← b1 b hb]; exact e
  have gF : ∀ b, b ∈ frs X.stack → G.get? b = s'.heap.get? b := fun b hb => g1 b (by simp [hb])
  have gC : G.get? ce.locals = none := g2 _ (by simp [b2, cfr])
  have og : ∀ b o, G.get? b = some o → s'.heap.get? b = some o ∧ ((B2.get? b).isSome = true ∨ b ∈ frs X.stack) := fun b o e => by
    cases q : ((B2.get? b).isSome || decide (b ∈ frs X.stack)) with
    | false => rw [g2 b q] at e; cases e
    | true =>
      rw [g1 b q] at e
      exact ⟨e, by simpa [Bool.or_eq_true] using q⟩
  have bse : Un (frs X.stack) fp H3 HB s3.heap s.heap := I.base
  have lt3 : ∀ b o, s3.heap.get? b = some o → b ≠ ce.locals := fun b o e z => absurd (Nat.lt_of_lt_of_le (Heap.lt_size e) cge) (by rw [z]; exact Nat.lt_irrefl _)
  have toB2 : ∀ b o, s.heap.get? b = some o → b ∉ frs X.stack → b ≠ ce.locals → ∃ o', B2.get? b = some o' := fun b o e hb hc => by
    obtain ⟨o', q⟩ := ub.there b o e hb
    exact ⟨o', by rw [b1 b hc]; exact q⟩
  have UU : Un (frs X.stack) fp H3 H' s3.heap G := by
    refine ⟨fun b o e n hb hx => ?_, fun b o e n hb hx => ?_, fun b o e n hx => ?_, fun b o e hx => ?_, fun b xs e => ub.tups _ _ (bse.tups _ _ e), fun b o xs e => ub.frzs _ _ _ (bse.frzs _ _ _ e), fun b ps e => ?_⟩
    · have e1 := bse.keep b o e n hb hx
      refine gB b o ?_
      rw [b1 b (lt3 b o e)]
      exact ub.keep b o e1 (bse.free b o e n hx) hb
    · obtain ⟨sl, e1⟩ := bse.slot b o e n hb hx
      obtain ⟨sl2, e2⟩ := ub.slot b _ e1 hb
      exact ⟨sl2, by rw [gF b hb]; exact e2⟩
    · obtain ⟨o', e1⟩ := bse.there b o e hx
      exact ub.free b o' e1 (bse.free b o e n hx)
    · obtain ⟨o', e1⟩ := bse.there b o e hx
      by_cases hb : b ∈ frs X.stack
      · obtain ⟨sl, e2⟩ := ub.slot b _ e1 hb
        exact ⟨_, by rw [gF b hb]; exact e2⟩
      · obtain ⟨o2, e2⟩ := toB2 b o' e1 hb (lt3 b o e)
        exact ⟨o2, gB b o2 e2⟩
    · obtain ⟨more, e1⟩ := bse.tbls b ps e
      obtain ⟨more2, e2⟩ := ub.tbls b _ e1
      exact ⟨more ++ more2, by rw [e2, Array.append_assoc]⟩
  have J : Inv X pins σ H' { s with heap := G, gens := s'.gens, drawn := s'.drawn, toks := s'.toks } := I0.call' (ch := fp) I.os UU ((hok_hide hok hC' b1).kept gB) ag hfp
  refine ⟨a, B2, { s with heap := G, gens := s'.gens, drawn := s'.drawn, toks := s'.toks }, pins, σ, H', cls, d, rfl, J, fun b o e hb => ?_, ?_, .inr (.inr (by rw [hs]; exact hh4)), na, os, ag, hW _ _ _ hE⟩
  · obtain ⟨e', h⟩ := og b o e
    rcases h with h | h
    · obtain ⟨o', q⟩ := Option.isSome_iff_exists.mp h
      have z := gB b o' q
      rw [e] at z; cases z
      exact q
    · exact absurd h hb
  · exact ups_trans_but (h0 := G) (fun b o e nf => up b o (og b o e).1 nf) sb up4 gC

/-! the block whose element may let E out -/
abbrev blkE (X : Cx) (s : Shared) (H : Hp) (scope : Scope) (ce : Env) (fp : List Addr) (E : XK) : Cx :=
  { X.blk s H scope ce fp with xe := fun u s' => ∃ pins σ H1 s1, Inv (X.blk s H scope ce fp) pins σ H1 s1 ∧ L2.CX X.prog X.w X.stack H1 s1 E u s' }
section
variable {X : Cx} {s3 s : Shared} {H3 H : Hp} {scope : Scope} {ce : Env} {fp : List Addr} {E : XK} {pins : List (Addr × Obj)} {σ : L2.St}
theorem toE (I : Inv (X.blk s3 H3 scope ce fp) pins σ H s) : Inv (blkE X s3 H3 scope ce fp E) pins σ H s :=
  let k := I.ok
  ⟨⟨k.mod, k.kind, k.glob, k.blt, k.above, k.inj, k.has, k.cab, k.hd, k.frames, k.stk, k.exf, k.bs, k.bsz, k.noex, k.exfs, k.funs, k.frf⟩, I.os, I.bare, I.base, I.loc, I.cell, I.free, I.freeC, I.pin, I.hok, I.len⟩
theorem ofE (I : Inv (blkE X s3 H3 scope ce fp E) pins σ H s) : Inv (X.blk s3 H3 scope ce fp) pins σ H s :=
  let k := I.ok
  ⟨⟨k.mod, k.kind, k.glob, k.blt, k.above, k.inj, k.has, k.cab, k.hd, k.frames, k.stk, k.exf, k.bs, k.bsz, k.noex, k.exfs, k.funs, k.frf⟩, I.os, I.bare, I.base, I.loc, I.cell, I.free, I.freeC, I.pin, I.hok, I.len⟩
theorem pass_blkE : PassX (blkE X s3 H3 scope ce fp E) (fun _ => E) := fun pins σ H s e s' I c => ⟨pins, σ, H, s, ofE I, c⟩
end
/-- as tLc; the element's reading knows what it may let out -/
def tLcX (wi : TI) (g : TG) (tt : TT) (te : XK → TE) (vs : List Nat) (W : WX) : TE := fun σ => tLc wi g tt (te fun cls d H => W cls d σ H) vs σ
theorem lcx_core {X : Cx} {W : WX} {pins : List (Addr × Obj)} {s : Shared} {σ : L2.St} {H : Hp} {Q : VK} {elt tg iter : Expr} {ifs : List Expr} {scope : Scope} {own : List (Str × Nat)} {pos pos' : Pos} {wi : TI} {g : TG} {tt : TT} {te : XK → TE} {use : Option (Value → Sem Unit)} {Qf : Value → Shared → Prop}
    (tk : Takes X W) (hst : X.stack = X.env :: X.outer) (hfm : X.env.frame = some X.env.locals) (hc : X.calm = true) (nd : X.N.Nodup) (I : Inv X pins σ H s) (hi : PI X tg iter wi) (ok : BlkOk X.N X.env.scope scope own)
    (hg : ∀ s H C cl fp, PG (X.blk s H scope (compEnvC scope cl C X.env) fp) tg g) (ht : ∀ s H C cl fp, PTs (X.blk s H scope (compEnvC scope cl C X.env) fp) ifs tt)
    (he : ∀ s H C cl fp E, PE (blkE X s H scope (compEnvC scope cl C X.env) fp E) elt (te E)) (hfo : ∀ x, foldedSetIterable iter X.env x = pure x) (h : tLcX wi g tt te (own.map (·.2)) W σ H Q)
    (fin : ∀ D C ce s' m H', ce.locals = C → Inv X pins σ H' s' → Q (.ref D) H' → s'.heap.Ns C m → FpOk X pins H' C → compEnds (model X.prog X.w) X.A X.xe use Qf (.ref D) ce (.ok .next) s') :
    wpAny (model X.prog X.w) X.A (comprehension (.ListComp elt [⟨tg, iter, ifs, 0⟩] scope pos) scope X.env pos' (newList []) false (eval iter X.env) use) Qf X.xe s := by
  have cap : ∀ y ∈ scope.names, y.2 = .free → ∃ c, X.env.cells.lookup y.1 = some c := fun y hy e => I.ok.has _ ((ok.free y hy e).elim .inl .inr)
  refine comprehension_at (use := use) rfl hfo (closure_ok cap) ok.kind (fun y hy e => by rw [ok.uniq y hy, e]) (thn (hi.run pins s σ H _ I h) fun xv s1 hx => thn hx fun itv s2 h2 => ?_)
  obtain ⟨it, fp, tn, J, H2, rfl, I2, T, st2, f2, q⟩ := h2
  refine wpAny_newObj_type (newEnv_comp ?_) (by show 0 ≤ sizeLine; decide)
  -- D: the new list; C: the block's names
  obtain ⟨D, hD⟩ : ∃ D, D = s2.heap.objs.size := ⟨_, rfl⟩
  obtain ⟨s3, hs3⟩ : ∃ s3 : Shared, s3 = { s2 with heap := s2.heap.push { cls := .type "list", data := .seq ([] : List Value).toArray } } := ⟨_, rfl⟩
  rw [← hD, ← hs3]
  have h3 : s3.heap = s2.heap.push { cls := .type "list", data := .seq ([] : List Value).toArray } := by rw [hs3]
  have I3 : Inv X pins σ (upd H2 D (.lst [])) s3 := by
    rw [hs3]
    exact I2.laid (t' := s2.toks) (fun b o e => Heap.get?_push_of_some _ e) (Nat.le_of_eq hD.symm) ⟨Nat.zero_le _, [], 0, .nil, by rw [hD]; exact Heap.get?_push_size _ rfl⟩
  obtain ⟨V, ⟨m0, w0⟩, turn⟩ := q D (I2.hok.fresh (Nat.le_of_eq hD.symm))
  have old : ∀ b ∈ fp, b < s2.heap.objs.size := fun b hb => let ⟨_, e, _⟩ := T.obj _ _ st2 b hb; Heap.lt_size e
  have f3 : ∀ b ∈ fp, FpOk X pins (upd H2 D (.lst [])) b ∧ b < s3.heap.objs.size := fun b hb => by
    refine ⟨⟨?_, (f2 b hb).2⟩, by rw [h3, Heap.size_push]; exact Nat.lt_succ_of_lt (old b hb)⟩
    rw [upd_ne (by rw [hD]; exact Nat.ne_of_lt (old b hb))]
    exact (f2 b hb).1
  have hch : ∀ b ∈ fp, (b ∈ X.ex ∨ X.s_0.heap.objs.size ≤ b) ∧ b ≠ X.env.locals ∧ (∀ x c, X.env.cells.lookup x = some c → c ≠ b) ∧ ∀ p ∈ X.pn ++ pins, p.1 ≠ b := fun b hb =>
    let z := (f3 b hb).1; ⟨z.2.2.2.1, z.2.1, z.2.2.2.2.1, z.2.2.2.2.2⟩
  have st3 : tn 0 s3.heap := T.keep _ _ _ st2 fun b _ o e => by rw [h3]; exact Heap.get?_push_of_some _ e
  have I4 := block_start I3 ok nd f3
  have lt3 : X.env.locals < s3.heap.objs.size := I3.lt
  obtain ⟨H3, hH3⟩ : ∃ H3, H3 = upd H2 D (.lst []) := ⟨_, rfl⟩
  obtain ⟨ce, hce⟩ : ∃ ce, ce = compEnvC scope (cellsFrom (s3.heap.objs.size + 1) scope.names (cloFrom X.env.cells scope.names [])) s3.heap.objs.size X.env := ⟨_, rfl⟩
  obtain ⟨s4, hs4⟩ : ∃ s4 : Shared, s4 = { s3 with heap := pushCells (s3.heap.push { cls := .type "dict", data := .dict #[] }) scope.names } := ⟨_, rfl⟩
  show codeAny _ _ (.compStart (.ListComp elt [⟨tg, iter, ifs, 0⟩] scope pos) 0 (.ref it) (.ref D) (compEnvC scope (cellsFrom (s3.heap.objs.size + 1) scope.names (cloFrom X.env.cells scope.names [])) s3.heap.objs.size X.env))
    (compEnds (model X.prog X.w) X.A X.xe use Qf (.ref D) (compEnvC scope (cellsFrom (s3.heap.objs.size + 1) scope.names (cloFrom X.env.cells scope.names [])) s3.heap.objs.size X.env)) { s3 with heap := pushCells (s3.heap.push { cls := .type "dict", data := .dict #[] }) scope.names }
  rw [← hH3] at I3 I4 w0 f3
  rw [← hce, ← hs4] at I4 ⊢
  have cL : ce.locals = s3.heap.objs.size := by rw [hce]; rfl
  have cF : ce.frame = X.env.frame := by rw [hce]; rfl
  have cN : X.env.locals ≠ ce.locals := by rw [cL]; exact Nat.ne_of_lt lt3
  have pg : PG (X.blk s3 H3 scope ce fp) tg g := by rw [hce]; exact hg _ _ _ _ _
  have pt : PTs (X.blk s3 H3 scope ce fp) ifs tt := by rw [hce]; exact ht _ _ _ _ _
  have pe : PE (blkE X s3 H3 scope ce fp fun cls d H => W cls d σ H) elt (te fun cls d H => W cls d σ H) := by rw [hce]; exact he _ _ _ _ _ _
  have n3 : ∀ b ∈ fp, H3 b = none := fun b hb => (f3 b hb).1.1
  have st4 : tn 0 s4.heap := T.keep _ _ _ st3 fun b _ o e => by rw [hs4]; exact pushCells_keeps _ _ _ _ (Heap.get?_push_of_some _ e)
  have stat : ∀ {σ' : L2.St} {H' : Hp} {s' : Shared}, Inv (X.blk s3 H3 scope ce fp) [] σ' H' s' → (∀ b ∈ fp, H' b = none) → ∀ b ∈ fp, FpOk (X.blk s3 H3 scope ce fp) [] H' b := fun {σ' H' s'} I' hn b hb =>
    ⟨hn b hb, (I'.ok.exf b hb).1, I'.ok.exfs b hb, .inl hb, (I'.ok.exf b hb).2, fun p hp => by have hp : p ∈ ([] : List (Addr × Obj)) ++ [] := hp; simp at hp⟩
  have loop : codeAny (model X.prog X.w) X.A (.compLoop (.ListComp elt [⟨tg, iter, ifs, 0⟩] scope pos) 0 (.ref it) (.ref D) ce) (compEnds (model X.prog X.w) X.A X.xe use Qf (.ref D) ce) s4 := by
    refine compLoop_any (fun n s' => ∃ i H', Inv (X.blk s3 H3 scope ce fp) [] (wipe σ (own.map (·.2))) H' s' ∧ tn i s'.heap ∧ (∀ b ∈ fp, H' b = none) ∧ V i n H') ?_ m0 ⟨0, H3, I4, st4, n3, w0⟩
    rintro n s5 ⟨i, H5, I5, st5, n5, w5⟩
    rcases turn i n H5 w5 with ⟨stop, qq⟩ | ⟨go, Nx, hNx, step⟩
    · refine thnF (T.done (X.blk s3 H3 scope ce fp) rfl rfl rfl hc i [] s5 _ H5 (fun _ _ => False) I5 (stat I5 n5) st5 stop) fun r s6 ⟨hr, I6⟩ => ?_
      subst hr
      have nC : H5 s3.heap.objs.size = none := by rw [← cL]; exact I6.free
      obtain ⟨m, hn, _⟩ := I6.loc
      have hn : s6.heap.Ns ce.locals m := hn
      rw [cL] at hn
      exact fin D _ ce s6 m H5 cL (I3.call' (ch := fp) I6.os I6.base I6.hok I6.bare hch) qq hn (I3.fpOk (Nat.le_refl _) nC)
    · refine thnF (T.item (X.blk s3 H3 scope ce fp) rfl rfl rfl hc i [] s5 _ H5 (fun _ _ => False) I5 (stat I5 n5) st5 go) fun r s6 ⟨u, hr, h6⟩ => ?_
      subst hr
      refine thnF h6 fun _ s7 ⟨x, H7, I7, r7, y7, st7, n7⟩ => ?_
      have I7p := I7.pinned (stat I7 n7) (T.obj _ _ st7)
      refine thnF (pg.run _ s7 _ H7 x u _ I7p r7 (step x H7 y7)) fun _ s8 ⟨σ8, H8, I8, hw8, q8⟩ => thnF (pt.run _ s8 σ8 H8 _ I8 q8) fun b s9 ⟨H9, I9, q9⟩ => ?_
      have again : ∀ {s' : Shared} {H' : Hp}, Inv (X.blk s3 H3 scope ce fp) ([] ++ pinsAt fp s7.heap) σ8 H' s' → Nx H' → ∃ m, m < n ∧ ∃ i H', Inv (X.blk s3 H3 scope ce fp) [] (wipe σ (own.map (·.2))) H' s' ∧ tn i s'.heap ∧ (∀ b ∈ fp, H' b = none) ∧ V i m H' := fun {s' H'} I' nx => by
        obtain ⟨m', hm, w'⟩ := hNx H' nx
        have kept : ∀ b ∈ fp, ∀ o, s7.heap.get? b = some o → s'.heap.get? b = some o ∧ H' b = none := fun b hb o e =>
          have z := I'.pin (b, o) (List.mem_append_right _ (List.mem_append_right _ (mem_pinsAt hb e)))
          ⟨z.1, z.2.1⟩
        refine ⟨m', hm, i + 1, H', (I'.unpinned (pins := [])).weak (by rw [← hw8, wipe_length]) (fun j v e => by rw [← hw8] at e; exact (wipe_some e).1), T.keep _ _ _ st7 fun b hb o e => (kept b hb o e).1, fun b hb => ?_, w'⟩
        obtain ⟨o, e, _⟩ := T.obj _ _ st7 b hb
        exact (kept b hb o e).2
      cases b with
      | false =>
        rw [if_neg Bool.false_ne_true] at q9 ⊢
        exact again I9 q9
      | true =>
        rw [if_pos rfl] at q9 ⊢
        refine wpAny_mono (pe.run _ s9 σ8 H9 _ (toE I9) q9) (fun z s10 ⟨yv, H10, I10, r10, acc, hD10, hz10, nx⟩ => ?_) fun u s10 ⟨pe', σe, He, se, Ie, ce'⟩ => blk_fails tk hst hfm cF cN I3 hch Ie ce' fun _ _ _ z => z
        exact app_ok (X := X.blk s3 H3 scope ce fp) (ofE I10) hD10 hz10 r10 fun s11 I11 => again I11 nx
  exact codeAny_compStart_list loop (T.self X.A 0 _ _ _ st4 loop)
section
variable {X : Cx} {W : WX} {elt tg iter : Expr} {ifs : List Expr} {scope : Scope} {own : List (Str × Nat)} {pos : Pos} {wi : TI} {g : TG} {tt : TT} {te : XK → TE}
theorem pe_lcX (tk : Takes X W) (hst : X.stack = X.env :: X.outer) (hfm : X.env.frame = some X.env.locals) (hc : X.calm = true) (nd : X.N.Nodup) (hi : PI X tg iter wi) (ok : BlkOk X.N X.env.scope scope own)
    (hg : ∀ s H C cl fp, PG (X.blk s H scope (compEnvC scope cl C X.env) fp) tg g) (ht : ∀ s H C cl fp, PTs (X.blk s H scope (compEnvC scope cl C X.env) fp) ifs tt)
    (he : ∀ s H C cl fp E, PE (blkE X s H scope (compEnvC scope cl C X.env) fp E) elt (te E)) (hfo : ∀ x, foldedSetIterable iter X.env x = pure x := by intro _; rfl) :
    PE X (.ListComp elt [⟨tg, iter, ifs, 0⟩] scope pos) (tLcX wi g tt te (own.map (·.2)) W) := ⟨fun pins s σ H Q I h => by
  rw [eval_ListComp]
  refine lcx_core tk hst hfm hc nd I hi ok hg ht he hfo h fun D C ce s' m H' eC I' q hn f => ?_
  subst eC
  refine ⟨m, hn, fun h2 sb => ⟨.ref D, H', I'.turned (t' := s'.toks) (fun b o hb e => (sb.2 b hb).trans e) f.1 f.2.1 f.2.2.2.1 f.2.2.2.2.1 f.2.2.2.2.2, rfl, q⟩⟩⟩
theorem ps_setLcX {i : Nat} {y : Str} {py spos : Pos} (tk : Takes X W) (hst : X.stack = X.env :: X.outer) (hfm : X.env.frame = some X.env.locals) (hc : X.calm = true) (nd : X.N.Nodup) (hy : X.N[i]? = some y) (hyl : X.env.scope.names.lookup y = some .local)
    (hsw : swapsWith (.ListComp elt [⟨tg, iter, ifs, 0⟩] scope pos) (some (.Name y py)) spos.line X.env = pure true) (hi : PI X tg iter wi) (ok : BlkOk X.N X.env.scope scope own)
    (hg : ∀ s H C cl fp, PG (X.blk s H scope (compEnvC scope cl C X.env) fp) tg g) (ht : ∀ s H C cl fp, PTs (X.blk s H scope (compEnvC scope cl C X.env) fp) ifs tt)
    (he : ∀ s H C cl fp E, PE (blkE X s H scope (compEnvC scope cl C X.env) fp E) elt (te E)) (hfo : ∀ x, foldedSetIterable iter X.env x = pure x := by intro _; rfl) :
    PS X (.Assign [.Name y py] (.ListComp elt [⟨tg, iter, ifs, 0⟩] scope pos) spos) (tAsg (tLcX wi g tt te (own.map (·.2)) W) (gName i)) := ⟨fun pins s σ H D I h => by
  rw [exec_Assign_Name_used _ _ _ _ hsw]
  refine wpAny_bind (wpAny_standAt (wpAny_bind ?_))
  show wpAny _ X.A (do let _ ← comprehension (.ListComp elt [⟨tg, iter, ifs, 0⟩] scope pos) scope X.env (firstIterPos [⟨tg, iter, ifs, 0⟩] pos) (newList []) false (eval iter X.env) (some (assign (.Name y py) X.env))) _ _ s
  refine wpAny_bind (thn (lcx_core (Q := fun x H1 => gName i x σ H1 D.nx) (Qf := fun _ s' => SP X pins D .next s') tk hst hfm hc nd I hi ok hg ht he hfo h fun L C ce s' m H' eC I' q hn f => ?_) fun _ s' hq => wpAny_pure (wpAny_pure hq))
  subst eC
  show wpAny _ _ (assign (.Name y py) X.env (.ref L)) _ _ _
  refine wpAny_assign_Name (store_ok2 (v := V.ref L) I' nd hy (.inl hyl) rfl (fun s2 I2 ⟨a, sb, ha⟩ => ?_) (.inr hyl))
  have ne : ce.locals ≠ a := ha.elim (fun z => by rw [z]; exact f.2.1) fun z e => f.2.2.2.2.1 y a z e.symm
  exact ⟨m, hn.sameBut sb ne, fun h3 sb3 => ⟨_, H', I2.turned (t' := s2.toks) (fun b o hb e => (sb3.2 b hb).trans e) f.1 f.2.1 f.2.2.2.1 f.2.2.2.2.1 f.2.2.2.2.2, q⟩⟩⟩
end
end My
set_option Elab.async false
set_option linter.all false
set_option autoImplicit false
set_option maxRecDepth 100000
set_option maxHeartbeats 2000000
/-! F3: itertools.combinations of a text -/
namespace Cmb
open PySem PySem.Spec
abbrev T0 : String := "itertools.combinations"
theorem mro_c : mroOf (.type T0) = pure [.type T0, .type "object"] := by rw [mroOf_type]; kernel_rfl
theorem look_new : typeLookup (.type T0) "__new__" = pure (some (.builtin "itertools.combinations.__new__")) := by rw [typeLookup_type, builtinLookup_eq_fast]; kernel_rfl
theorem sub_c : isSubtype (.type T0) (.type T0) = pure true := by rw [isSubtype_type]; kernel_rfl
theorem slot_init : Slot T0 "__init__" "object.__init__" := .of (owner := "object") (n := "__init__") (by rw [typeLookup_type, builtinLookup_eq_fast]; kernel_rfl) (by decide +kernel) (by decide +kernel) (by decide +kernel) (by first | exact .inl (by decide +kernel) | exact .inr (by decide +kernel)) (by rw [isSubtype_type]; kernel_rfl)
theorem slot_iter : Slot T0 "__iter__" "itertools.combinations.__iter__" := .of (owner := T0) (n := "__iter__") (by rw [typeLookup_type, builtinLookup_eq_fast]; kernel_rfl) (by decide +kernel) (by decide +kernel) (by decide +kernel) (by first | exact .inl (by decide +kernel) | exact .inr (by decide +kernel)) sub_c
theorem slot_next : Slot T0 "__next__" "itertools.combinations.__next__" := .of (owner := T0) (n := "__next__") (by rw [typeLookup_type, builtinLookup_eq_fast]; kernel_rfl) (by decide +kernel) (by decide +kernel) (by decide +kernel) (by first | exact .inl (by decide +kernel) | exact .inr (by decide +kernel)) sub_c
theorem called : TypeCalled T0 "itertools.combinations.__new__" "object.__init__" := ⟨by decide +kernel, by decide +kernel, ⟨_, _, mro_c⟩, madeBy_type mro_c look_new (by decide +kernel), by decide +kernel, sub_c, slot_init⟩
theorem chk_type (a b : Value) : checkTypeCall T0 ⟨[a, b], []⟩ = pure () := by kernel_rfl
theorem chk_new (a b : Value) : checkBuiltinCall "itertools.combinations.__new__" ⟨[.type T0, a, b], []⟩ = pure () := by kernel_rfl
theorem ent_new : entryFor table "itertools.combinations.__new__" = some Builtin.«itertools.combinations.__new__» := entryFor_of_tree (by kernel_rfl)
theorem ent_next : entryFor table "itertools.combinations.__next__" = some Builtin.«itertools.combinations.__next__» := entryFor_of_tree (by kernel_rfl)
theorem ent_iter : entryFor table "itertools.combinations.__iter__" = some Builtin.«dict_keyiterator.__iter__» := entryFor_alias (id' := "dict_keyiterator.__iter__") (by kernel_rfl) (by first | rfl | decide +kernel | (unfold String.splitOn; simp +decide [String.splitOnAux])) (by decide +kernel) (by kernel_rfl)
theorem owner_c : Manifest.owners.lookup (String.ofList ['s', 'n', 'o', 'i', 't', 'a', 'n', 'i', 'b', 'm', 'o', 'c', '.', 's', 'l', 'o', 'o', 't', 'r', 'e', 't', 'i'].reverse) = some Manifest.sig_itertools_combinations := by kernel_rfl
theorem args_iter (a : Value) : argsOk "itertools.combinations.__iter__" ⟨[a], []⟩ := by
  unfold argsOk; rw [signature?_of (id := "itertools.combinations.__iter__") (n := ['_', '_', 'r', 'e', 't', 'i', '_', '_']) (o := ['s', 'n', 'o', 'i', 't', 'a', 'n', 'i', 'b', 'm', 'o', 'c', '.', 's', 'l', 'o', 'o', 't', 'r', 'e', 't', 'i']) (by kernel_rfl) owner_c]; kernel_rfl
theorem args_next (a : Value) : argsOk "itertools.combinations.__next__" ⟨[a], []⟩ := by
  unfold argsOk; rw [signature?_of (id := "itertools.combinations.__next__") (n := ['_', '_', 't', 'x', 'e', 'n', '_', '_']) (o := ['s', 'n', 'o', 'i', 't', 'a', 'n', 'i', 'b', 'm', 'o', 'c', '.', 's', 'l', 'o', 'o', 't', 'r', 'e', 't', 'i']) (by kernel_rfl) owner_c]; kernel_rfl
theorem noDict_c : typeHasDict (.type T0) = false := by decide +kernel
theorem bind_c (a b : Value) : Builtin.Itertools.itBindNamed "combinations" ["iterable", "r"] 2 2 [a, b] [] = pure [some a, some b] := by kernel_rfl
/-- the object: the pool's place, its state, what it gave last, the indices -/
abbrev Is (h : Heap) (it pool : Addr) (st : Int) (last : Value) (ix : List Nat) : Prop := h.get? it = some { cls := .type T0, dict := none, data := .fields ([.ref pool, rawInt st, last] ++ ix.map fun (i : Nat) => rawInt i).toArray, slots := #[] }
abbrev NewSpec (z : Str) (r : Nat) : Spec := fun A R s => A.handled = none ∧ z.cps.size ≤ 1000 ∧ r ≤ z.cps.size ∧ ∀ (hm h' : Heap) (t' : Nat) (pool it : Addr) (items : Array Value),
  (∀ b o, s.heap.get? b = some o → hm.get? b = some o) → (∀ b o, hm.get? b = some o → h'.get? b = some o) → hm.objs.size ≤ pool → pool ≠ it → hm.objs.size ≤ it → h'.get? pool = some { cls := .type "tuple", data := .seq items } →
  ItemsOf (SignAt z) items z.cps.size → Is h' it pool 0 .none (List.range r) → R (.ok (.ret (.ref it))) { s with heap := h', toks := t' }
theorem meets_new (z : Str) (r : Nat) (t u : Tok) : Meets (Builtin.«itertools.combinations.__new__» ⟨[.type T0, .str z t, .int r u], []⟩) (NewSpec z r) := .of_wp fun prog w A R s h => by
  obtain ⟨hh, hz, hr, h⟩ := h
  obtain ⟨hp, g, dd, tk, os⟩ := s
  have hsub := sub_c
  have hd := noDict_c
  repeat (first
    | wp_step
    | simp only [List.head?_cons, Option.some_or, List.getElem?_cons_succ, List.getElem?_cons_zero, List.length_cons, List.length_nil, List.forIn_nil])
  have eT : ("itertools." ++ "combinations" : String) = T0 := by decide +kernel
  rw [eT]
  refine wpAny_of_eq hsub ?_
  refine wpAny_ite_false (by decide) ?_
  refine wpAny_pure ?_
  refine wpAny_bind (wpAny_of_eq (bind_c _ _) ?_)
  have nb : ¬ ((decide ((r : Int) < -(2 ^ 63 : Int)) || decide ((r : Int) ≥ 2 ^ 63)) = true) := by
    have a : decide ((r : Int) < -(2 ^ 63 : Int)) = false := decide_eq_false (by omega)
    have b : decide ((r : Int) ≥ 2 ^ 63) = false := decide_eq_false (by omega)
    rw [a, b]; decide
  have nr : ¬ ((r : Int) < 0) := by omega
  have nm : ¬ (Builtin.Itertools.itTooMany (r : Int) = true) := by
    unfold Builtin.Itertools.itTooMany
    rw [decide_eq_true_iff]
    omega
  refine wpAny_bind ?_
  unfold Builtin.Itertools.itSsizeArg
  repeat (first | wp_step)
  refine wpAny_ite_false (decide_eq_false nb) ?_
  refine wpAny_pure (wpAny_bind ?_)
  refine wpAny_collect_str (show A.in1.handled = none from hh) z t (fun s' acc hk hg hd2 ho hit => ?_) (Nat.le_trans hz (by decide))
  refine wpAny_ite_false (decide_eq_false nr) (wpAny_ite_false (decide_eq_false nm) ?_)
  have hs : acc.toList.length ≤ sizeLine := by rw [Array.length_toList, hit.1]; exact Nat.le_trans hz (by decide)
  refine wpAny_bind (wpAny_newTuple ?_ hs)
  refine wpAny_pure ?_
  have nl : ¬ (r > acc.toList.length) := by rw [Array.length_toList, hit.1]; omega
  have e : ([Value.ref s'.heap.objs.size, rawInt (if (r : Int).toNat > acc.toList.length then 2 else 0), Value.none] ++ List.map (fun (i : Nat) => rawInt i) (List.range (r : Int).toNat)) = [Value.ref s'.heap.objs.size, rawInt 0, Value.none] ++ List.map (fun (i : Nat) => rawInt i) (List.range r) := by
    rw [Int.toNat_natCast, if_neg nl]
  show wpAny _ _ (Builtin.Itertools.itNewRecord _ _ >>= _) _ _ _
  rw [e]
  unfold Builtin.Itertools.itNewRecord
  rw [show (!typeHasDict (Value.type T0)) = true from by rw [hd]; rfl, if_pos rfl]
  obtain ⟨hm, g2, dd2, tk2, os2⟩ := s'
  obtain rfl : g2 = g := hg
  obtain rfl : dd2 = dd := hd2
  obtain rfl : os2 = os := ho
  refine wpAny_bind (wpAny_newObj_type ?_ ?_)
  · refine wpAny_pure ⟨_, rfl, ?_⟩
    have k1 : ∀ b o, hm.get? b = some o → (hm.push { cls := Value.type "tuple", data := Data.seq acc.toList.toArray }).get? b = some o := fun b o q => Heap.get?_push_of_some _ q
    refine h hm _ _ hm.objs.size _ acc.toList.toArray hk (fun b o q => Heap.get?_push_of_some _ (k1 b o q)) (Nat.le_refl _) ?_ ?_ ?_ (by rw [Array.toArray_toList]; exact hit) ?_
    · show hm.objs.size ≠ (hm.push _).objs.size
      rw [Heap.size_push]
      exact Nat.ne_of_lt (Nat.lt_succ_self _)
    · show hm.objs.size ≤ (hm.push _).objs.size
      rw [Heap.size_push]
      exact Nat.le_succ _
    · exact Heap.get?_push_of_some _ (Heap.get?_push_size _ rfl)
    · exact Heap.get?_push_size _ rfl
  · show (List.toArray _).size ≤ sizeLine + 2
    rw [List.size_toArray, List.length_append, List.length_map, List.length_range]
    exact Nat.le_trans (Nat.add_le_add_left (Nat.le_trans hr hz) 3) (by decide)
section
variable {prog : Program} {w : World} {A : Around} {E : Value → Shared → Prop} {s : Shared}
theorem call_c {z : Str} {r : Nat} {t u : Tok} {Q : Value → Shared → Prop} (hh : A.handled = none) (hz : z.cps.size ≤ 1000) (hr : r ≤ z.cps.size)
    (h : ∀ (hm h' : Heap) (t' : Nat) (pool it : Addr) (items : Array Value), (∀ b o, s.heap.get? b = some o → hm.get? b = some o) → (∀ b o, hm.get? b = some o → h'.get? b = some o) → hm.objs.size ≤ pool → pool ≠ it → hm.objs.size ≤ it → h'.get? pool = some { cls := .type "tuple", data := .seq items } →
      ItemsOf (SignAt z) items z.cps.size → Is h' it pool 0 .none (List.range r) → Q (.ref it) { s with heap := h', toks := t' }) :
    wpAny (model prog w) A (call (.type T0) [.str z t, .int r u]) Q E s := by
  refine callType_new called (by decide +kernel) (chk_type _ _) (chk_new _ _) (fun obj => F.args_object_init_3 obj _ _) ent_new (meets_new z r t u) ?_
  refine ⟨show A.in1.handled = none from hh, hz, hr, fun hm h' t' pool it items k1 k2 h1 h2 h3 h4 h5 h6 => ?_⟩
  show _ ∧ _
  exact ⟨⟨_, h6, rfl⟩, h hm h' t' pool it items k1 k2 h1 h2 h3 h4 h5 h6⟩
theorem iter_c {it pool : Addr} {st : Int} {last : Value} {ix : List Nat} {Q : Value → Shared → Prop} (hit : Is s.heap it pool st last ix) (h : Q (.ref it) s) : wpAny (model prog w) A (pyIter (.ref it)) Q E s := by
  have hT : s.TypeIs (.ref it) T0 := ⟨_, hit, rfl⟩
  refine wpAny_pyIter_slot hT slot_iter (wpAny_call_entry slot_iter hT ent_iter ?_ (args_iter _))
  show wpAny _ _ (ret (.ref it)) _ _ s
  exact wpAny_pure ⟨_, rfl, T0, _, hT, slot_next.lookup, h⟩
/-- one step of the indices -/
def stC : Nat → List Nat → Option (List Nat) := (show { f : Nat → List Nat → Option (List Nat) // ∃ nb : (Nat → List Nat → Option (List Nat)) → Builtin, Builtin.«itertools.combinations.__next__» = nb f } from ⟨_, _, rfl⟩).1
example : stC 4 [0, 1] = some [0, 2] := by decide +kernel
example : stC 4 [2, 3] = none := by decide +kernel
theorem numbers {it pool : Addr} {st : Int} {last : Value} {ix : List Nat} {Q : List Nat → Shared → Prop} (hit : Is s.heap it pool st last ix) (h : Q ix s) : wpAny (model prog w) A (Builtin.Itertools.itNumbersFrom (.ref it) 3) Q E s := by
  unfold Builtin.Itertools.itNumbersFrom
  refine wpAny_bind (wpAny_load hit (wpAny_of_eq (a := ix) ?_ h))
  show pure (List.map _ (ix.map fun (i : Nat) => rawInt i)) = (pure ix : Sem (List Nat))
  rw [List.map_map]
  exact congrArg pure (List.map_id'' (fun i => Int.toNat_natCast i) ix)
/-- what a turn gives -/
abbrev Given (s : Shared) (it pool : Addr) (st : Int) (ix : List Nat) (items : Array Value) (Q : Value → Shared → Prop) : Prop := ∀ h' T, h'.get? T = some { cls := .type "tuple", data := .seq (ix.map fun i => items.getD i .none).toArray } → s.heap.objs.size ≤ T → Is h' it pool st (.ref T) ix → (∀ b o, b ≠ it → s.heap.get? b = some o → h'.get? b = some o) → Q (.ref T) { s with heap := h' }
theorem hand {it pool : Addr} {st : Int} {last : Value} {ix : List Nat} {items : Array Value} {m : Sem Value} {Q : Fin → Shared → Prop} (hit : Is s.heap it pool st last ix) (hp : s.heap.get? pool = some { cls := .type "tuple", data := .seq items }) (hl : ix.length ≤ 1000)
    (hm : m = (Builtin.Itertools.itPoolItems (.ref pool) >>= fun xs => newTuple (ix.map fun i => xs.getD i .none))) (hQ : Given s it pool st ix items fun v s' => Q (.done (.ret v)) s') :
    wpAny (model prog w) A (m >>= fun r => field (.ref it) 2 >>= fun b => setField (.ref it) 2 r >>= fun _ => letGo [b] [r] >>= fun _ => ret r) Q E s := by
  subst hm
  refine wpAny_bind (wpAny_bind ?_)
  unfold Builtin.Itertools.itPoolItems
  refine wpAny_bind (wpAny_seqItems hp rfl (wpAny_pure ?_))
  refine wpAny_newTuple ?_ (by rw [List.length_map]; exact Nat.le_trans hl (by decide))
  have hit2 := Heap.get?_push_of_some (h := s.heap) { cls := .type "tuple", data := .seq (ix.map fun i => items.getD i .none).toArray } hit
  refine wpAny_bind (wpAny_field hit2 rfl (x := last) rfl ?_)
  refine wpAny_bind (wpAny_setField hit2 rfl (by simp) ?_)
  refine wpAny_bind (wpAny_letGo (wpAny_pure ?_))
  have ne : it ≠ s.heap.objs.size := Nat.ne_of_lt (Heap.lt_size hit)
  refine hQ _ _ ?_ (Nat.le_refl _) ?_ fun b o hb q => ?_
  · rw [Heap.get?_update_other _ _ ne]
    exact Heap.get?_push_size _ rfl
  · exact Heap.get?_update_self _ hit2 rfl
  · rw [Heap.get?_update_other _ _ (Ne.symm hb)]
    exact Heap.get?_push_of_some _ q
theorem Given.step {s2 : Shared} {it pool : Addr} {st : Int} {ix : List Nat} {items : Array Value} {Q : Value → Shared → Prop} (h : Given s it pool st ix items Q) (z : s.heap.objs.size = s2.heap.objs.size) (k : ∀ b o, b ≠ it → s.heap.get? b = some o → s2.heap.get? b = some o) (e : s2 = { s with heap := s2.heap }) : Given s2 it pool st ix items Q := fun h' T h1 h2 h3 h4 => by
  rw [e]
  exact h h' T h1 (by rw [z]; exact h2) h3 fun b o hb q => h4 b o hb (k b o hb q)
theorem next_first {it pool : Addr} {last : Value} {ix : List Nat} {items : Array Value} {Q : Option Value → Shared → Prop} (hit : Is s.heap it pool 0 last ix) (hne : pool ≠ it) (hp : s.heap.get? pool = some { cls := .type "tuple", data := .seq items }) (hl : ix.length ≤ 1000)
    (hQ : Given s it pool 1 ix items fun v s' => Q (some v) s') : wpAny (model prog w) A (callSpecial? (.ref it) "__next__") Q E s := by
  have hT : s.TypeIs (.ref it) T0 := ⟨_, hit, rfl⟩
  refine wpAny_callSpecial?_slot (name := Str.ofString "__next__") hT slot_next (wpAny_call_entry slot_next hT ent_next ?_ (args_next _))
  show wpAny _ _ (field (.ref it) 0 >>= _) _ _ s
  refine wpAny_bind (wpAny_field hit rfl (x := .ref pool) rfl (wpAny_bind (numbers hit ?_)))
  dsimp only
  refine wpAny_bind (m := Builtin.Itertools.itIntField _ _) (wpAny_bind (wpAny_field hit rfl (x := rawInt 0) rfl (wpAny_pure ?_)))
  refine wpAny_bind (wpAny_setField hit rfl (by simp) ?_)
  have hit2 : Is (s.heap.update it (Obj.mapFields fun x => x.setIfInBounds 1 (rawInt 1))) it pool 1 last ix := Heap.get?_update_self _ hit rfl
  have k2 : ∀ b o, b ≠ it → s.heap.get? b = some o → (s.heap.update it (Obj.mapFields fun x => x.setIfInBounds 1 (rawInt 1))).get? b = some o := fun b o hb q => by rw [Heap.get?_update_other _ _ (Ne.symm hb)]; exact q
  refine hand hit2 (k2 _ _ hne hp) hl rfl fun h' T h1 h2 h3 h4 => ⟨_, rfl, ?_⟩
  exact hQ h' T h1 (by rw [Heap.size_update] at h2; exact h2) h3 fun b o hb q => h4 b o hb (k2 b o hb q)
theorem next_more {it pool : Addr} {last : Value} {ix ix2 : List Nat} {items : Array Value} {Q : Option Value → Shared → Prop} (hit : Is s.heap it pool 1 last ix) (hne : pool ≠ it) (hp : s.heap.get? pool = some { cls := .type "tuple", data := .seq items }) (hl : ix2.length ≤ 1000) (hs : stC items.size ix = some ix2)
    (hQ : Given s it pool 1 ix2 items fun v s' => Q (some v) s') : wpAny (model prog w) A (callSpecial? (.ref it) "__next__") Q E s := by
  have hT : s.TypeIs (.ref it) T0 := ⟨_, hit, rfl⟩
  refine wpAny_callSpecial?_slot (name := Str.ofString "__next__") hT slot_next (wpAny_call_entry slot_next hT ent_next ?_ (args_next _))
  show wpAny _ _ (field (.ref it) 0 >>= _) _ _ s
  refine wpAny_bind (wpAny_field hit rfl (x := .ref pool) rfl (wpAny_bind (numbers hit ?_)))
  dsimp only
  refine wpAny_bind (m := Builtin.Itertools.itIntField _ _) (wpAny_bind (wpAny_field hit rfl (x := rawInt 1) rfl (wpAny_pure ?_)))
  refine wpAny_bind (m := Builtin.Itertools.itPoolItems _) (wpAny_bind (wpAny_seqItems hp rfl (wpAny_pure ?_)))
  show wpAny _ _ (match stC items.size ix with | some n => _ | none => _) _ _ _
  rw [hs]
  dsimp only
  have hit2 : Is (s.heap.update it (Obj.mapFields fun fs => fs.extract 0 3 ++ (ix2.map fun (n : Nat) => rawInt n).toArray)) it pool 1 last ix2 := by
    refine (Heap.get?_update_self _ hit rfl).trans ?_
    have z : (([Value.ref pool, rawInt 1, last] ++ ix.map fun (i : Nat) => rawInt i).toArray.extract 0 3 ++ (ix2.map fun (n : Nat) => rawInt n).toArray) = ([Value.ref pool, rawInt 1, last] ++ ix2.map fun (i : Nat) => rawInt i).toArray := by
      apply Array.toList_inj.mp
      simp
    exact congrArg (fun x => some ({ cls := .type T0, dict := none, data := .fields x, slots := #[] } : Obj)) z
  have k2 : ∀ b o, b ≠ it → s.heap.get? b = some o → (s.heap.update it (Obj.mapFields fun fs => fs.extract 0 3 ++ (ix2.map fun (n : Nat) => rawInt n).toArray)).get? b = some o := fun b o hb q => by rw [Heap.get?_update_other _ _ (Ne.symm hb)]; exact q
  refine wpAny_bind (m := Builtin.Itertools.itSetNumbersFrom _ _ _) (wpAny_updateFields hit rfl ?_ ?_)
  · refine hand hit2 (k2 _ _ hne hp) hl rfl fun h' T h1 h2 h3 h4 => ⟨_, rfl, ?_⟩
    exact hQ h' T h1 (by rw [Heap.size_update] at h2; exact h2) h3 fun b o hb q => h4 b o hb (k2 b o hb q)
  · have : 1000 ≤ sizeLine := by decide
    have z2 : (ix2.map fun (n : Nat) => rawInt n).toArray.size = ix2.length := by simp
    have z3 : (([Value.ref pool, rawInt 1, last] ++ ix.map fun (i : Nat) => rawInt i).toArray.extract 0 3).size ≤ 3 := by
      rw [Array.size_extract]
      omega
    rw [Array.size_append, z2]
    omega
theorem next_end {it pool : Addr} {last : Value} {ix : List Nat} {items : Array Value} {Q : Option Value → Shared → Prop} (hh : A.handled = none) (hit : Is s.heap it pool 1 last ix) (hne : pool ≠ it) (hp : s.heap.get? pool = some { cls := .type "tuple", data := .seq items }) (hs : stC items.size ix = none)
    (hQ : ∀ h' e o, (∀ b o, b ≠ it → s.heap.get? b = some o → h'.get? b = some o) → h'.get? e = some o → o.cls = .type "StopIteration" → E (.ref e) { s with heap := h' }) : wpAny (model prog w) A (callSpecial? (.ref it) "__next__") Q E s := by
  have hT : s.TypeIs (.ref it) T0 := ⟨_, hit, rfl⟩
  refine wpAny_callSpecial?_slot (name := Str.ofString "__next__") hT slot_next (wpAny_call_entry slot_next hT ent_next ?_ (args_next _))
  show wpAny _ _ (field (.ref it) 0 >>= _) _ _ s
  refine wpAny_bind (wpAny_field hit rfl (x := .ref pool) rfl (wpAny_bind (numbers hit ?_)))
  dsimp only
  refine wpAny_bind (m := Builtin.Itertools.itIntField _ _) (wpAny_bind (wpAny_field hit rfl (x := rawInt 1) rfl (wpAny_pure ?_)))
  refine wpAny_bind (m := Builtin.Itertools.itPoolItems _) (wpAny_bind (wpAny_seqItems hp rfl (wpAny_pure ?_)))
  show wpAny _ _ (match stC items.size ix with | some n => _ | none => _) _ _ _
  rw [hs]
  dsimp only
  refine wpAny_bind (wpAny_setField hit rfl (by simp) ?_)
  have k2 : ∀ b o, b ≠ it → s.heap.get? b = some o → (s.heap.update it (Obj.mapFields fun x => x.setIfInBounds 1 (rawInt 2))).get? b = some o := fun b o hb q => by rw [Heap.get?_update_other _ _ (Ne.symm hb)]; exact q
  unfold Builtin.Itertools.itStop
  refine wpAny_bind ?_
  simp only [newExc, newTuple]
  refine wpAny_bind (wpAny_newObj_type (wpAny_bind (m := firstArgMember _ _) (wpAny_of_eq (a := Value.none) (by first | rfl | (simp only [firstArgMember]; rfl)) (wpAny_newObj_type ?_ (by size_fits)))) (by size_fits))
  simp only [raiseNew]
  refine wpAny_bind (wpAny_handled ?_)
  rw [show A.in1.handled = none from hh]
  refine wpAny_bind (wpAny_pure (wpAny_throw ?_))
  exact hQ _ _ _ (fun b o hb q => Heap.get?_push_of_some _ (Heap.get?_push_of_some _ (k2 b o hb q))) (Heap.get?_push_size _ rfl) rfl
theorem py_some {it : Addr} {Q : Option Value → Shared → Prop} {Q' : Value → Shared → Prop} (h : wpAny (model prog w) A (callSpecial? (.ref it) "__next__") (fun r s' => ∃ v, r = some v ∧ Q' v s') (fun _ _ => False) s) (k : ∀ v s', Q' v s' → Q (some v) s') : wpAny (model prog w) A (pyNext (.ref it)) Q E s := by
  unfold pyNext
  refine wpAny_bind (wpAny_attempt (wpAny_mono h (fun r s' ⟨v, e, q⟩ => ?_) fun _ _ z => z.elim))
  subst e
  exact wpAny_pure (k v s' q)
theorem py_none {it : Addr} {Q : Option Value → Shared → Prop} (h : wpAny (model prog w) A (callSpecial? (.ref it) "__next__") (fun _ _ => False) (fun e s' => (∃ a o, e = .ref a ∧ s'.heap.get? a = some o ∧ o.cls = .type "StopIteration") ∧ Q none s') s) : wpAny (model prog w) A (pyNext (.ref it)) Q E s := by
  unfold pyNext
  refine wpAny_bind (wpAny_attempt (wpAny_mono h (fun r s' z => z.elim) fun e s' ⟨⟨a, o, ea, ho, hc⟩, q⟩ => ?_))
  subst ea
  exact wpAny_bind (wpAny_isInstance (T := "StopIteration") (b := true) ⟨o, ho, hc⟩ isSubtype_stop (wpAny_pure q))
end
/-! a walk over the combinations -/
section
open PyProof.Rows L2
def signV (z : Str) (k : Nat) : V := match z.cps[k]? with
  | some c => .str ⟨#[c]⟩
  | none => .non
/-- all combinations of r indices below n, in order -/
structure Chain (n r : Nat) (C : List (List Nat)) : Prop where
  first : C[0]? = some (List.range r)
  len : ∀ c ∈ C, c.length ≤ 1000 ∧ ∀ k ∈ c, k < n
  next : ∀ (i : Nat) (c : List Nat), C[i]? = some c → stC n c = C[i + 1]?
def Itc (z : Str) (C : List (List Nat)) : It :=
  ⟨fun i _ => i < C.length, fun i H v H' => ∃ T c, v = .ref T ∧ H T = none ∧ C[i]? = some c ∧ H' = upd H T (.tup (c.map (signV z))), fun i _ => C.length ≤ i⟩
def Tn (z : Str) (C : List (List Nat)) (it pool : Addr) (i : Nat) (h : Heap) : Prop := pool ≠ it ∧ ∃ (items : Array Value) (last : Value) (c : List Nat), h.get? pool = some { cls := .type "tuple", data := .seq items } ∧ ItemsOf (SignAt z) items z.cps.size ∧
  ((i = 0 ∧ C[0]? = some c ∧ Is h it pool 0 last c) ∨ ∃ j, i = j + 1 ∧ C[j]? = some c ∧ Is h it pool 1 last c)
theorem vals_sign {z : Str} {items : Array Value} (hi : ItemsOf (SignAt z) items z.cps.size) : ∀ c : List Nat, (∀ k ∈ c, k < z.cps.size) → Vals (c.map (signV z)) (c.map fun i => items.getD i .none)
  | [], _ => .nil
  | k :: c, h => by
    refine .cons ?_ (vals_sign hi c fun j m => h j (List.mem_cons_of_mem _ m))
    have hk := h k List.mem_cons_self
    have hk2 : k < items.size := by rw [hi.1]; exact hk
    obtain ⟨ch, u, e1, e2⟩ := hi.2 k items[k] (Array.getElem?_eq_getElem hk2)
    have e3 : items.getD k Value.none = items[k] := by simp [Array.getD, hk2]
    show RelV (signV z k) (items.getD k Value.none)
    rw [e3, e2]
    unfold signV
    rw [e1]
    exact ⟨u, rfl⟩
theorem turn_c {P : Program} {w : World} {K : PySem.W.Frag} {tg : Expr} {z : Str} {r : Nat} {C : List (List Nat)} (ch : Chain z.cps.size r C) (it pool : Addr) : Turn P w K tg (Itc z C) [it, pool] it (Tn z C it pool) where
  mem := by simp
  obj := fun i h st b hb => by
    obtain ⟨hne, items, last, c, hp, hit, hs⟩ := st
    have e' : b = it ∨ b = pool := by simpa using hb
    rcases e' with e | e
    · rw [e]
      rcases hs with ⟨_, _, q⟩ | ⟨j, _, _, q⟩ <;> exact ⟨_, q, fun v q => nomatch q⟩
    · rw [e]
      exact ⟨_, hp, fun v q => nomatch q⟩
  keep := fun i h h' st k => by
    obtain ⟨hne, items, last, c, hp, hit, hs⟩ := st
    refine ⟨hne, items, last, c, k pool (by simp) _ hp, hit, hs.imp (fun ⟨a, b, q⟩ => ⟨a, b, k it (by simp) _ q⟩) fun ⟨j, a, b, q⟩ => ⟨j, a, b, k it (by simp) _ q⟩⟩
  item := by
    intro X hP hw hK hc i pins s σ H E I hf st hg
    subst hP hw hK
    obtain ⟨hne, items, last, c, hp, hit, hs⟩ := st
    have hg : i < C.length := hg
    have hd := I.ok.hd hc
    obtain ⟨d, hd2⟩ : ∃ d, C[i]? = some d := ⟨_, List.getElem?_eq_getElem hg⟩
    obtain ⟨l1, l2⟩ := ch.len d (List.mem_of_getElem? hd2)
    have ol : it < s.heap.objs.size := by
      rcases hs with ⟨_, _, q⟩ | ⟨j, _, _, q⟩ <;> exact Heap.lt_size q
    have op : pool < s.heap.objs.size := Heap.lt_size hp
    have key : Given s it pool 1 d items fun u s1 => wpAny (model X.prog X.w) X.A (letOwnedTupleGo tg (.ref it) u) (fun _ s2 => ∃ x H', Inv X pins σ H' s2 ∧ RelV x u ∧ (Itc z C).yld i H x H' ∧ Tn z C it pool (i + 1) s2.heap ∧ ∀ b ∈ [it, pool], H' b = none) E s1 := fun h' T h1 h2 h3 h4 => by
      refine go_of (o := _) h3 rfl rfl (by decide) ?_
      have new : ObjOk X.prog X.w (upd H T (.tup (d.map (signV z)))) h' T (.tup (d.map (signV z))) :=
        ⟨by rw [List.length_map]; exact Nat.le_trans l1 (by decide), _, vals_sign hit d l2, ⟨_, h1, rfl, _, rfl⟩⟩
      have I1 : Inv X pins σ (upd H T (.tup (d.map (signV z)))) { s with heap := h', toks := s.toks } :=
        I.turnedNew (ch := [it]) (fun b ob hb q => h4 b ob (fun z => hb (by simp [z])) q) (fun b hb => hf b (by simp at hb; simp [hb])) h2 new
      refine ⟨.ref T, _, I1, rfl, ⟨T, d, rfl, I.hok.fresh h2, hd2, rfl⟩, ⟨hne, items, .ref T, d, h4 _ _ hne hp, hit, .inr ⟨i, rfl, hd2, h3⟩⟩, fun b hb => ?_⟩
      have hb' : b < s.heap.objs.size := by
        have e' : b = it ∨ b = pool := by simpa using hb
        rcases e' with e | e
        · rw [e]; exact ol
        · rw [e]; exact op
      rw [upd_ne (Nat.ne_of_lt (Nat.lt_of_lt_of_le hb' h2))]
      exact (hf b hb).1
    rcases hs with ⟨rfl, e0, q⟩ | ⟨j, rfl, e0, q⟩
    · rw [e0] at hd2
      cases hd2
      refine py_some (Q' := fun u s1 => wpAny (model X.prog X.w) X.A (letOwnedTupleGo tg (.ref it) u) (fun _ s2 => ∃ x H', Inv X pins σ H' s2 ∧ RelV x u ∧ (Itc z C).yld 0 H x H' ∧ Tn z C it pool (0 + 1) s2.heap ∧ ∀ b ∈ [it, pool], H' b = none) E s1) (next_first q hne hp l1 fun h' T h1 h2 h3 h4 => ⟨_, rfl, key h' T h1 h2 h3 h4⟩) fun v s' h => ⟨v, rfl, h⟩
    · have e1 := ch.next j c e0
      rw [hd2, ← hit.1] at e1
      refine py_some (Q' := fun u s1 => wpAny (model X.prog X.w) X.A (letOwnedTupleGo tg (.ref it) u) (fun _ s2 => ∃ x H', Inv X pins σ H' s2 ∧ RelV x u ∧ (Itc z C).yld (j + 1) H x H' ∧ Tn z C it pool (j + 1 + 1) s2.heap ∧ ∀ b ∈ [it, pool], H' b = none) E s1) (next_more q hne hp l1 e1 fun h' T h1 h2 h3 h4 => ⟨_, rfl, key h' T h1 h2 h3 h4⟩) fun v s' h => ⟨v, rfl, h⟩
  done := by
    intro X hP hw hK hc i pins s σ H E I hf st hg
    subst hP hw hK
    obtain ⟨hne, items, last, c, hp, hit, hs⟩ := st
    have hg : C.length ≤ i := hg
    rcases hs with ⟨rfl, e0, q⟩ | ⟨j, rfl, e0, q⟩
    · rw [List.getElem?_eq_none hg] at e0
      cases e0
    · have e1 := ch.next j c e0
      rw [List.getElem?_eq_none hg, ← hit.1] at e1
      refine py_none (next_end (I.ok.hd hc) q hne hp e1 fun h' e o k ho hc2 => ⟨⟨e, o, rfl, ho, hc2⟩, rfl, ?_⟩)
      obtain ⟨f0, f1, f2, f3, f4, f5⟩ := hf it (by simp)
      exact I.turned (t' := s.toks) (fun b ob hb w => k b ob hb w) f0 f1 f3 f4 f5
  self := fun A i s Q E st h => by
    obtain ⟨hne, items, last, c, hp, hit, hs⟩ := st
    rcases hs with ⟨_, _, q⟩ | ⟨j, _, _, q⟩
    · exact iter_c q h
    · exact iter_c q h
end
end Cmb
set_option Elab.async false
set_option linter.all false
set_option autoImplicit false
set_option maxRecDepth 100000
set_option maxHeartbeats 2000000
/-! B1: data, cells, how they lie in the heap, steps, slots -/
namespace Dl
open PySem PySem.Spec PyProof.Rows L2 Evl
/-- data: what never changes any more; cel n: the n-th changing object -/
inductive D where
  | non | bl (b : Bool) | int (i : Int) | str (z : Str)
  | lst (xs : List D) | tup (xs : List D) | scr (ns : List Int)
  | dct (kv : List (Key × D))
  | obj (C : Str) (fs : List (Str × D))
  | cel (n : Nat)
  | exc (a dd : Addr) (C : Str) (fs : List (Str × D))
  | fn (x : Str)
  | val (x : V)
instance : Inhabited D := ⟨.non⟩
/-- what the changing objects hold -/
abbrev Mu := List (Option D)
/-- classes and defs of the module, by name -/
structure Gx where
  ct : Str → Option Addr
  ft : Str → Option Addr
  /-- isinstance: of a built-in type, of a class, in a class; in a built-in type; what «except» takes -/
  it : String → Str → Option Bool
  ic : Str → Str → Option Bool
  ib : Str → String → Option Bool
  mt : Str → Str → Option Bool
structure Wd where
  S : Hp
  al : Nat → Option Addr
structure Wd.Le (a b : Wd) : Prop where
  s : Ex a.S b.S
  l : ∀ n p, a.al n = some p → b.al n = some p
theorem Wd.Le.refl (a : Wd) : Wd.Le a a := ⟨Ex.refl _, fun _ _ h => h⟩
theorem Wd.Le.trans {a b c : Wd} (h : Wd.Le a b) (g : Wd.Le b c) : Wd.Le a c := ⟨h.s.trans g.s, fun n p e => g.l n p (h.l n p e)⟩
mutual
def Rp (K : PySem.W.Frag) (G : Gx) (w : Wd) : D → V → Prop
  | .non, v => v = .non
  | .bl b, v => v = .bl b
  | .int i, v => v = .int i
  | .str z, v => v = .str z ∧ z.length ≤ sizeLine
  | .lst xs, v => ∃ a vs, v = .ref a ∧ w.S a = some (.lst vs) ∧ Rps K G w xs vs
  | .scr ns, v => ∃ a, v = .ref a ∧ SqL K w.S a (ns.map V.int)
  | .tup xs, v => ∃ a vs, v = .ref a ∧ w.S a = some (.tup vs) ∧ Rps K G w xs vs
  | .dct kv, v => ∃ a ks, v = .ref a ∧ w.S a = some (.dK ks) ∧ Rpk K G w kv ks
  | .obj C fs, v => ∃ a c dx gs, v = .ref a ∧ G.ct C = some c ∧ w.S a = some (.ins c dx gs) ∧ Rpf K G w fs gs
  | .cel n, v => ∃ p, w.al n = some p ∧ v = .ref p
  | .exc a dd C fs, v => v = .ref a ∧ ∃ c gs, G.ct C = some c ∧ w.S dd = some (.xd gs) ∧ Rpf K G w fs gs
  | .fn x, v => ∃ p, G.ft x = some p ∧ v = .ref p
  | .val x, v => v = x
def Rps (K : PySem.W.Frag) (G : Gx) (w : Wd) : List D → List V → Prop
  | [], vs => vs = []
  | d :: ds, vs => ∃ v r, vs = v :: r ∧ Rp K G w d v ∧ Rps K G w ds r
def Rpf (K : PySem.W.Frag) (G : Gx) (w : Wd) : List (Str × D) → List (Str × V) → Prop
  | [], gs => gs = []
  | (f, d) :: fs, gs => ∃ v r, gs = (f, v) :: r ∧ Rp K G w d v ∧ Rpf K G w fs r
def Rpk (K : PySem.W.Frag) (G : Gx) (w : Wd) : List (Key × D) → List (Key × V) → Prop
  | [], gs => gs = []
  | (f, d) :: fs, gs => ∃ v r, gs = (f, v) :: r ∧ Rp K G w d v ∧ Rpk K G w fs r
end
section
variable {K : PySem.W.Frag} {G : Gx}
theorem exl {S S' : Hp} (e : Ex S S') {a : Addr} {xs : List V} (h : SqL K S a xs) : SqL K S' a xs :=
  h.elim (fun h => .inl (h.elim (fun h => .inl (e _ _ h)) fun ⟨o, h⟩ => .inr ⟨o, e _ _ h⟩)) fun h => .inr h
theorem ext {S S' : Hp} (e : Ex S S') {a : Addr} {xs : List V} (h : SqT K S a xs) : SqT K S' a xs :=
  h.elim (fun h => .inl (h.elim (fun h => .inl (e _ _ h)) fun ⟨o, h⟩ => .inr ⟨o, e _ _ h⟩)) fun h => .inr h
mutual
theorem rp_ex {w w' : Wd} (e : Wd.Le w w') : ∀ {d : D} {v : V}, Rp K G w d v → Rp K G w' d v
  | .non, _, h => h
  | .bl _, _, h => h
  | .int _, _, h => h
  | .str _, _, h => h
  | .lst _, _, h => let ⟨a, vs, e1, h1, h2⟩ := h; ⟨a, vs, e1, e.s _ _ h1, rps_ex e h2⟩
  | .scr _, _, h => let ⟨a, e1, h1⟩ := h; ⟨a, e1, exl e.s h1⟩
  | .tup _, _, h => let ⟨a, vs, e1, h1, h2⟩ := h; ⟨a, vs, e1, e.s _ _ h1, rps_ex e h2⟩
  | .dct _, _, h => let ⟨a, vs, e1, h1, h2⟩ := h; ⟨a, vs, e1, e.s _ _ h1, rpk_ex e h2⟩
  | .obj _ _, _, h => let ⟨a, c, dx, gs, e1, e2, h1, h2⟩ := h; ⟨a, c, dx, gs, e1, e2, e.s _ _ h1, rpf_ex e h2⟩
  | .cel _, _, h => let ⟨p, h1, h2⟩ := h; ⟨p, e.l _ _ h1, h2⟩
  | .exc _ _ _ _, _, h => let ⟨e0, c, gs, h0, h1, h2⟩ := h; ⟨e0, c, gs, h0, e.s _ _ h1, rpf_ex e h2⟩
  | .fn _, _, h => h
  | .val _, _, h => h
theorem rps_ex {w w' : Wd} (e : Wd.Le w w') : ∀ {ds : List D} {vs : List V}, Rps K G w ds vs → Rps K G w' ds vs
  | [], _, h => h
  | _ :: _, _, h => let ⟨v, r, e1, h1, h2⟩ := h; ⟨v, r, e1, rp_ex e h1, rps_ex e h2⟩
theorem rpf_ex {w w' : Wd} (e : Wd.Le w w') : ∀ {fs : List (Str × D)} {gs : List (Str × V)}, Rpf K G w fs gs → Rpf K G w' fs gs
  | [], _, h => h
  | (_, _) :: _, _, h => let ⟨v, r, e1, h1, h2⟩ := h; ⟨v, r, e1, rp_ex e h1, rpf_ex e h2⟩
theorem rpk_ex {w w' : Wd} (e : Wd.Le w w') : ∀ {fs : List (Key × D)} {gs : List (Key × V)}, Rpk K G w fs gs → Rpk K G w' fs gs
  | [], _, h => h
  | (_, _) :: _, _, h => let ⟨v, r, e1, h1, h2⟩ := h; ⟨v, r, e1, rp_ex e h1, rpk_ex e h2⟩
end
variable {w : Wd}
theorem rps_len : ∀ {ds : List D} {vs : List V}, Rps K G w ds vs → vs.length = ds.length
  | [], _, h => by
    obtain rfl : _ = [] := h
    rfl
  | _ :: _, _, h => by
    obtain ⟨v, r, rfl, h1, h2⟩ := h
    simp [rps_len h2]
theorem rps_app : ∀ {ds es : List D} {vs ws : List V}, Rps K G w ds vs → Rps K G w es ws → Rps K G w (ds ++ es) (vs ++ ws)
  | [], _, _, _, h, g => by
    obtain rfl : _ = [] := h
    exact g
  | _ :: _, _, _, _, h, g => by
    obtain ⟨v, r, rfl, h1, h2⟩ := h
    exact ⟨v, r ++ _, rfl, h1, rps_app h2 g⟩
theorem rps_get : ∀ {ds : List D} {vs : List V} {i : Nat} {d : D}, Rps K G w ds vs → ds[i]? = some d → ∃ v, vs[i]? = some v ∧ Rp K G w d v
  | [], _, _, _, _, e => by simp at e
  | _ :: _, _, 0, _, h, e => by
    obtain ⟨v, r, rfl, h1, h2⟩ := h
    simp at e; subst e
    exact ⟨v, rfl, h1⟩
  | _ :: _, _, i + 1, _, h, e => by
    obtain ⟨v, r, rfl, h1, h2⟩ := h
    exact rps_get (i := i) h2 (by simpa using e)
theorem rps_getV {ds : List D} {vs : List V} {i : Nat} {v : V} (h : Rps K G w ds vs) (e : vs[i]? = some v) : ∃ d, ds[i]? = some d ∧ Rp K G w d v := by
  have hi : i < ds.length := by
    rw [← rps_len h]
    exact (List.getElem?_eq_some_iff.mp e).1
  obtain ⟨v', e', r⟩ := rps_get h (List.getElem?_eq_getElem hi)
  rw [e] at e'; cases e'
  exact ⟨_, List.getElem?_eq_getElem hi, r⟩
theorem rps_take : ∀ {ds : List D} {vs : List V} (n : Nat), Rps K G w ds vs → Rps K G w (ds.take n) (vs.take n)
  | _, _, 0, _ => rfl
  | [], _, _ + 1, h => by
    obtain rfl : _ = [] := h
    rfl
  | _ :: _, _, n + 1, h => by
    obtain ⟨v, r, rfl, h1, h2⟩ := h
    exact ⟨v, _, rfl, h1, rps_take n h2⟩
theorem rps_drop : ∀ {ds : List D} {vs : List V} (n : Nat), Rps K G w ds vs → Rps K G w (ds.drop n) (vs.drop n)
  | _, _, 0, h => h
  | [], _, _ + 1, h => by
    obtain rfl : _ = [] := h
    rfl
  | _ :: _, _, n + 1, h => by
    obtain ⟨v, r, rfl, h1, h2⟩ := h
    exact rps_drop n h2
theorem rps_one {d : D} {v : V} (h : Rp K G w d v) : Rps K G w [d] [v] := ⟨v, [], rfl, h, rfl⟩
theorem rps_rev : ∀ {ds : List D} {vs : List V}, Rps K G w ds vs → Rps K G w ds.reverse vs.reverse
  | [], _, h => by
    obtain rfl : _ = [] := h
    rfl
  | _ :: _, _, h => by
    obtain ⟨v, r, rfl, h1, h2⟩ := h
    rw [List.reverse_cons, List.reverse_cons]
    exact rps_app (rps_rev h2) (rps_one h1)
theorem rps_set : ∀ {ds : List D} {vs : List V} (i : Nat) {d : D} {v : V}, Rps K G w ds vs → Rp K G w d v → Rps K G w (ds.set i d) (vs.set i v)
  | [], _, _, _, _, h, _ => by
    obtain rfl : _ = [] := h
    rfl
  | _ :: _, _, 0, _, _, h, g => by
    obtain ⟨v, r, rfl, h1, h2⟩ := h
    exact ⟨_, r, rfl, g, h2⟩
  | _ :: _, _, i + 1, _, _, h, g => by
    obtain ⟨v, r, rfl, h1, h2⟩ := h
    exact ⟨v, _, rfl, h1, rps_set i h2 g⟩
theorem rps_replicate {d : D} {v : V} (h : Rp K G w d v) : ∀ n : Nat, Rps K G w (List.replicate n d) (List.replicate n v)
  | 0 => rfl
  | n + 1 => ⟨v, _, rfl, h, rps_replicate h n⟩
theorem rps_flat : ∀ {dss : List (List D)} {vss : List (List V)}, (∀ i : Nat, ∀ ds, dss[i]? = some ds → ∃ vs, vss[i]? = some vs ∧ Rps K G w ds vs) → dss.length = vss.length → Rps K G w dss.flatten vss.flatten
  | [], [], _, _ => rfl
  | [], _ :: _, _, h => by cases h
  | _ :: _, [], _, h => by cases h
  | ds :: dss, vs :: vss, h, l => by
    obtain ⟨vs', e, r⟩ := h 0 ds rfl
    cases e
    exact rps_app r (rps_flat (fun i ds e => h (i + 1) ds e) (by simpa using l))
theorem rpf_look {f : Str} : ∀ {fs : List (Str × D)} {gs : List (Str × V)} {d : D}, Rpf K G w fs gs → fs.lookup f = some d → ∃ v, gs.lookup f = some v ∧ Rp K G w d v
  | [], _, _, _, e => by cases e
  | (g, d) :: fs, _, _, h, e => by
    obtain ⟨v, r, rfl, h1, h2⟩ := h
    rw [List.lookup_cons] at e ⊢
    cases q : (f == g) with
    | true =>
      rw [q] at e
      cases e
      exact ⟨v, rfl, h1⟩
    | false =>
      rw [q] at e
      exact rpf_look h2 e
theorem rpf_none {f : Str} : ∀ {fs : List (Str × D)} {gs : List (Str × V)}, Rpf K G w fs gs → fs.lookup f = none → gs.lookup f = none
  | [], _, h, _ => by
    obtain rfl : _ = [] := h
    rfl
  | (g, d) :: fs, _, h, e => by
    obtain ⟨v, r, rfl, h1, h2⟩ := h
    rw [List.lookup_cons] at e ⊢
    cases q : (f == g) with
    | true =>
      rw [q] at e
      cases e
    | false =>
      rw [q] at e
      exact rpf_none h2 e
theorem rpf_len : ∀ {fs : List (Str × D)} {gs : List (Str × V)}, Rpf K G w fs gs → gs.length = fs.length
  | [], _, h => by
    obtain rfl : _ = [] := h
    rfl
  | (g, x) :: r, _, h => by
    obtain ⟨u, s, rfl, h1, h2⟩ := h
    simp [rpf_len h2]
/-! what a cell holds; the state -/
def CelC (K : PySem.W.Frag) (G : Gx) (w : Wd) (H : Hp) (p : Addr) : D → Prop
  | .lst xs => ∃ vs, H p = some (.lst vs) ∧ Rps K G w xs vs
  | .dct kv => ∃ ks, H p = some (.dK ks) ∧ Rpk K G w kv ks
  | .obj C fs => ∃ c dx gs, G.ct C = some c ∧ H p = some (.ins c dx gs) ∧ Rpf K G w fs gs
  | _ => False
theorem CelC.some {H : Hp} {p : Addr} {x : D} (h : CelC K G w H p x) : ∃ o, H p = some o := by
  cases x <;> first | exact h.elim | (obtain ⟨vs, e, _⟩ := h; exact ⟨_, e⟩) | (obtain ⟨c, dx, gs, _, e, _⟩ := h; exact ⟨_, e⟩)
theorem CelC.step {H H' : Hp} {w w' : Wd} {p : Addr} {x : D} (h : CelC K G w H p x) (e : Wd.Le w w') (k : H' p = H p) : CelC K G w' H' p x := by
  cases x with
  | lst xs =>
    obtain ⟨vs, e1, r⟩ := h
    exact ⟨vs, k.trans e1, rps_ex e r⟩
  | dct xs =>
    obtain ⟨vs, e1, r⟩ := h
    exact ⟨vs, k.trans e1, rpk_ex e r⟩
  | obj C fs =>
    obtain ⟨c, dx, gs, e0, e1, r⟩ := h
    exact ⟨c, dx, gs, e0, k.trans e1, rpf_ex e r⟩
  | _ => exact h.elim
structure Okk (K : PySem.W.Frag) (G : Gx) (w : Wd) (μ : Mu) (H : Hp) : Prop where
  ex : Ex w.S H
  cl : ∀ (n : Nat) (x : D), μ[n]? = some (some x) → ∃ p, w.al n = some p ∧ w.S p = none ∧ CelC K G w H p x
  inj : ∀ (n m : Nat) (p : Addr) (x y : D), μ[n]? = some (some x) → μ[m]? = some (some y) → w.al n = some p → w.al m = some p → n = m
  bd : ∀ n, μ.length ≤ n → w.al n = none
  dm : ∀ n p, w.al n = some p → H p ≠ none
/-- not a changing object's place -/
def NoC (w : Wd) (a : Addr) : Prop := ∀ m, w.al m ≠ some a
structure Stp (K : PySem.W.Frag) (G : Gx) (w : Wd) (μ : Mu) (H : Hp) (w' : Wd) (μ' : Mu) (H' : Hp) : Prop where
  le : Wd.Le w w'
  ok : Okk K G w' μ' H'
  fr : ∀ a o, H a = some o → w.S a = none → NoC w a → H' a = some o ∧ w'.S a = none ∧ NoC w' a
  dom : ∀ a, H' a = none → H a = none
variable {μ μ' : Mu} {H H' : Hp} {w' : Wd}
theorem Stp.refl (h : Okk K G w μ H) : Stp K G w μ H w μ H := ⟨.refl _, h, fun _ _ e n l => ⟨e, n, l⟩, fun _ n => n⟩
theorem Stp.trans {w1 w2 : Wd} {μ1 μ2 : Mu} {H1 H2 : Hp} (a : Stp K G w μ H w1 μ1 H1) (b : Stp K G w1 μ1 H1 w2 μ2 H2) : Stp K G w μ H w2 μ2 H2 :=
  ⟨a.le.trans b.le, b.ok, fun c o e n z => let ⟨h1, h2, h3⟩ := a.fr c o e n z; b.fr c o h1 h2 h3, fun c n => a.dom c (b.dom c n)⟩
theorem Okk.none (h : Okk K G w μ H) {p : Addr} (n : H p = none) : w.S p = none ∧ ∀ m, w.al m ≠ some p := by
  refine ⟨?_, fun m e => h.dm m p e n⟩
  cases q : w.S p with
  | none => rfl
  | some o =>
    rw [h.ex p o q] at n
    cases n
/-- a new object at p that is neither data nor a cell (yet) -/
theorem Stp.raw (h : Okk K G w μ H) {p : Addr} {o : HO} (n : H p = none) : Stp K G w μ H w μ (upd H p o) := by
  obtain ⟨n1, n2⟩ := h.none n
  refine ⟨.refl _, ⟨fun a u e => ?_, fun m x e => ?_, h.inj, h.bd, fun m a e => ?_⟩, fun a u e z l => ⟨?_, z, l⟩, fun a e => ?_⟩
  · rw [upd_ne fun z => by rw [z, n1] at e; cases e]
    exact h.ex a u e
  · obtain ⟨q, e1, e2, c⟩ := h.cl m x e
    exact ⟨q, e1, e2, c.step (.refl _) (upd_ne fun z => n2 m (z ▸ e1))⟩
  · by_cases q : a = p
    · rw [q, upd_same]
      exact fun z => by cases z
    · rw [upd_ne q]
      exact h.dm m a e
  · rw [upd_ne (ne_of_none e n)]
    exact e
  · by_cases q : a = p
    · subst q
      exact n
    · rwa [upd_ne q] at e
/-- an object that is neither data nor a cell becomes data -/
theorem Stp.data (h : Okk K G w μ H) {p : Addr} {o : HO} (e : H p = some o) (n : w.S p = none) (l : ∀ m, w.al m ≠ some p) : Okk K G ⟨upd w.S p o, w.al⟩ μ H ∧ Wd.Le w ⟨upd w.S p o, w.al⟩ := by
  have le : Wd.Le w ⟨upd w.S p o, w.al⟩ := ⟨Ex.new n, fun _ _ h => h⟩
  refine ⟨⟨fun a u q => ?_, fun m x q => ?_, h.inj, h.bd, h.dm⟩, le⟩
  · have q : upd w.S p o a = some u := q
    by_cases z : a = p
    · subst z
      rw [upd_same] at q
      cases q
      exact e
    · rw [upd_ne z] at q
      exact h.ex a u q
  · obtain ⟨r, e1, e2, c⟩ := h.cl m x q
    exact ⟨r, e1, by show upd w.S p o r = Option.none; rw [upd_ne fun z : r = p => l m (by rw [← z]; exact e1)]; exact e2, c.step le rfl⟩
/-- a new object, data at once -/
theorem Stp.new (h : Okk K G w μ H) {p : Addr} {o : HO} (n : H p = none) : Stp K G w μ H ⟨upd w.S p o, w.al⟩ μ (upd H p o) := by
  obtain ⟨n1, n2⟩ := h.none n
  have t := Stp.raw (o := o) h n
  obtain ⟨ok, le⟩ := Stp.data t.ok (p := p) (o := o) upd_same n1 n2
  refine ⟨le, ok, fun a u e z l => ?_, t.dom⟩
  obtain ⟨e1, _, l1⟩ := t.fr a u e z l
  have q : a ≠ p := ne_of_none e n
  exact ⟨e1, by show upd w.S p o a = Option.none; rw [upd_ne q]; exact z, l1⟩
theorem get_app_some {α : Type} {l : List α} {x y : α} {n : Nat} (h : (l ++ [x])[n]? = some y) : (n = l.length ∧ y = x) ∨ l[n]? = some y := by
  by_cases q : n < l.length
  · rw [List.getElem?_append_left q] at h
    exact .inr h
  · rw [List.getElem?_append_right (by omega)] at h
    have : n - l.length = 0 := by
      cases e : n - l.length with
      | zero => rfl
      | succ k => rw [e] at h; simp at h
    rw [this] at h
    simp at h
    exact .inl ⟨by omega, h.symm⟩
/-- an object that is neither data nor a cell becomes a cell -/
theorem Stp.cell (h : Okk K G w μ H) {p : Addr} {x : D} (n : w.S p = none) (l : ∀ m, w.al m ≠ some p) (c : CelC K G w H p x) :
    Okk K G ⟨w.S, fun m => if m = μ.length then some p else w.al m⟩ (μ ++ [some x]) H ∧ Wd.Le w ⟨w.S, fun m => if m = μ.length then some p else w.al m⟩ := by
  have le : Wd.Le w ⟨w.S, fun m => if m = μ.length then some p else w.al m⟩ := ⟨Ex.refl _, fun m q e => by
    show (if m = μ.length then some p else w.al m) = some q
    rw [if_neg fun z => by rw [h.bd m (by omega)] at e; cases e]
    exact e⟩
  have old : ∀ {m : Nat} {y : D}, μ[m]? = some (some y) → m ≠ μ.length := fun {m y} e z => by
    have := (List.getElem?_eq_some_iff.mp e).1
    omega
  refine ⟨⟨h.ex, fun m y q => ?_, fun m m' q y y' e e' a a' => ?_, fun m hm => ?_, fun m q e => ?_⟩, le⟩
  · rcases get_app_some q with ⟨rfl, e⟩ | q
    · cases e
      exact ⟨p, if_pos rfl, n, c.step le rfl⟩
    · obtain ⟨r, e1, e2, c'⟩ := h.cl m y q
      exact ⟨r, by show (if m = μ.length then some p else w.al m) = some r; rw [if_neg (old q)]; exact e1, e2, c'.step le rfl⟩
  · have a : (if m = μ.length then some p else w.al m) = some q := a
    have a' : (if m' = μ.length then some p else w.al m') = some q := a'
    rcases get_app_some e with ⟨rfl, e⟩ | e <;> rcases get_app_some e' with ⟨rfl, e'⟩ | e'
    · rfl
    · rw [if_pos rfl] at a
      rw [if_neg (old e')] at a'
      cases a
      exact (l m' a').elim
    · rw [if_pos rfl] at a'
      rw [if_neg (old e)] at a
      cases a'
      exact (l m a).elim
    · rw [if_neg (old e)] at a
      rw [if_neg (old e')] at a'
      exact h.inj m m' q y y' e e' a a'
  · rw [List.length_append] at hm
    have hm' : μ.length + 1 ≤ m := by simpa using hm
    show (if m = μ.length then some p else w.al m) = Option.none
    rw [if_neg (by omega)]
    exact h.bd m (by omega)
  · have e : (if m = μ.length then some p else w.al m) = some q := e
    by_cases z : m = μ.length
    · rw [if_pos z] at e
      cases e
      obtain ⟨o, ho⟩ := c.some
      rw [ho]
      exact fun z => by cases z
    · rw [if_neg z] at e
      exact h.dm m q e
/-- a new cell -/
theorem Stp.newC (h : Okk K G w μ H) {p : Addr} {o : HO} {x : D} (n : H p = none) (c : CelC K G w (upd H p o) p x) : Stp K G w μ H ⟨w.S, fun m => if m = μ.length then some p else w.al m⟩ (μ ++ [some x]) (upd H p o) := by
  obtain ⟨n1, n2⟩ := h.none n
  have t := Stp.raw (o := o) h n
  obtain ⟨ok, le⟩ := Stp.cell t.ok (p := p) (x := x) n1 n2 c
  refine ⟨le, ok, fun a u e z l => ?_, t.dom⟩
  obtain ⟨e1, e2, l1⟩ := t.fr a u e z l
  refine ⟨e1, e2, fun m r => ?_⟩
  have r : (if m = μ.length then some p else w.al m) = some a := r
  by_cases q : m = μ.length
  · rw [if_pos q] at r
    cases r
    rw [n] at e
    cases e
  · rw [if_neg q] at r
    exact l1 m r
theorem get_set {α : Type} {l : List α} {i j : Nat} {x y : α} (h : (l.set i x)[j]? = some y) : (j = i ∧ y = x) ∨ (j ≠ i ∧ l[j]? = some y) := by
  by_cases ij : i = j
  · subst ij
    have hi : i < l.length := by
      have := (List.getElem?_eq_some_iff.mp h).1
      simpa using this
    rw [List.getElem?_set_self hi] at h
    cases h
    exact .inl ⟨rfl, rfl⟩
  · rw [List.getElem?_set_ne ij] at h
    exact .inr ⟨Ne.symm ij, h⟩
/-- a cell changes -/
theorem Stp.put (h : Okk K G w μ H) {n : Nat} {p : Addr} {o : HO} {x y : D} (e : μ[n]? = some (some x)) (a : w.al n = some p) (c : CelC K G w (upd H p o) p y) : Stp K G w μ H w (μ.set n (some y)) (upd H p o) := by
  obtain ⟨p', a', hs, c0⟩ := h.cl n x e
  rw [a] at a'
  cases a'
  have old : ∀ {m : Nat} {z : D}, (μ.set n (some y))[m]? = some (some z) → ∃ z', μ[m]? = some (some z') := fun {m z} q => by
    rcases get_set q with ⟨k, _⟩ | ⟨_, q⟩
    · exact ⟨x, k ▸ e⟩
    · exact ⟨z, q⟩
  refine ⟨.refl _, ⟨fun b u q => ?_, fun m z q => ?_, fun m m' b z z' q q' r r' => ?_, fun m hm => h.bd m (by simpa using hm), fun m b q => ?_⟩, fun b u q s l => ⟨?_, s, l⟩, fun b q => ?_⟩
  · rw [upd_ne fun z => by rw [z, hs] at q; cases q]
    exact h.ex b u q
  · rcases get_set q with ⟨k, q⟩ | ⟨ne, q⟩
    · cases q
      exact ⟨p, k ▸ a, hs, c⟩
    · obtain ⟨r, e1, e2, c'⟩ := h.cl m z q
      exact ⟨r, e1, e2, c'.step (.refl _) (upd_ne fun k => ne (h.inj m n p z x q e (k ▸ e1) a))⟩
  · obtain ⟨_, q⟩ := old q
    obtain ⟨_, q'⟩ := old q'
    exact h.inj m m' b _ _ q q' r r'
  · by_cases k : b = p
    · rw [k, upd_same]
      exact fun z => by cases z
    · rw [upd_ne k]
      exact h.dm m b q
  · rw [upd_ne fun k : b = p => l n (k ▸ a)]
    exact q
  · by_cases k : b = p
    · rw [k, upd_same] at q
      cases q
    · rwa [upd_ne k] at q
/-- a cell becomes data -/
theorem Stp.frz (h : Okk K G w μ H) {n : Nat} {x : D} (e : μ[n]? = some (some x)) : ∃ p w', w.al n = some p ∧ Stp K G w μ H w' (μ.set n none) H ∧ Rp K G w' x (.ref p) := by
  obtain ⟨p, a, hs, c⟩ := h.cl n x e
  obtain ⟨o, ho⟩ := c.some
  have le : Wd.Le w ⟨upd w.S p o, w.al⟩ := ⟨Ex.new hs, fun _ _ h => h⟩
  have old : ∀ {m : Nat} {z : D}, (μ.set n Option.none)[m]? = some (some z) → m ≠ n ∧ μ[m]? = some (some z) := fun {m z} q => by
    rcases get_set q with ⟨_, q⟩ | q
    · cases q
    · exact q
  refine ⟨p, ⟨upd w.S p o, w.al⟩, a, ⟨le, ⟨fun b u q => ?_, fun m z q => ?_, fun m m' b z z' q q' r r' => ?_, fun m hm => h.bd m (by simpa using hm), h.dm⟩, fun b u q s l => ⟨q, ?_, l⟩, fun _ q => q⟩, ?_⟩
  · have q : upd w.S p o b = some u := q
    by_cases z : b = p
    · subst z
      rw [upd_same] at q
      cases q
      exact ho
    · rw [upd_ne z] at q
      exact h.ex b u q
  · obtain ⟨ne, q⟩ := old q
    obtain ⟨r, e1, e2, c'⟩ := h.cl m z q
    exact ⟨r, e1, by show upd w.S p o r = Option.none; rw [upd_ne fun k : r = p => ne (h.inj m n p z x q e (by rw [← k]; exact e1) a)]; exact e2, c'.step le rfl⟩
  · exact h.inj m m' b _ _ (old q).2 (old q').2 r r'
  · show upd w.S p o b = Option.none
    rw [upd_ne fun k : b = p => l n (k ▸ a)]
    exact s
  · cases x with
    | lst xs =>
      obtain ⟨vs, e1, r⟩ := c
      rw [ho] at e1; cases e1
      exact ⟨p, vs, rfl, upd_same, rps_ex le r⟩
    | dct xs =>
      obtain ⟨vs, e1, r⟩ := c
      rw [ho] at e1; cases e1
      exact ⟨p, vs, rfl, upd_same, rpk_ex le r⟩
    | obj C fs =>
      obtain ⟨c, dx, gs, e0, e1, r⟩ := c
      rw [ho] at e1; cases e1
      exact ⟨p, c, dx, gs, rfl, e0, upd_same, rpf_ex le r⟩
    | _ => exact c.elim
/-! slots -/
abbrev DEnv := List (Option D)
structure Sl (K : PySem.W.Frag) (G : Gx) (w : Wd) (σ : L2.St) (ρ : DEnv) : Prop where
  len : σ.length = ρ.length
  dat : ∀ (i : Nat) (x : D), ρ[i]? = some (some x) → ∃ v, σ[i]? = some (some v) ∧ Rp K G w x v
theorem Sl.le {σ : L2.St} {ρ : DEnv} (h : Sl K G w σ ρ) (e : Wd.Le w w') : Sl K G w' σ ρ := ⟨h.len, fun i x q => let ⟨v, e1, r⟩ := h.dat i x q; ⟨v, e1, rp_ex e r⟩⟩
theorem Sl.set {σ : L2.St} {ρ : DEnv} (h : Sl K G w σ ρ) {i : Nat} {x : D} {v : V} (r : Rp K G w x v) : Sl K G w (σ.set i (some v)) (ρ.set i (some x)) := by
  refine ⟨by simp [h.len], fun j y q => ?_⟩
  rcases get_set q with ⟨rfl, e⟩ | ⟨n, q'⟩
  · cases e
    have hj : j < ρ.length := by have := (List.getElem?_eq_some_iff.mp q).1; simpa using this
    exact ⟨v, by rw [List.getElem?_set_self (by rw [h.len]; exact hj)], r⟩
  · obtain ⟨u, e, r'⟩ := h.dat j y q'
    exact ⟨u, by rw [List.getElem?_set_ne (Ne.symm n)]; exact e, r'⟩
/-! what stands behind a reference -/
def drf (μ : Mu) : D → D
  | .cel n => match μ[n]? with
    | some (some x) => x
    | _ => .cel n
  | d => d
/-- as Rp; the object itself may be a cell's -/
def Rt (K : PySem.W.Frag) (G : Gx) (w : Wd) (H : Hp) : D → V → Prop
  | .lst xs, v => ∃ a vs, v = .ref a ∧ H a = some (.lst vs) ∧ Rps K G w xs vs
  | .dct kv, v => ∃ a ks, v = .ref a ∧ H a = some (.dK ks) ∧ Rpk K G w kv ks
  | .obj C fs, v => ∃ a c dx gs, v = .ref a ∧ G.ct C = some c ∧ H a = some (.ins c dx gs) ∧ Rpf K G w fs gs
  | d, v => Rp K G w d v
theorem Rp.rt {d : D} {v : V} (h : Rp K G w d v) (e : Ex w.S H) : Rt K G w H d v := by
  cases d <;> first | exact h | skip
  · obtain ⟨a, vs, e1, h1, h2⟩ := h
    exact ⟨a, vs, e1, e _ _ h1, h2⟩
  · obtain ⟨a, vs, e1, h1, h2⟩ := h
    exact ⟨a, vs, e1, e _ _ h1, h2⟩
  · obtain ⟨a, c, dx, gs, e1, e2, h1, h2⟩ := h
    exact ⟨a, c, dx, gs, e1, e2, e _ _ h1, h2⟩
theorem Okk.rt (ok : Okk K G w μ H) {d : D} {v : V} (h : Rp K G w d v) : Rt K G w H (drf μ d) v := by
  cases d with
  | cel n =>
    show Rt K G w H (match μ[n]? with
      | some (some x) => x
      | _ => .cel n) v
    split
    · rename_i _ x hx
      obtain ⟨p, rfl, q⟩ : ∃ p, v = .ref p ∧ w.al n = some p := let ⟨p, a, b⟩ := h; ⟨p, b, a⟩
      obtain ⟨p', a, hs, c⟩ := ok.cl n x hx
      rw [q] at a
      cases a
      cases x with
      | lst xs =>
        obtain ⟨vs, e1, r⟩ := c
        exact ⟨p, vs, rfl, e1, r⟩
      | dct xs =>
        obtain ⟨vs, e1, r⟩ := c
        exact ⟨p, vs, rfl, e1, r⟩
      | obj C fs =>
        obtain ⟨c, dx, gs, e0, e1, r⟩ := c
        exact ⟨p, c, dx, gs, rfl, e0, e1, r⟩
      | _ => exact c.elim
    · exact h
  | _ => exact h.rt ok.ex
/-! what is wanted of exceptions -/
inductive Exn where
  | own (C : Str) (fs : List (Str × D))
  | bin (T : String)
abbrev EX0 := Exn → Mu → Prop
/-- .. at the slots where it is raised -/
abbrev EXt := DEnv → EX0
abbrev XS := L2.St → XK
structure Lk (K : PySem.W.Frag) (G : Gx) (E : XS) (EX : EXt) (w : Wd) (μ : Mu) (H : Hp) : Prop where
  own : ∀ (σ : L2.St) (ρ : DEnv) (C : Str) (fs : List (Str × D)) (w' : Wd) (μ' : Mu) (H' : Hp) (c dd : Addr) (gs : List (Str × V)), Stp K G w μ H w' μ' H' → G.ct C = some c → w'.S dd = some (.xd gs) → Rpf K G w' fs gs → Sl K G w' σ ρ → EX ρ (.own C fs) μ' → E σ (.ref c) (some dd) H'
  bin : ∀ (σ : L2.St) (ρ : DEnv) (T : String) (w' : Wd) (μ' : Mu) (H' : Hp) (o : Option Addr), Stp K G w μ H w' μ' H' → Sl K G w' σ ρ → EX ρ (.bin T) μ' → E σ (.type T) o H'
theorem Lk.step {E : XS} {EX : EXt} (h : Lk K G E EX w μ H) (t : Stp K G w μ H w' μ' H') : Lk K G E EX w' μ' H' :=
  ⟨fun σ ρ C fs w2 μ2 H2 c dd gs t2 => h.own σ ρ C fs w2 μ2 H2 c dd gs (t.trans t2), fun σ ρ T w2 μ2 H2 o t2 => h.bin σ ρ T w2 μ2 H2 o (t.trans t2)⟩
abbrev NoX : EXt := fun _ _ _ => False
abbrev ES0 : XS := fun _ => L2.E0
theorem lk0 : Lk K G ES0 NoX w μ H := ⟨fun _ _ _ _ _ _ _ _ _ _ _ _ _ _ _ h => h.elim, fun _ _ _ _ _ _ _ _ _ h => h.elim⟩
/-- what is wished of an error at given slots -/
theorem Lk.at {E : XS} {EX : EXt} {σ : L2.St} {ρ : DEnv} (h : Lk K G E EX w μ H) (sl : Sl K G w σ ρ) : Lk K G (fun _ => E σ) (fun _ => EX ρ) w μ H :=
  ⟨fun _ _ C fs w2 μ2 H2 c dd gs t2 hc hd r _ => h.own σ ρ C fs w2 μ2 H2 c dd gs t2 hc hd r (sl.le t2.le), fun _ _ T w2 μ2 H2 o t2 _ => h.bin σ ρ T w2 μ2 H2 o t2 (sl.le t2.le)⟩
end
end Dl
set_option Elab.async false
set_option linter.all false
set_option autoImplicit false
set_option maxRecDepth 100000
set_option maxHeartbeats 2000000
/-! B2: readings over data: names, operators, displays, tests, and, or, not, conditional values -/
namespace Dl
open PySem PySem.Spec PyProof.Rows L2 Evl
abbrev DTE := DEnv → Mu → EXt → (D → Mu → Prop) → Prop
abbrev DTT := DEnv → Mu → EXt → (Bool → Mu → Prop) → Prop
abbrev DTA := DEnv → Mu → EXt → (List D → Mu → Prop) → Prop
def RunE (K : PySem.W.Frag) (G : Gx) (E : XS) (t : TE) (T : DTE) : Prop := ∀ (σ : L2.St) (ρ : DEnv) (w : Wd) (μ : Mu) (H : Hp) (EX : EXt) (Q : VK), Sl K G w σ ρ → Okk K G w μ H → Lk K G E EX w μ H →
  T ρ μ EX (fun d μ' => ∀ v w' H', Stp K G w μ H w' μ' H' → Rp K G w' d v → Q v H') → t σ H Q
def RunT (K : PySem.W.Frag) (G : Gx) (E : XS) (t : TT) (T : DTT) : Prop := ∀ (σ : L2.St) (ρ : DEnv) (w : Wd) (μ : Mu) (H : Hp) (EX : EXt) (Q : Bool → Hp → Prop), Sl K G w σ ρ → Okk K G w μ H → Lk K G E EX w μ H →
  T ρ μ EX (fun b μ' => ∀ w' H', Stp K G w μ H w' μ' H' → Q b H') → t σ H Q
def RunA (K : PySem.W.Frag) (G : Gx) (E : XS) (t : TA) (T : DTA) : Prop := ∀ (σ : L2.St) (ρ : DEnv) (w : Wd) (μ : Mu) (H : Hp) (EX : EXt) (Q : List V → Hp → Prop), Sl K G w σ ρ → Okk K G w μ H → Lk K G E EX w μ H →
  T ρ μ EX (fun ds μ' => ∀ vs w' H', Stp K G w μ H w' μ' H' → Rps K G w' ds vs → Q vs H') → t σ H Q
def Mono {α : Type} (T : DEnv → Mu → EXt → (α → Mu → Prop) → Prop) : Prop := ∀ ρ μ EX Q Q', (∀ d μ', Q d μ' → Q' d μ') → T ρ μ EX Q → T ρ μ EX Q'
structure PD (X : Cx) (G : Gx) (E : XS) (e : Expr) (T : DTE) : Prop where
  ex : ∃ t, PE X e t ∧ RunE X.K G E t T
  mono : Mono T
structure PDt (X : Cx) (G : Gx) (E : XS) (e : Expr) (T : DTT) : Prop where
  ex : ∃ t, PT X e t ∧ RunT X.K G E t T
  mono : Mono T
structure PDw (X : Cx) (G : Gx) (E : XS) (e : Expr) (T : DTT) : Prop where
  ex : ∃ t, PW X e t ∧ RunT X.K G E t T
  mono : Mono T
structure PDa (X : Cx) (G : Gx) (E : XS) (es : List Expr) (T : DTA) : Prop where
  ex : ∃ t, PA X es t ∧ RunA X.K G E t T
  mono : Mono T
section
variable {X : Cx} {G : Gx} {E : XS} {e a b c : Expr} {pos : Pos}
/-! names, constants -/
def dVar (i : Nat) : DTE := fun ρ μ _ Q => match ρ[i]? with
  | some (some x) => Q x μ
  | _ => False
theorem pd_var {i : Nat} (h : PE X e (tVar i)) : PD X G E e (dVar i) := by
  refine ⟨⟨_, h, fun σ ρ w μ H EX Q sl ok lk q => ?_⟩, fun ρ μ EX Q Q' i q => ?_⟩
  · unfold dVar at q
    split at q
    · rename_i x hx
      obtain ⟨v, e1, r⟩ := sl.dat i x hx
      exact ⟨v, e1, q v w H (.refl ok) r⟩
    · exact q.elim
  · unfold dVar at q ⊢
    split at q <;> first | exact i _ _ q | exact q.elim
def dC (d : D) : DTE := fun _ μ _ Q => Q d μ
def ofV : V → D
  | .non => .non
  | .bl b => .bl b
  | .int i => .int i
  | .str z => .str z
  | v => .val v
def shortV : V → Bool
  | .str z => decide (z.length ≤ sizeLine)
  | _ => true
theorem rp_ofV {K : PySem.W.Frag} {w : Wd} (v : V) (h : shortV v = true) : Rp K G w (ofV v) v := by
  cases v with
  | str z => exact ⟨rfl, of_decide_eq_true h⟩
  | _ => rfl
theorem pd_c {v : V} {d : D} (h : PE X e (tC v)) (hd : ∀ w, Rp X.K G w d v) : PD X G E e (dC d) :=
  ⟨⟨_, h, fun σ ρ w μ H EX Q sl ok lk q => q v w H (.refl ok) (hd w)⟩, fun _ _ _ _ _ i q => i _ _ q⟩
theorem pd_int {i : Int} {j pos} : PD X G E (.Constant (.int i) j pos) (dC (.int i)) := pd_c (v := .int i) pe_int fun _ => rfl
theorem pd_bl {b : Bool} {j pos} : PD X G E (.Constant (.bool b) j pos) (dC (.bl b)) := pd_c (v := .bl b) pe_bl fun _ => rfl
theorem pd_non {j pos} : PD X G E (.Constant .none j pos) (dC .non) := pd_c (v := .non) pe_non fun _ => rfl
theorem pd_str {z : Str} {j pos} (h : shortV (.str z) = true := by decide +kernel) : PD X G E (.Constant (.str z) j pos) (dC (.str z)) := pd_c (v := .str z) pe_str fun _ => ⟨rfl, of_decide_eq_true h⟩
/-- a constant of the module -/
theorem pd_glob {x : Str} {v : V} {u : Value} (hg : Gl X x) (hm : X.mg x = some u) (r : RelV v u) (h : shortV v = true := by decide +kernel) (hd : (x == ("__debug__" : Str)) = false := by decide +kernel) : PD X G E (.Name x pos) (dC (ofV v)) := pd_c (pe_glob hg hm r (hd := hd)) fun _ => rp_ofV v h
/-- a def or class of the module -/
theorem pd_fn {x : Str} {p : Addr} (hg : Gl X x) (hm : X.mg x = some (.ref p)) (hf : G.ft x = some p) (hd : (x == ("__debug__" : Str)) = false := by decide +kernel) : PD X G E (.Name x pos) (dC (.fn x)) := pd_c (pe_glob (v := .ref p) hg hm rfl (hd := hd)) fun _ => ⟨p, hf, rfl⟩
/-- a built-in type as a value -/
theorem pd_ty {x : Str} {T : String} (hg : Gl X x) (hm : X.mg x = none) (hv : bootBuiltins x = some (.type T)) (hn : x ≠ "__name__" := by decide +kernel) (hd : (x == ("__debug__" : Str)) = false := by decide +kernel) : PD X G E (.Name x pos) (dC (.val (.ty T))) := pd_c (pe_bltn (v := .ty T) hg hm hv rfl (hn := hn) (hd := hd)) fun _ => rfl
/-- never come to -/
def dStuck : DTE := fun _ _ _ _ => False
theorem pe_never : PE X e (fun _ _ _ => False) := ⟨fun _ _ _ _ _ _ h => h.elim⟩
theorem pd_no : PD X G E e dStuck := ⟨⟨_, pe_never, fun _ _ _ _ _ _ _ _ _ _ q => q⟩, fun _ _ _ _ _ _ q => q⟩
/-! operators of two values -/
def OpD (K : PySem.W.Frag) (G : Gx) (r : R2) (g : D → D → Option D) : Prop := ∀ (w : Wd) (μ : Mu) (H : Hp) (x y d : D) (v u : V) (Q : VK), Okk K G w μ H → Rt K G w H x v → Rt K G w H y u → g x y = some d →
  (∀ z w' H', Stp K G w μ H w' μ H' → Rp K G w' d z → Q z H') → r v u H Q
def dOp2 (g : D → D → Option D) (Ta Tb : DTE) : DTE := fun ρ μ EX Q => Ta ρ μ EX fun x μ1 => Tb ρ μ1 EX fun y μ2 => ∃ d, g (drf μ2 x) (drf μ2 y) = some d ∧ Q d μ2
theorem pd_bin {g : D → D → Option D} {r : R2} {Ta Tb : DTE} (mk : ∀ ta tb, PE X a ta → PE X b tb → PE X e (tOp r ta tb)) (ho : OpD X.K G r g) (ha : PD X G E a Ta) (hb : PD X G E b Tb) : PD X G E e (dOp2 g Ta Tb) := by
  obtain ⟨⟨ta, pa, ra⟩, ma⟩ := ha
  obtain ⟨⟨tb, pb, rb⟩, mb⟩ := hb
  refine ⟨⟨_, mk _ _ pa pb, fun σ ρ w μ H EX Q sl ok lk q => ?_⟩, fun ρ μ EX Q Q' i q => ?_⟩
  · refine ra σ ρ w μ H EX _ sl ok lk (ma _ _ _ _ _ (fun x μ1 q1 v w1 H1 t1 r1 => ?_) q)
    refine rb σ ρ w1 μ1 H1 EX _ (sl.le t1.le) t1.ok (lk.step t1) (mb _ _ _ _ _ (fun y μ2 q2 u w2 H2 t2 r2 => ?_) q1)
    obtain ⟨d, hg, q2⟩ := q2
    exact ho w2 μ2 H2 _ _ d v u Q t2.ok (t2.ok.rt (rp_ex t2.le r1)) (t2.ok.rt r2) hg fun z w3 H3 t3 r3 => q2 z w3 H3 ((t1.trans t2).trans t3) r3
  · exact ma _ _ _ _ _ (fun x μ1 => mb _ _ _ _ _ fun y μ2 ⟨d, hg, q⟩ => ⟨d, hg, i _ _ q⟩) q
/-- .. of one -/
def UnD (K : PySem.W.Frag) (G : Gx) (r : V → Hp → VK → Prop) (g : D → Option D) : Prop := ∀ (w : Wd) (μ : Mu) (H : Hp) (x d : D) (v : V) (Q : VK), Okk K G w μ H → Rt K G w H x v → g x = some d →
  (∀ z w' H', Stp K G w μ H w' μ H' → Rp K G w' d z → Q z H') → r v H Q
def dOp1 (g : D → Option D) (Ta : DTE) : DTE := fun ρ μ EX Q => Ta ρ μ EX fun x μ1 => ∃ d, g (drf μ1 x) = some d ∧ Q d μ1
theorem pd_un {g : D → Option D} {r : V → Hp → VK → Prop} {Ta : DTE} (mk : ∀ ta, PE X a ta → PE X e (tUn r ta)) (ho : UnD X.K G r g) (ha : PD X G E a Ta) : PD X G E e (dOp1 g Ta) := by
  obtain ⟨⟨ta, pa, ra⟩, ma⟩ := ha
  refine ⟨⟨_, mk _ pa, fun σ ρ w μ H EX Q sl ok lk q => ?_⟩, fun ρ μ EX Q Q' i q => ?_⟩
  · refine ra σ ρ w μ H EX _ sl ok lk (ma _ _ _ _ _ (fun x μ1 q1 v w1 H1 t1 r1 => ?_) q)
    obtain ⟨d, hg, q1⟩ := q1
    exact ho w1 μ1 H1 _ d v Q t1.ok (t1.ok.rt r1) hg fun z w3 H3 t3 r3 => q1 z w3 H3 (t1.trans t3) r3
  · exact ma _ _ _ _ _ (fun x μ1 ⟨d, hg, q⟩ => ⟨d, hg, i _ _ q⟩) q
/-! arguments, displays, calls of built-ins -/
def dNil : DTA := fun _ μ _ Q => Q [] μ
def dCons (Ta : DTE) (Tr : DTA) : DTA := fun ρ μ EX Q => Ta ρ μ EX fun x μ1 => Tr ρ μ1 EX fun xs μ2 => Q (x :: xs) μ2
theorem pda_nil : PDa X G E [] dNil := ⟨⟨_, pa_nil, fun σ ρ w μ H EX Q sl ok lk q => q [] w H (.refl ok) rfl⟩, fun _ _ _ _ _ i q => i _ _ q⟩
theorem pda_cons {es : List Expr} {Ta : DTE} {Tr : DTA} (ha : PD X G E e Ta) (hr : PDa X G E es Tr) (hs : starEach (e :: es) X.env = (false, eval e X.env) :: starEach es X.env := by rfl) : PDa X G E (e :: es) (dCons Ta Tr) := by
  obtain ⟨⟨ta, pa, ra⟩, ma⟩ := ha
  obtain ⟨⟨tr, pr, rr⟩, mr⟩ := hr
  refine ⟨⟨_, pa_cons pa pr hs, fun σ ρ w μ H EX Q sl ok lk q => ?_⟩, fun ρ μ EX Q Q' i q => ?_⟩
  · refine ra σ ρ w μ H EX _ sl ok lk (ma _ _ _ _ _ (fun x μ1 q1 v w1 H1 t1 r1 => ?_) q)
    refine rr σ ρ w1 μ1 H1 EX _ (sl.le t1.le) t1.ok (lk.step t1) (mr _ _ _ _ _ (fun ys μ2 q2 us w2 H2 t2 r2 => ?_) q1)
    exact q2 _ w2 H2 (t1.trans t2) ⟨v, us, rfl, rp_ex t2.le r1, r2⟩
  · exact ma _ _ _ _ _ (fun x μ1 => mr _ _ _ _ _ fun y μ2 q => i _ _ q) q
/-- as Rps; each may be a cell's -/
def Rts (K : PySem.W.Frag) (G : Gx) (w : Wd) (H : Hp) : List D → List V → Prop
  | [], vs => vs = []
  | d :: ds, vs => ∃ v r, vs = v :: r ∧ Rt K G w H d v ∧ Rts K G w H ds r
theorem Okk.rts {K : PySem.W.Frag} {w : Wd} {μ : Mu} {H : Hp} (ok : Okk K G w μ H) : ∀ {ds : List D} {vs : List V}, Rps K G w ds vs → Rts K G w H (ds.map (drf μ)) vs
  | [], _, h => h
  | _ :: _, _, h => let ⟨v, r, e1, h1, h2⟩ := h; ⟨v, r, e1, ok.rt h1, ok.rts h2⟩
/-- a reading of values as one of data -/
def CrD (K : PySem.W.Frag) (G : Gx) (r : List V → Hp → VK → Prop) (g : List D → Option D) : Prop := ∀ (w : Wd) (μ : Mu) (H : Hp) (xs : List D) (d : D) (vs : List V) (Q : VK), Okk K G w μ H → Rts K G w H xs vs → g xs = some d →
  (∀ u w' H', Stp K G w μ H w' μ H' → Rp K G w' d u → Q u H') → r vs H Q
def dCB (g : List D → Option D) (Ta : DTA) : DTE := fun ρ μ EX Q => Ta ρ μ EX fun xs μ1 => ∃ d, g (xs.map (drf μ1)) = some d ∧ Q d μ1
theorem pd_cb {es : List Expr} {g : List D → Option D} {r : List V → Hp → VK → Prop} {Ta : DTA} (mk : ∀ ta, PA X es ta → PE X e (tCB r ta)) (ho : CrD X.K G r g) (ha : PDa X G E es Ta) : PD X G E e (dCB g Ta) := by
  obtain ⟨⟨ta, pa, ra⟩, ma⟩ := ha
  refine ⟨⟨_, mk _ pa, fun σ ρ w μ H EX Q sl ok lk q => ?_⟩, fun ρ μ EX Q Q' i q => ?_⟩
  · refine ra σ ρ w μ H EX _ sl ok lk (ma _ _ _ _ _ (fun xs μ1 q1 vs w1 H1 t1 r1 => ?_) q)
    obtain ⟨d, hg, q1⟩ := q1
    exact ho w1 μ1 H1 _ d vs Q t1.ok (t1.ok.rts r1) hg fun u w3 H3 t3 r3 => q1 u w3 H3 (t1.trans t3) r3
  · exact ma _ _ _ _ _ (fun x μ1 ⟨d, hg, q⟩ => ⟨d, hg, i _ _ q⟩) q
def dTup (Ta : DTA) : DTE := fun ρ μ EX Q => Ta ρ μ EX fun xs μ1 => xs.length ≤ sizeLine ∧ Q (.tup xs) μ1
theorem pd_tup {es : List Expr} {x1} {Ta : DTA} (ha : PDa X G E es Ta) : PD X G E (.Tuple es x1 pos) (dTup Ta) := by
  obtain ⟨⟨ta, pa, ra⟩, ma⟩ := ha
  refine ⟨⟨_, pe_tup pa, fun σ ρ w μ H EX Q sl ok lk q => ?_⟩, fun ρ μ EX Q Q' i q => ma _ _ _ _ _ (fun x μ1 ⟨hg, q⟩ => ⟨hg, i _ _ q⟩) q⟩
  refine ra σ ρ w μ H EX _ sl ok lk (ma _ _ _ _ _ (fun xs μ1 q1 vs w1 H1 t1 r1 => ?_) q)
  refine ⟨by rw [rps_len r1]; exact q1.1, fun p n => ?_⟩
  have t2 := Stp.new (o := .tup vs) t1.ok n
  exact q1.2 _ _ _ (t1.trans t2) ⟨p, vs, rfl, upd_same, rps_ex t2.le r1⟩
/-- a displayed list: data at once -/
def dLst (Ta : DTA) : DTE := fun ρ μ EX Q => Ta ρ μ EX fun xs μ1 => xs.length ≤ sizeLine ∧ Q (.lst xs) μ1
theorem pd_lst {es : List Expr} {Ta : DTA} (ha : PDa X G E es Ta) : PD X G E (.List es pos) (dLst Ta) := by
  obtain ⟨⟨ta, pa, ra⟩, ma⟩ := ha
  refine ⟨⟨_, pe_lst pa, fun σ ρ w μ H EX Q sl ok lk q => ?_⟩, fun ρ μ EX Q Q' i q => ma _ _ _ _ _ (fun x μ1 ⟨hg, q⟩ => ⟨hg, i _ _ q⟩) q⟩
  refine ra σ ρ w μ H EX _ sl ok lk (ma _ _ _ _ _ (fun xs μ1 q1 vs w1 H1 t1 r1 => ?_) q)
  refine ⟨by rw [rps_len r1]; exact q1.1, fun p n => ?_⟩
  have t2 := Stp.new (o := .lst vs) t1.ok n
  exact q1.2 _ _ _ (t1.trans t2) ⟨p, vs, rfl, upd_same, rps_ex t2.le r1⟩
/-- .. a cell -/
def dLstC (Ta : DTA) : DTE := fun ρ μ EX Q => Ta ρ μ EX fun xs μ1 => xs.length ≤ sizeLine ∧ Q (.cel μ1.length) (μ1 ++ [some (.lst xs)])
theorem pd_lstC {es : List Expr} {Ta : DTA} (ha : PDa X G E es Ta) : PD X G E (.List es pos) (dLstC Ta) := by
  obtain ⟨⟨ta, pa, ra⟩, ma⟩ := ha
  refine ⟨⟨_, pe_lst pa, fun σ ρ w μ H EX Q sl ok lk q => ?_⟩, fun ρ μ EX Q Q' i q => ma _ _ _ _ _ (fun x μ1 ⟨hg, q⟩ => ⟨hg, i _ _ q⟩) q⟩
  refine ra σ ρ w μ H EX _ sl ok lk (ma _ _ _ _ _ (fun xs μ1 q1 vs w1 H1 t1 r1 => ?_) q)
  refine ⟨by rw [rps_len r1]; exact q1.1, fun p n => ?_⟩
  have t2 := Stp.newC (o := .lst vs) (x := .lst xs) t1.ok n ⟨vs, upd_same, r1⟩
  exact q1.2 _ _ _ (t1.trans t2) ⟨p, if_pos rfl, rfl⟩
/-- a value that may be a cell becomes data -/
def fzD (d : D) (μ : Mu) (Q : D → Mu → Prop) : Prop := match d with
  | .cel n => match μ[n]? with
    | some (some x) => Q x (μ.set n none)
    | _ => Q (.cel n) μ
  | d => Q d μ
def dFz (T : DTE) : DTE := fun ρ μ EX Q => T ρ μ EX fun d μ' => fzD d μ' Q
theorem mono_fzD {d : D} {μ : Mu} {Q Q' : D → Mu → Prop} (i : ∀ d μ, Q d μ → Q' d μ) (h : fzD d μ Q) : fzD d μ Q' := by
  unfold fzD at h ⊢
  split at h
  · split at h <;> exact i _ _ h
  · exact i _ _ h
theorem fz_ok {K : PySem.W.Frag} {w : Wd} {μ : Mu} {H : Hp} {d : D} {v : V} {Q : D → Mu → Prop} (ok : Okk K G w μ H) (r : Rp K G w d v) (h : fzD d μ Q) : ∃ d' w' μ', Stp K G w μ H w' μ' H ∧ Rp K G w' d' v ∧ Q d' μ' := by
  unfold fzD at h
  split at h
  · rename_i n
    split at h
    · rename_i _ x hx
      obtain ⟨p, w', a, t, r'⟩ := Stp.frz ok hx
      obtain ⟨p', a', rfl⟩ := r
      rw [a] at a'
      cases a'
      exact ⟨x, w', _, t, r', h⟩
    · exact ⟨_, w, μ, .refl ok, r, h⟩
  · exact ⟨_, w, μ, .refl ok, r, h⟩
theorem pd_fz {T : DTE} (h : PD X G E e T) : PD X G E e (dFz T) := by
  obtain ⟨⟨t, p, r⟩, m⟩ := h
  refine ⟨⟨t, p, fun σ ρ w μ H EX Q sl ok lk q => r σ ρ w μ H EX Q sl ok lk (m _ _ _ _ _ (fun d μ' q1 v w1 H1 t1 r1 => ?_) q)⟩, fun ρ μ EX Q Q' i q => m _ _ _ _ _ (fun d μ' => mono_fzD i) q⟩
  obtain ⟨d', w2, μ2, t2, r2, q2⟩ := fz_ok t1.ok r1 q1
  exact q2 v w2 H1 (t1.trans t2) r2
/-! truth -/
def truth : D → Option Bool
  | .non => some false
  | .bl b => some b
  | .int i => some (i != 0)
  | .str z => some (z.length != 0)
  | .lst xs => some (!xs.isEmpty)
  | .tup xs => some (!xs.isEmpty)
  | .dct kv => some (!kv.isEmpty)
  | _ => none
theorem isEmpty_len {α β : Type} {xs : List α} {ys : List β} (h : xs.length = ys.length) : xs.isEmpty = ys.isEmpty := by
  cases xs <;> cases ys <;> first | rfl | (simp at h)
theorem rpk_len {K : PySem.W.Frag} {w : Wd} : ∀ {fs : List (Key × D)} {gs : List (Key × V)}, Rpk K G w fs gs → gs.length = fs.length
  | [], _, h => by
    obtain rfl : _ = [] := h
    rfl
  | (g, x) :: r, _, h => by
    obtain ⟨u, s, rfl, h1, h2⟩ := h
    simp [rpk_len h2]
theorem truV {K : PySem.W.Frag} {w : Wd} {H : Hp} {d : D} {v : V} {k : Bool} (e : Ex w.S H) (h : Rt K G w H d v) (t : truth d = some k) : TruV K v H k := by
  cases d with
  | non => obtain rfl : v = _ := h; cases t; exact rfl
  | bl b => obtain rfl : v = _ := h; cases t; exact rfl
  | int i => obtain rfl : v = _ := h; cases t; exact rfl
  | str z =>
    obtain ⟨rfl, l⟩ := h
    refine ⟨l, ?_⟩
    have t : some (z.length != 0) = some k := t
    cases t
    by_cases q : z.length = 0
    · rw [q]; rfl
    · have q' : ((z.length : Int)) ≠ 0 := by omega
      rw [bne_iff_ne.mpr q, bne_iff_ne.mpr q']
  | lst xs =>
    obtain ⟨a, vs, rfl, h1, h2⟩ := h
    have t : some (!xs.isEmpty) = some k := t
    cases t
    exact .inl ⟨vs, SqL.of h1, by rw [isEmpty_len (rps_len h2)]⟩
  | tup xs =>
    obtain ⟨a, vs, rfl, h1, h2⟩ := h
    have t : some (!xs.isEmpty) = some k := t
    cases t
    exact .inr (.inl ⟨vs, SqT.of (e _ _ h1), by rw [isEmpty_len (rps_len h2)]⟩)
  | dct kv =>
    obtain ⟨a, ks, rfl, h1, h2⟩ := h
    have t : some (!kv.isEmpty) = some k := t
    cases t
    exact .inr (.inr ⟨ks, h1, by rw [isEmpty_len (rpk_len h2)]⟩)
  | _ => cases t
def dTru (T : DTE) : DTT := fun ρ μ EX Q => T ρ μ EX fun d μ' => ∃ k, truth (drf μ' d) = some k ∧ Q k μ'
theorem pdt {T : DTE} (h : PD X G E e T) (he : ∀ whole, isTrue e X.env whole = (do let v ← whole; standAt e.pos; holding [v] (truthy v)) := by intro _; rfl) : PDt X G E e (dTru T) := by
  obtain ⟨⟨t, p, r⟩, m⟩ := h
  refine ⟨⟨_, My.ptTru (K := X.K) p he rfl, fun σ ρ w μ H EX Q sl ok lk q => r σ ρ w μ H EX _ sl ok lk (m _ _ _ _ _ (fun d μ' q1 v w1 H1 t1 r1 => ?_) q)⟩, fun ρ μ EX Q Q' i q => m _ _ _ _ _ (fun d μ' ⟨k, e, q⟩ => ⟨k, e, i _ _ q⟩) q⟩
  obtain ⟨k, e, q1⟩ := q1
  exact ⟨k, truV t1.ok.ex (t1.ok.rt r1) e, q1 w1 H1 t1⟩
def dTst (T : DTE) : DTT := fun ρ μ EX Q => T ρ μ EX fun d μ' => ∃ k, d = .bl k ∧ Q k μ'
/-- a comparison as a test -/
theorem pdt_cmp {g : D → D → Option D} {r : R2} {Ta Tb : DTE} {op : CmpOp} (hop : OpR X (compareOp op) r) (ho : OpD X.K G r g) (ha : PD X G E a Ta) (hb : PD X G E b Tb) (hm : behindInMarks op b = false) : PDt X G E (.Compare a [op] [b] pos) (dTst (dOp2 g Ta Tb)) := by
  obtain ⟨⟨ta, pa, ra⟩, ma⟩ := ha
  obtain ⟨⟨tb, pb, rb⟩, mb⟩ := hb
  refine ⟨⟨_, pt_cmpR hop pa pb hm, fun σ ρ w μ H EX Q sl ok lk q => ?_⟩, fun ρ μ EX Q Q' i q => ?_⟩
  · refine ra σ ρ w μ H EX _ sl ok lk (ma _ _ _ _ _ (fun x μ1 q1 v w1 H1 t1 r1 => ?_) q)
    refine rb σ ρ w1 μ1 H1 EX _ (sl.le t1.le) t1.ok (lk.step t1) (mb _ _ _ _ _ (fun y μ2 q2 u w2 H2 t2 r2 => ?_) q1)
    obtain ⟨d, hg, k, rfl, q2⟩ := q2
    refine ho w2 μ2 H2 _ _ _ v u _ t2.ok (t2.ok.rt (rp_ex t2.le r1)) (t2.ok.rt r2) hg fun z w3 H3 t3 r3 => ?_
    obtain rfl : z = _ := r3
    exact ⟨k, rfl, q2 w3 H3 ((t1.trans t2).trans t3)⟩
  · exact ma _ _ _ _ _ (fun x μ1 => mb _ _ _ _ _ fun y μ2 ⟨d, hg, k, e, q⟩ => ⟨d, hg, k, e, i _ _ q⟩) q
theorem pd_cmp {g : D → D → Option D} {r : R2} {Ta Tb : DTE} {op : CmpOp} (hop : OpR X (compareOp op) r) (ho : OpD X.K G r g) (ha : PD X G E a Ta) (hb : PD X G E b Tb) (hm : behindInMarks op b = false) : PD X G E (.Compare a [op] [b] pos) (dOp2 g Ta Tb) :=
  pd_bin (fun ta tb pa pb => pe_cmpR hop pa pb hm) ho ha hb
theorem pd_op {g : D → D → Option D} {r : R2} {Ta Tb : DTE} {op : Operator} (hop : OpR X (binaryOp op) r) (ho : OpD X.K G r g) (ha : PD X G E a Ta) (hb : PD X G E b Tb) : PD X G E (.BinOp a op b pos) (dOp2 g Ta Tb) :=
  pd_bin (fun ta tb pa pb => pe_op hop pa pb) ho ha hb
theorem ite_imp {p : Prop} [Decidable p] {A B A' B' : Prop} (h : if p then A else B) (f : A → A') (g : B → B') : if p then A' else B' := by
  by_cases q : p
  · rw [if_pos q] at h ⊢; exact f h
  · rw [if_neg q] at h ⊢; exact g h
/-- a chain of two comparisons -/
def dChain (g g' : D → D → Option D) (Ta Tb Tc : DTE) : DTE := fun ρ μ EX Q => Ta ρ μ EX fun x μ1 => Tb ρ μ1 EX fun y μ2 => ∃ k, g (drf μ2 x) (drf μ2 y) = some (.bl k) ∧
  if k = true then Tc ρ μ2 EX fun z μ3 => ∃ d, g' (drf μ3 y) (drf μ3 z) = some d ∧ Q d μ3 else Q (.bl false) μ2
theorem mono_chain {g g' : D → D → Option D} {Ta Tb Tc : DTE} (ma : Mono Ta) (mb : Mono Tb) (mc : Mono Tc) : Mono (dChain g g' Ta Tb Tc) := fun ρ μ EX Q Q' i q =>
  ma _ _ _ _ _ (fun x μ1 => mb _ _ _ _ _ fun y μ2 ⟨k, hg, q⟩ => ⟨k, hg, ite_imp q (mc _ _ _ _ _ fun z μ3 ⟨d, h, q⟩ => ⟨d, h, i _ _ q⟩) (i _ _)⟩) q
theorem pd_chain {g g' : D → D → Option D} {r r' : R2} {Ta Tb Tc : DTE} {op op' : CmpOp} (hop : OpR X (compareOp op) r) (hop' : OpR X (compareOp op') r') (ho : OpD X.K G r g) (ho' : OpD X.K G r' g') (ha : PD X G E a Ta) (hb : PD X G E b Tb) (hc : PD X G E c Tc)
    (hm : lastMarks [op, op'] [b, c] = false := by with_unfolding_all rfl) : PD X G E (.Compare a [op, op'] [b, c] pos) (dChain g g' Ta Tb Tc) := by
  obtain ⟨⟨ta, pa, ra⟩, ma⟩ := ha
  obtain ⟨⟨tb, pb, rb⟩, mb⟩ := hb
  obtain ⟨⟨tc, pc, rc⟩, mc⟩ := hc
  refine ⟨⟨_, pe_chain hop hop' pa pb pc hm, fun σ ρ w μ H EX Q sl ok lk q => ?_⟩, mono_chain ma mb mc⟩
  refine ra σ ρ w μ H EX _ sl ok lk (ma _ _ _ _ _ (fun x μ1 q1 v w1 H1 t1 r1 => ?_) q)
  refine rb σ ρ w1 μ1 H1 EX _ (sl.le t1.le) t1.ok (lk.step t1) (mb _ _ _ _ _ (fun y μ2 q2 u w2 H2 t2 r2 => ?_) q1)
  obtain ⟨k, hg, q2⟩ := q2
  have t12 := t1.trans t2
  refine ho w2 μ2 H2 _ _ _ v u _ t2.ok (t2.ok.rt (rp_ex t2.le r1)) (t2.ok.rt r2) hg fun z w3 H3 t3 r3 => ?_
  obtain rfl : z = _ := r3
  refine ⟨k, rfl, ite_imp q2 (fun q2 => ?_) fun q2 => q2 _ w3 H3 (t12.trans t3) rfl⟩
  refine rc σ ρ w3 μ2 H3 EX _ (sl.le (t12.trans t3).le) t3.ok (lk.step (t12.trans t3)) (mc _ _ _ _ _ (fun z μ4 q4 x4 w4 H4 t4 r4 => ?_) q2)
  obtain ⟨d, hg', q4⟩ := q4
  exact ho' w4 μ4 H4 _ _ d u x4 Q t4.ok (t4.ok.rt (rp_ex (t3.trans t4).le r2)) (t4.ok.rt r4) hg' fun z w5 H5 t5 r5 => q4 z w5 H5 (((t12.trans t3).trans t4).trans t5) r5
theorem pdt_chain {g g' : D → D → Option D} {r r' : R2} {Ta Tb Tc : DTE} {op op' : CmpOp} (hop : OpR X (compareOp op) r) (hop' : OpR X (compareOp op') r') (ho : OpD X.K G r g) (ho' : OpD X.K G r' g') (ha : PD X G E a Ta) (hb : PD X G E b Tb) (hc : PD X G E c Tc)
    (hm : lastMarks [op, op'] [b, c] = false := by with_unfolding_all rfl) : PDt X G E (.Compare a [op, op'] [b, c] pos) (dTst (dChain g g' Ta Tb Tc)) := by
  obtain ⟨⟨ta, pa, ra⟩, ma⟩ := ha
  obtain ⟨⟨tb, pb, rb⟩, mb⟩ := hb
  obtain ⟨⟨tc, pc, rc⟩, mc⟩ := hc
  refine ⟨⟨_, pt_chain hop hop' pa pb pc hm, fun σ ρ w μ H EX Q sl ok lk q => ?_⟩, fun ρ μ EX Q Q' i q => mono_chain ma mb mc _ _ _ _ _ (fun d μ' ⟨k, e, q⟩ => ⟨k, e, i _ _ q⟩) q⟩
  refine ra σ ρ w μ H EX _ sl ok lk (ma _ _ _ _ _ (fun x μ1 q1 v w1 H1 t1 r1 => ?_) q)
  refine rb σ ρ w1 μ1 H1 EX _ (sl.le t1.le) t1.ok (lk.step t1) (mb _ _ _ _ _ (fun y μ2 q2 u w2 H2 t2 r2 => ?_) q1)
  obtain ⟨k, hg, q2⟩ := q2
  have t12 := t1.trans t2
  refine ho w2 μ2 H2 _ _ _ v u _ t2.ok (t2.ok.rt (rp_ex t2.le r1)) (t2.ok.rt r2) hg fun z w3 H3 t3 r3 => ?_
  obtain rfl : z = _ := r3
  refine ⟨k, rfl, ite_imp q2 (fun q2 => ?_) fun q2 => ?_⟩
  · refine rc σ ρ w3 μ2 H3 EX _ (sl.le (t12.trans t3).le) t3.ok (lk.step (t12.trans t3)) (mc _ _ _ _ _ (fun z μ4 q4 x4 w4 H4 t4 r4 => ?_) q2)
    obtain ⟨d, hg', k', rfl, q4⟩ := q4
    refine ho' w4 μ4 H4 _ _ _ u x4 _ t4.ok (t4.ok.rt (rp_ex (t3.trans t4).le r2)) (t4.ok.rt r4) hg' fun z w5 H5 t5 r5 => ?_
    obtain rfl : z = _ := r5
    exact ⟨k', rfl, q4 w5 H5 (((t12.trans t3).trans t4).trans t5)⟩
  · obtain ⟨k', e, q2⟩ := q2
    cases e
    exact ⟨_, rfl, q2 w3 H3 (t12.trans t3)⟩
def dNot (T : DTT) : DTT := fun ρ μ EX Q => T ρ μ EX fun k μ' => Q (!k) μ'
theorem pdt_not {T : DTT} (h : PDt X G E a T) : PDt X G E (.UnaryOp .Not a pos) (dNot T) := by
  obtain ⟨⟨t, p, r⟩, m⟩ := h
  exact ⟨⟨_, pt_not p, fun σ ρ w μ H EX Q sl ok lk q => r σ ρ w μ H EX _ sl ok lk q⟩, fun ρ μ EX Q Q' i q => m _ _ _ _ _ (fun d μ' => i _ _) q⟩
def dAnd (T U : DTT) : DTT := fun ρ μ EX Q => T ρ μ EX fun k μ' => if k = true then U ρ μ' EX Q else Q false μ'
def dOr (T U : DTT) : DTT := fun ρ μ EX Q => T ρ μ EX fun k μ' => if k = true then Q true μ' else U ρ μ' EX Q
theorem pdw_and1 {T : DTT} (h : PDt X G E a T) : PDw X G E (.BoolOp .And [a] pos) T := let ⟨⟨t, p, r⟩, m⟩ := h; ⟨⟨t, pw_and1 p, r⟩, m⟩
theorem pdw_or1 {T : DTT} (h : PDt X G E a T) : PDw X G E (.BoolOp .Or [a] pos) T := let ⟨⟨t, p, r⟩, m⟩ := h; ⟨⟨t, pw_or1 p, r⟩, m⟩
theorem pdt_w {T : DTT} (h : PDw X G E a T) : PDt X G E a T := let ⟨⟨t, p, r⟩, m⟩ := h; ⟨⟨t, p.pt, r⟩, m⟩
theorem mono_and {T U : DTT} (m : Mono T) (n : Mono U) : Mono (dAnd T U) := fun ρ μ EX Q Q' i q => m _ _ _ _ _ (fun k μ' h => ite_imp h (n _ _ _ _ _ i) (i _ _)) q
theorem mono_or {T U : DTT} (m : Mono T) (n : Mono U) : Mono (dOr T U) := fun ρ μ EX Q Q' i q => m _ _ _ _ _ (fun k μ' h => ite_imp h (i _ _) (n _ _ _ _ _ i)) q
theorem pdw_and {rest : List Expr} {T U : DTT} (h : PDt X G E a T) (g : PDw X G E (.BoolOp .And (b :: rest) pos) U) : PDw X G E (.BoolOp .And (a :: b :: rest) pos) (dAnd T U) := by
  obtain ⟨⟨t, p, r⟩, m⟩ := h
  obtain ⟨⟨u, p2, r2⟩, m2⟩ := g
  refine ⟨⟨_, pw_and p p2, fun σ ρ w μ H EX Q sl ok lk q => r σ ρ w μ H EX _ sl ok lk (m _ _ _ _ _ (fun k μ' q1 w1 H1 t1 => ?_) q)⟩, mono_and m m2⟩
  refine ite_imp q1 (fun z => ?_) fun z => z w1 H1 t1
  exact r2 σ ρ w1 μ' H1 EX Q (sl.le t1.le) t1.ok (lk.step t1) (m2 _ _ _ _ _ (fun k2 μ2 q2 w2 H2 t2 => q2 w2 H2 (t1.trans t2)) z)
theorem pdw_or {rest : List Expr} {T U : DTT} (h : PDt X G E a T) (g : PDw X G E (.BoolOp .Or (b :: rest) pos) U) : PDw X G E (.BoolOp .Or (a :: b :: rest) pos) (dOr T U) := by
  obtain ⟨⟨t, p, r⟩, m⟩ := h
  obtain ⟨⟨u, p2, r2⟩, m2⟩ := g
  refine ⟨⟨_, pw_or p p2, fun σ ρ w μ H EX Q sl ok lk q => r σ ρ w μ H EX _ sl ok lk (m _ _ _ _ _ (fun k μ' q1 w1 H1 t1 => ?_) q)⟩, mono_or m m2⟩
  refine ite_imp q1 (fun z => z w1 H1 t1) fun z => ?_
  exact r2 σ ρ w1 μ' H1 EX Q (sl.le t1.le) t1.ok (lk.step t1) (m2 _ _ _ _ _ (fun k2 μ2 q2 w2 H2 t2 => q2 w2 H2 (t1.trans t2)) z)
/-! and, or, not as values (by truth) -/
def dAndV (T U : DTE) : DTE := fun ρ μ EX Q => T ρ μ EX fun d μ' => ∃ k, truth (drf μ' d) = some k ∧ if k = true then U ρ μ' EX Q else Q d μ'
def dOrV (T U : DTE) : DTE := fun ρ μ EX Q => T ρ μ EX fun d μ' => ∃ k, truth (drf μ' d) = some k ∧ if k = true then Q d μ' else U ρ μ' EX Q
def dNotV (T : DTE) : DTE := fun ρ μ EX Q => T ρ μ EX fun d μ' => ∃ k, truth (drf μ' d) = some k ∧ Q (.bl (!k)) μ'
theorem pd_one {op} {T : DTE} (h : PD X G E a T) : PD X G E (.BoolOp op [a] pos) T := let ⟨⟨t, p, r⟩, m⟩ := h; ⟨⟨t, pe_one p, r⟩, m⟩
theorem pd_and {rest : List Expr} {T U : DTE} (h : PD X G E a T) (g : PD X G E (.BoolOp .And (b :: rest) pos) U) : PD X G E (.BoolOp .And (a :: b :: rest) pos) (dAndV T U) := by
  obtain ⟨⟨t, p, r⟩, m⟩ := h
  obtain ⟨⟨u, p2, r2⟩, m2⟩ := g
  refine ⟨⟨_, pe_andT p p2, fun σ ρ w μ H EX Q sl ok lk q => r σ ρ w μ H EX _ sl ok lk (m _ _ _ _ _ (fun d μ' q1 v w1 H1 t1 r1 => ?_) q)⟩, fun ρ μ EX Q Q' i q => m _ _ _ _ _ (fun d μ' ⟨k, e, h⟩ => ⟨k, e, ite_imp h (m2 _ _ _ _ _ i) (i _ _)⟩) q⟩
  obtain ⟨k, e, q1⟩ := q1
  refine ⟨k, truV t1.ok.ex (t1.ok.rt r1) e, ite_imp q1 (fun z => ?_) fun z => z v w1 H1 t1 r1⟩
  exact r2 σ ρ w1 μ' H1 EX Q (sl.le t1.le) t1.ok (lk.step t1) (m2 _ _ _ _ _ (fun k2 μ2 q2 v w2 H2 t2 rr => q2 v w2 H2 (t1.trans t2) rr) z)
theorem pd_or {rest : List Expr} {T U : DTE} (h : PD X G E a T) (g : PD X G E (.BoolOp .Or (b :: rest) pos) U) : PD X G E (.BoolOp .Or (a :: b :: rest) pos) (dOrV T U) := by
  obtain ⟨⟨t, p, r⟩, m⟩ := h
  obtain ⟨⟨u, p2, r2⟩, m2⟩ := g
  refine ⟨⟨_, pe_orT p p2, fun σ ρ w μ H EX Q sl ok lk q => r σ ρ w μ H EX _ sl ok lk (m _ _ _ _ _ (fun d μ' q1 v w1 H1 t1 r1 => ?_) q)⟩, fun ρ μ EX Q Q' i q => m _ _ _ _ _ (fun d μ' ⟨k, e, h⟩ => ⟨k, e, ite_imp h (i _ _) (m2 _ _ _ _ _ i)⟩) q⟩
  obtain ⟨k, e, q1⟩ := q1
  refine ⟨k, truV t1.ok.ex (t1.ok.rt r1) e, ite_imp q1 (fun z => z v w1 H1 t1 r1) fun z => ?_⟩
  exact r2 σ ρ w1 μ' H1 EX Q (sl.le t1.le) t1.ok (lk.step t1) (m2 _ _ _ _ _ (fun k2 μ2 q2 v w2 H2 t2 rr => q2 v w2 H2 (t1.trans t2) rr) z)
theorem pd_not {T : DTE} (h : PD X G E a T) : PD X G E (.UnaryOp .Not a pos) (dNotV T) := by
  obtain ⟨⟨t, p, r⟩, m⟩ := h
  refine ⟨⟨_, pe_notT p, fun σ ρ w μ H EX Q sl ok lk q => r σ ρ w μ H EX _ sl ok lk (m _ _ _ _ _ (fun d μ' q1 v w1 H1 t1 r1 => ?_) q)⟩, fun ρ μ EX Q Q' i q => m _ _ _ _ _ (fun d μ' ⟨k, e, h⟩ => ⟨k, e, i _ _ h⟩) q⟩
  obtain ⟨k, e, q1⟩ := q1
  exact ⟨k, truV t1.ok.ex (t1.ok.rt r1) e, q1 _ w1 H1 t1 rfl⟩
def dIfE (T : DTT) (U W : DTE) : DTE := fun ρ μ EX Q => T ρ μ EX fun k μ' => if k = true then U ρ μ' EX Q else W ρ μ' EX Q
theorem pd_ifE {T : DTT} {U W : DTE} (hc : PDt X G E c T) (ha : PD X G E a U) (hb : PD X G E b W) : PD X G E (.IfExp c a b pos) (dIfE T U W) := by
  obtain ⟨⟨t, p, r⟩, m⟩ := hc
  obtain ⟨⟨u, p2, r2⟩, m2⟩ := ha
  obtain ⟨⟨v, p3, r3⟩, m3⟩ := hb
  refine ⟨⟨_, pe_ifExp p p2 p3, fun σ ρ w μ H EX Q sl ok lk q => r σ ρ w μ H EX _ sl ok lk (m _ _ _ _ _ (fun k μ' q1 w1 H1 t1 => ?_) q)⟩, fun ρ μ EX Q Q' i q => m _ _ _ _ _ (fun k μ' h => ite_imp h (m2 _ _ _ _ _ i) (m3 _ _ _ _ _ i)) q⟩
  refine ite_imp q1 (fun z => ?_) fun z => ?_
  · exact r2 σ ρ w1 μ' H1 EX Q (sl.le t1.le) t1.ok (lk.step t1) (m2 _ _ _ _ _ (fun k2 μ2 q2 v w2 H2 t2 rr => q2 v w2 H2 (t1.trans t2) rr) z)
  · exact r3 σ ρ w1 μ' H1 EX Q (sl.le t1.le) t1.ok (lk.step t1) (m3 _ _ _ _ _ (fun k2 μ2 q2 v w2 H2 t2 rr => q2 v w2 H2 (t1.trans t2) rr) z)
end
end Dl
set_option Elab.async false
set_option linter.all false
set_option autoImplicit false
set_option maxRecDepth 100000
set_option maxHeartbeats 2000000
/-! B3: statements over data -/
namespace Dl
open PySem PySem.Spec PyProof.Rows L2 Evl
structure DEnds where
  nx : DEnv → Mu → Prop
  rt : D → Mu → Prop
  bk : DEnv → Mu → Prop
  ct : DEnv → Mu → Prop
  ex : EXt
abbrev DTS := DEnds → DEnv → Mu → Prop
structure DEnds.Le (A B : DEnds) : Prop where
  nx : ∀ ρ μ, A.nx ρ μ → B.nx ρ μ
  rt : ∀ d μ, A.rt d μ → B.rt d μ
  bk : ∀ ρ μ, A.bk ρ μ → B.bk ρ μ
  ct : ∀ ρ μ, A.ct ρ μ → B.ct ρ μ
  ex : A.ex = B.ex
def MonoS (T : DTS) : Prop := ∀ A B ρ μ, DEnds.Le A B → T A ρ μ → T B ρ μ
structure LnkS (K : PySem.W.Frag) (G : Gx) (w : Wd) (μ : Mu) (H : Hp) (D : Ends) (A : DEnds) : Prop where
  nx : ∀ σ ρ w' μ' H', Stp K G w μ H w' μ' H' → Sl K G w' σ ρ → A.nx ρ μ' → D.nx σ H'
  rt : ∀ v d w' μ' H', Stp K G w μ H w' μ' H' → Rp K G w' d v → A.rt d μ' → D.rt v H'
  bk : ∀ σ ρ w' μ' H', Stp K G w μ H w' μ' H' → Sl K G w' σ ρ → A.bk ρ μ' → D.bk σ H'
  ct : ∀ σ ρ w' μ' H', Stp K G w μ H w' μ' H' → Sl K G w' σ ρ → A.ct ρ μ' → D.ct σ H'
theorem LnkS.step {K : PySem.W.Frag} {G : Gx} {w w1 : Wd} {μ μ1 : Mu} {H H1 : Hp} {D : Ends} {A : DEnds} (l : LnkS K G w μ H D A) (t : Stp K G w μ H w1 μ1 H1) : LnkS K G w1 μ1 H1 D A :=
  ⟨fun σ ρ w' μ' H' u => l.nx σ ρ w' μ' H' (t.trans u), fun v d w' μ' H' u => l.rt v d w' μ' H' (t.trans u), fun σ ρ w' μ' H' u => l.bk σ ρ w' μ' H' (t.trans u), fun σ ρ w' μ' H' u => l.ct σ ρ w' μ' H' (t.trans u)⟩
def RunS (K : PySem.W.Frag) (G : Gx) (E : XS) (t : TS) (T : DTS) : Prop := ∀ (σ : L2.St) (ρ : DEnv) (w : Wd) (μ : Mu) (H : Hp) (D : Ends) (A : DEnds), Sl K G w σ ρ → Okk K G w μ H → Lk K G E A.ex w μ H → LnkS K G w μ H D A → T A ρ μ → t D σ H
structure PSD (X : Cx) (G : Gx) (E : XS) (st : Stmt) (T : DTS) : Prop where
  ex : ∃ t, PS X st t ∧ RunS X.K G E t T
  mono : MonoS T
structure PSDs (X : Cx) (G : Gx) (E : XS) (st : List Stmt) (T : DTS) : Prop where
  ex : ∃ t, PSs X st t ∧ RunS X.K G E t T
  mono : MonoS T
theorem DEnds.Le.refl (A : DEnds) : DEnds.Le A A := ⟨fun _ _ h => h, fun _ _ h => h, fun _ _ h => h, fun _ _ h => h, rfl⟩
section
variable {X : Cx} {G : Gx} {E : XS} {e a b c : Expr} {pos : Pos} {st : Stmt} {rest body sts : List Stmt}
def dNx : DTS := fun A ρ μ => A.nx ρ μ
def dSeq (T U : DTS) : DTS := fun A ρ μ => T { A with nx := U A } ρ μ
theorem psd_nil : PSDs X G E [] dNx := ⟨⟨_, pss_nil, fun σ ρ w μ H D A sl ok lk l q => l.nx σ ρ w μ H (.refl ok) sl q⟩, fun A B ρ μ l q => l.nx _ _ q⟩
theorem psd_one {T : DTS} (h : PSD X G E st T) : PSDs X G E [st] T := let ⟨⟨t, p, r⟩, m⟩ := h; ⟨⟨t, pss_one p, r⟩, m⟩
theorem psd_cons {T U : DTS} (h : PSD X G E st T) (g : PSDs X G E rest U) : PSDs X G E (st :: rest) (dSeq T U) := by
  obtain ⟨⟨t, p, r⟩, m⟩ := h
  obtain ⟨⟨u, p2, r2⟩, m2⟩ := g
  refine ⟨⟨_, pss_cons p p2, fun σ ρ w μ H D A sl ok lk l q => ?_⟩, fun A B ρ μ l q => m { A with nx := U A } { B with nx := U B } ρ μ ⟨fun ρ' μ' => m2 _ _ _ _ l, l.rt, l.bk, l.ct, l.ex⟩ q⟩
  refine r σ ρ w μ H _ { A with nx := U A } sl ok lk ⟨fun σ' ρ' w' μ' H' t' sl' q' => ?_, l.rt, l.bk, l.ct⟩ q
  exact r2 σ' ρ' w' μ' H' D A sl' t'.ok (lk.step t') (l.step t') q'
theorem psd_pass : PSD X G E (.Pass pos) dNx := ⟨⟨_, ps_pass, fun σ ρ w μ H D A sl ok lk l q => l.nx σ ρ w μ H (.refl ok) sl q⟩, fun A B ρ μ l q => l.nx _ _ q⟩
theorem psd_doc {x j p pos'} : PSD X G E (.Expr (.Constant (.str x) j p) pos') dNx := ⟨⟨_, ps_doc, fun σ ρ w μ H D A sl ok lk l q => l.nx σ ρ w μ H (.refl ok) sl q⟩, fun A B ρ μ l q => l.nx _ _ q⟩
def dBrk : DTS := fun A ρ μ => A.bk ρ μ
def dCnt : DTS := fun A ρ μ => A.ct ρ μ
theorem psd_brk : PSD X G E (.Break pos) dBrk := ⟨⟨_, ps_break, fun σ ρ w μ H D A sl ok lk l q => l.bk σ ρ w μ H (.refl ok) sl q⟩, fun A B ρ μ l q => l.bk _ _ q⟩
theorem psd_cnt : PSD X G E (.Continue pos) dCnt := ⟨⟨_, ps_continue, fun σ ρ w μ H D A sl ok lk l q => l.ct σ ρ w μ H (.refl ok) sl q⟩, fun A B ρ μ l q => l.ct _ _ q⟩
def dDrop (T : DTE) : DTS := fun A ρ μ => T ρ μ A.ex fun _ μ' => A.nx ρ μ'
theorem psd_expr {T : DTE} (h : PD X G E e T) (hs : swapsWith e none pos.line X.env = pure false := by rfl) : PSD X G E (.Expr e pos) (dDrop T) := by
  obtain ⟨⟨t, p, r⟩, m⟩ := h
  refine ⟨⟨_, ps_expr p hs, fun σ ρ w μ H D A sl ok lk l q => r σ ρ w μ H A.ex _ sl ok lk (m _ _ _ _ _ (fun d μ' q' v w' H' t' r' => l.nx σ ρ w' μ' H' t' (sl.le t'.le) q') q)⟩, fun A B ρ μ l q => ?_⟩
  unfold dDrop at q ⊢
  rw [← l.ex]
  exact m _ _ _ _ _ (fun d μ' => l.nx _ _) q
def dRet (T : DTE) : DTS := fun A ρ μ => T ρ μ A.ex fun d μ' => A.rt d μ'
theorem psd_ret {T : DTE} (h : PD X G E e T) : PSD X G E (.Return (some e) pos) (dRet T) := by
  obtain ⟨⟨t, p, r⟩, m⟩ := h
  refine ⟨⟨_, ps_ret p, fun σ ρ w μ H D A sl ok lk l q => r σ ρ w μ H A.ex _ sl ok lk (m _ _ _ _ _ (fun d μ' q' v w' H' t' r' => l.rt v d w' μ' H' t' r' q') q)⟩, fun A B ρ μ l q => ?_⟩
  unfold dRet at q ⊢
  rw [← l.ex]
  exact m _ _ _ _ _ (fun d μ' => l.rt _ _) q
def dRetN : DTS := fun A _ μ => A.rt .non μ
theorem psd_retN : PSD X G E (.Return none pos) dRetN := ⟨⟨_, ps_retN, fun σ ρ w μ H D A sl ok lk l q => l.rt .non .non w μ H (.refl ok) rfl q⟩, fun A B ρ μ l q => l.rt _ _ q⟩
def dIfS (T : DTT) (U W : DTS) : DTS := fun A ρ μ => T ρ μ A.ex fun k μ' => if k = true then U A ρ μ' else W A ρ μ'
theorem psd_if {sa sb : List Stmt} {T : DTT} {U W : DTS} (hc : PDt X G E c T) (ha : PSDs X G E sa U) (hb : PSDs X G E sb W) : PSD X G E (.If c sa sb pos) (dIfS T U W) := by
  obtain ⟨⟨t, p, r⟩, m⟩ := hc
  obtain ⟨⟨u, p2, r2⟩, m2⟩ := ha
  obtain ⟨⟨v, p3, r3⟩, m3⟩ := hb
  refine ⟨⟨_, ps_if p p2 p3, fun σ ρ w μ H D A sl ok lk l q => r σ ρ w μ H A.ex _ sl ok lk (m _ _ _ _ _ (fun k μ' q1 w1 H1 t1 => ?_) q)⟩, fun A B ρ μ l q => ?_⟩
  · refine ite_imp q1 (fun z => ?_) fun z => ?_
    · exact r2 σ ρ w1 μ' H1 D A (sl.le t1.le) t1.ok (lk.step t1) (l.step t1) z
    · exact r3 σ ρ w1 μ' H1 D A (sl.le t1.le) t1.ok (lk.step t1) (l.step t1) z
  · unfold dIfS at q ⊢
    rw [← l.ex]
    exact m _ _ _ _ _ (fun k μ' h => ite_imp h (m2 _ _ _ _ l) (m3 _ _ _ _ l)) q
/-- never come to -/
def dNo : DTS := fun _ _ _ => False
theorem psd_no : PSD X G E st dNo := ⟨⟨_, ps_never, fun _ _ _ _ _ _ _ _ _ _ _ q => q⟩, fun _ _ _ _ _ q => q⟩
theorem psds_no : PSDs X G E sts dNo := ⟨⟨_, pss_never, fun _ _ _ _ _ _ _ _ _ _ _ q => q⟩, fun _ _ _ _ _ q => q⟩
/-- a slot's cell becomes data, for good -/
def dFrz (i : Nat) (T : DTS) : DTS := fun A ρ μ => match ρ[i]? with
  | some (some x) => fzD x μ fun d μ' => T A (ρ.set i (some d)) μ'
  | _ => False
theorem psds_frz {T : DTS} (i : Nat) (h : PSDs X G E sts T) : PSDs X G E sts (dFrz i T) := by
  obtain ⟨⟨t, p, r⟩, m⟩ := h
  refine ⟨⟨t, p, fun σ ρ w μ H D A sl ok lk l q => ?_⟩, fun A B ρ μ l q => ?_⟩
  · unfold dFrz at q
    split at q
    · rename_i x hx
      obtain ⟨v, e1, r1⟩ := sl.dat i x hx
      obtain ⟨d', w', μ', t1, r2, q2⟩ := fz_ok ok r1 q
      refine r σ _ w' μ' H D A ?_ t1.ok (lk.step t1) (l.step t1) q2
      have := (sl.le t1.le).set (i := i) r2
      rwa [show σ.set i (some v) = σ from by
        apply List.ext_getElem?
        intro j
        by_cases ij : i = j
        · subst ij
          rw [List.getElem?_set_self (List.getElem?_eq_some_iff.mp e1).1, e1]
        · rw [List.getElem?_set_ne ij]] at this
    · exact q.elim
  · unfold dFrz at q ⊢
    split at q
    · exact mono_fzD (fun d μ' => m _ _ _ _ l) q
    · exact q.elim
/-! stores -/
def dSet (i : Nat) (T : DTE) : DTS := fun A ρ μ => T ρ μ A.ex fun d μ' => A.nx (ρ.set i (some d)) μ'
theorem mono_set {i : Nat} {T : DTE} (m : Mono T) : MonoS (dSet i T) := fun A B ρ μ l q => by
  unfold dSet at q ⊢
  rw [← l.ex]
  exact m _ _ _ _ _ (fun d μ' => l.nx _ _) q
theorem psd_setG {i : Nat} {T : DTE} {tg : Expr} {te : TE} (hp : PS X (.Assign [tg] e pos) (tAsg te (gName i))) (hr : RunE X.K G E te T) (m : Mono T) : PSD X G E (.Assign [tg] e pos) (dSet i T) :=
  ⟨⟨_, hp, fun σ ρ w μ H D A sl ok lk l q => hr σ ρ w μ H A.ex _ sl ok lk (m _ _ _ _ _ (fun d μ' q' v w' H' t' r' => l.nx _ _ w' μ' H' t' ((sl.le t'.le).set r') q') q)⟩, mono_set m⟩
theorem psd_set {i : Nat} {x : Str} {T : DTE} {pos' : Pos} (hN : X.N.Nodup) (hi : X.N[i]? = some x) (hx : Loc X.env.scope x) (h : PD X G E e T) (hs : swapsWith e (some (.Name x pos')) pos.line X.env = pure false := by rfl) (hf : X.fn x = true ∨ X.env.scope.names.lookup x = some .local := by first | exact .inl rfl | exact .inr rfl | assumption) :
    PSD X G E (.Assign [.Name x pos'] e pos) (dSet i T) := by
  obtain ⟨⟨t, p, r⟩, m⟩ := h
  exact psd_setG (ps_set hN hi hx p hs hf) r m
/-! targets -/
abbrev DTG := D → DEnv → (DEnv → Prop) → Prop
abbrev DTGs := List D → DEnv → (DEnv → Prop) → Prop
abbrev MonoG (T : DTG) : Prop := ∀ d ρ Q Q', (∀ ρ', Q ρ' → Q' ρ') → T d ρ Q → T d ρ Q'
/-- the slots is alone may have changed -/
def Only (is : List Nat) (σ σ' : L2.St) : Prop := ∀ vs : List Nat, (∀ i ∈ is, i ∈ vs) → wipe σ' vs = wipe σ vs
theorem wipe_get (σ : L2.St) (j : Nat) : ∀ vs : List Nat, (wipe σ vs)[j]? = if j ∈ vs then (σ[j]?).map (fun _ => none) else σ[j]?
  | [] => by simp [wipe]
  | v :: vs => by
    unfold wipe
    by_cases h : v = j
    · subst h
      rw [if_pos List.mem_cons_self]
      by_cases hl : v < σ.length
      · rw [List.getElem?_set_self (by rw [wipe_length]; exact hl), List.getElem?_eq_getElem hl]
        rfl
      · rw [List.getElem?_eq_none (by rw [List.length_set, wipe_length]; omega), List.getElem?_eq_none (by omega)]
        rfl
    · rw [List.getElem?_set_ne h, wipe_get σ j vs]
      have : (j ∈ v :: vs) ↔ j ∈ vs := by simp [Ne.symm h]
      by_cases q : j ∈ vs
      · rw [if_pos q, if_pos (this.mpr q)]
      · rw [if_neg q, if_neg fun z => q (this.mp z)]
theorem only_set {σ : L2.St} {i : Nat} {x : Option V} : Only [i] σ (σ.set i x) := fun vs h => by
  apply List.ext_getElem?
  intro j
  rw [wipe_get, wipe_get]
  by_cases q : j ∈ vs
  · rw [if_pos q, if_pos q, List.getElem?_set]
    by_cases z : i = j
    · subst z
      rw [if_pos rfl]
      by_cases hl : i < σ.length
      · rw [if_pos hl, List.getElem?_eq_getElem hl]
        rfl
      · rw [if_neg hl, List.getElem?_eq_none (by omega)]
    · rw [if_neg z]
  · rw [if_neg q, if_neg q, List.getElem?_set_ne fun z : i = j => q (z ▸ h i (by simp))]
theorem Only.trans {is js : List Nat} {σ σ1 σ2 : L2.St} (a : Only is σ σ1) (b : Only js σ1 σ2) : Only (is ++ js) σ σ2 := fun vs h => (b vs fun i m => h i (List.mem_append_right _ m)).trans (a vs fun i m => h i (List.mem_append_left _ m))
def RunG (K : PySem.W.Frag) (G : Gx) (is : List Nat) (g : TG) (T : DTG) : Prop := ∀ (σ : L2.St) (ρ : DEnv) (w : Wd) (μ : Mu) (H : Hp) (d : D) (v : V) (Q : L2.St → Hp → Prop), Sl K G w σ ρ → Okk K G w μ H → Rp K G w d v → T d ρ (fun ρ' => ∀ σ', Sl K G w σ' ρ' → Only is σ σ' → Q σ' H) → g v σ H Q
structure PDg (X : Cx) (G : Gx) (tg : Expr) (is : List Nat) (T : DTG) : Prop where
  ex : ∃ g, PG X tg g ∧ RunG X.K G is g T
  mono : MonoG T
structure PDgs (X : Cx) (G : Gx) (tgs : List Expr) (is : List Nat) (T : DTGs) : Prop where
  ex : ∃ g, PGs X tgs g ∧ ∀ (σ : L2.St) (ρ : DEnv) (w : Wd) (μ : Mu) (H : Hp) (ds : List D) (vs : List V) (Q : L2.St → Hp → Prop), Sl X.K G w σ ρ → Okk X.K G w μ H → Rps X.K G w ds vs → T ds ρ (fun ρ' => ∀ σ', Sl X.K G w σ' ρ' → Only is σ σ' → Q σ' H) → g vs σ H Q
  mono : ∀ d ρ Q Q', (∀ ρ', Q ρ' → Q' ρ') → T d ρ Q → T d ρ Q'
def gN (i : Nat) : DTG := fun d ρ Q => Q (ρ.set i (some d))
theorem pdg_name {i : Nat} {x : Str} (hN : X.N.Nodup) (hi : X.N[i]? = some x) (hx : Loc X.env.scope x) (hf : X.fn x = true ∨ X.env.scope.names.lookup x = some .local := by first | exact .inl rfl | exact .inr rfl | assumption) : PDg X G (.Name x pos) [i] (gN i) :=
  ⟨⟨_, pg_name hN hi hx hf, fun σ ρ w μ H d v Q sl ok r q => q _ (sl.set r) only_set⟩, fun d ρ Q Q' i q => i _ q⟩
def gNl : DTGs := fun ds ρ Q => ds = [] ∧ Q ρ
def gCn (T : DTG) (U : DTGs) : DTGs := fun ds ρ Q => match ds with
  | [] => False
  | d :: r => T d ρ fun ρ' => U r ρ' Q
theorem pdgs_nil : PDgs X G [] [] gNl := ⟨⟨_, pgs_nil, fun σ ρ w μ H ds vs Q sl ok r q => by
  obtain ⟨rfl, q⟩ := q
  obtain rfl : vs = [] := r
  exact ⟨rfl, q _ sl (fun _ _ => rfl)⟩⟩, fun d ρ Q Q' i ⟨e, q⟩ => ⟨e, i _ q⟩⟩
theorem pdgs_cons {es : List Expr} {is js : List Nat} {T : DTG} {U : DTGs} (h : PDg X G e is T) (g : PDgs X G es js U) (hs : (assignEach (e :: es) X.env).map (·.2) = assign e X.env :: (assignEach es X.env).map (·.2) := by rfl) : PDgs X G (e :: es) (is ++ js) (gCn T U) := by
  obtain ⟨⟨t, p, r⟩, m⟩ := h
  obtain ⟨⟨u, p2, r2⟩, m2⟩ := g
  refine ⟨⟨_, pgs_cons p p2 hs, fun σ ρ w μ H ds vs Q sl ok rr q => ?_⟩, fun d ρ Q Q' i q => ?_⟩
  · cases ds with
    | nil => exact q.elim
    | cons d ds =>
      obtain ⟨v, us, rfl, h1, h2⟩ := rr
      exact ⟨v, us, rfl, r σ ρ w μ H d v _ sl ok h1 (m _ _ _ _ (fun ρ' q' σ' sl' o => r2 σ' ρ' w μ H ds us Q sl' ok h2 (m2 _ _ _ _ (fun ρ2 q2 σ2 sl2 o2 => q2 σ2 sl2 (o.trans o2)) q')) q)⟩
  · cases d with
    | nil => exact q.elim
    | cons d ds => exact m _ _ _ _ (fun ρ' q' => m2 _ _ _ _ i q') q
def gTp (n : Nat) (T : DTGs) : DTG := fun d ρ Q => match d with
  | .tup xs => xs.length = n ∧ T xs ρ Q
  | _ => False
theorem pdg_tup {es : List Expr} {k : Nat} {is : List Nat} {T : DTGs} {n : Nat} (hc : X.calm = true) (h : PDgs X G es is T) (hn : (assignEach es X.env).length = n := by rfl) (hst : (assignEach es X.env).findIdx? (·.1) = none := by rfl) : PDg X G (.Tuple es k pos) is (gTp n T) := by
  obtain ⟨⟨t, p, r⟩, m⟩ := h
  refine ⟨⟨_, pg_tup hc p hn hst, fun σ ρ w μ H d v Q sl ok rr q => ?_⟩, fun d ρ Q Q' i q => ?_⟩
  · cases d with
    | tup xs =>
      obtain ⟨a, vs, rfl, h1, h2⟩ := rr
      exact ⟨a, vs, rfl, SqT.of (ok.ex _ _ h1), by rw [rps_len h2]; exact q.1, r σ ρ w μ H xs vs Q sl ok h2 q.2⟩
    | _ => exact q.elim
  · cases d with
    | tup xs => exact ⟨q.1, m _ _ _ _ i q.2⟩
    | _ => exact q.elim
/-- a, b = e -/
def dAsg (T : DTE) (Tg : DTG) : DTS := fun A ρ μ => T ρ μ A.ex fun d μ' => Tg d ρ fun ρ' => A.nx ρ' μ'
theorem psd_asg {tg : Expr} {is : List Nat} {T : DTE} {Tg : DTG} (h : PD X G E e T) (g : PDg X G tg is Tg) (hs : swapsWithSole [tg] e pos.line X.env = pure false := by rfl) (hw : swappedStores [tg] e X.env = pure none := by rfl)
    (h1 : (assignEach [tg] X.env).map (·.2) = [assign tg X.env] := by rfl) : PSD X G E (.Assign [tg] e pos) (dAsg T Tg) := by
  obtain ⟨⟨t, p, r⟩, m⟩ := h
  obtain ⟨⟨u, p2, r2⟩, m2⟩ := g
  refine ⟨⟨_, ps_asg p p2 hs hw h1, fun σ ρ w μ H D A sl ok lk l q => r σ ρ w μ H A.ex _ sl ok lk (m _ _ _ _ _ (fun d μ' q' v w' H' t' r' => ?_) q)⟩, fun A B ρ μ l q => ?_⟩
  · exact r2 σ ρ w' μ' H' d v _ (sl.le t'.le) t'.ok r' (m2 _ _ _ _ (fun ρ2 q2 σ2 sl2 _ => l.nx _ _ w' μ' H' t' sl2 q2) q')
  · unfold dAsg at q ⊢
    rw [← l.ex]
    exact m _ _ _ _ _ (fun d μ' => m2 _ _ _ _ fun ρ' => l.nx _ _) q
/-- a, b = e, f -/
def dPar (i j : Nat) (T : DTA) : DTS := fun A ρ μ => T ρ μ A.ex fun ds μ' => match ds with
  | [x, y] => A.nx ((ρ.set i (some x)).set j (some y)) μ'
  | _ => False
theorem psd_par {i j : Nat} {x y : Str} {T : DTA} {px py pt : Pos} {kt k2 pt2} (hc : X.calm = true) (hN : X.N.Nodup) (mk : ∀ ta, PA X [a, b] ta → PS X (.Assign [.Tuple [.Name x px, .Name y py] kt pt] (.Tuple [a, b] k2 pt2) pos) (tPar i j ta)) (h : PDa X G E [a, b] T) : PSD X G E (.Assign [.Tuple [.Name x px, .Name y py] kt pt] (.Tuple [a, b] k2 pt2) pos) (dPar i j T) := by
  obtain ⟨⟨t, p, r⟩, m⟩ := h
  refine ⟨⟨_, mk t p, fun σ ρ w μ H D A sl ok lk l q => r σ ρ w μ H A.ex _ sl ok lk (m _ _ _ _ _ (fun ds μ' q' vs w' H' t' r' => ?_) q)⟩, fun A B ρ μ l q => ?_⟩
  · split at q'
    · obtain ⟨v, us, rfl, h1, h2⟩ := r'
      obtain ⟨u, us2, rfl, h3, h4⟩ := h2
      obtain rfl : us2 = [] := h4
      exact ⟨v, u, rfl, l.nx _ _ w' μ' H' t' (((sl.le t'.le).set h1).set h3) q'⟩
    · exact q'.elim
  · unfold dPar at q ⊢
    rw [← l.ex]
    refine m _ _ _ _ _ (fun ds μ' h => ?_) q
    split at h
    · exact l.nx _ _ h
    · exact h.elim
/-! what loops walk: the items; what must stay so while it walks -/
abbrev DTI := DEnv → Mu → EXt → (List D → (Mu → Prop) → Mu → Prop) → Prop
def MonoI (T : DTI) : Prop := ∀ ρ μ EX Q Q', (∀ ds c μ', Q ds c μ' → Q' ds c μ') → T ρ μ EX Q → T ρ μ EX Q'
structure WalkD (K : PySem.W.Frag) (G : Gx) (w0 : Wd) (chk : Mu → Prop) (J : It) (ds : List D) : Prop where
  go : ∀ (i : Nat) (w : Wd) (μ : Mu) (H : Hp), i < ds.length → Wd.Le w0 w → Okk K G w μ H → chk μ → J.go i H
  stop : ∀ (w : Wd) (μ : Mu) (H : Hp), Wd.Le w0 w → Okk K G w μ H → chk μ → J.stop ds.length H
  yld : ∀ (i : Nat) (w : Wd) (μ : Mu) (H : Hp) (x : V) (H' : Hp), i < ds.length → Wd.Le w0 w → Okk K G w μ H → chk μ → J.yld i H x H' → ∃ d w', ds[i]? = some d ∧ Stp K G w μ H w' μ H' ∧ Rp K G w' d x
def RunI (K : PySem.W.Frag) (G : Gx) (E : XS) (wi : TI) (T : DTI) : Prop := ∀ (σ : L2.St) (ρ : DEnv) (w : Wd) (μ : Mu) (H : Hp) (EX : EXt) (Q : It → Hp → Prop), Sl K G w σ ρ → Okk K G w μ H → Lk K G E EX w μ H →
  T ρ μ EX (fun ds chk μ' => ∀ J w' H', Stp K G w μ H w' μ' H' → WalkD K G w' chk J ds → Q J H') → wi σ H Q
structure PDi (X : Cx) (G : Gx) (E : XS) (tg iter : Expr) (T : DTI) : Prop where
  ex : ∃ wi, PI X tg iter wi ∧ RunI X.K G E wi T
  mono : MonoI T
def dLoop (Tg : DTG) (B : DTS) (chk : Mu → Prop) (A : DEnds) : List D → DEnv → Mu → Prop
  | [], ρ, μ => chk μ ∧ A.nx ρ μ
  | d :: ds, ρ, μ => chk μ ∧ Tg d ρ fun ρ' => B { A with nx := dLoop Tg B chk A ds, ct := dLoop Tg B chk A ds, bk := A.nx } ρ' μ
def dFor (I : DTI) (Tg : DTG) (B : DTS) : DTS := fun A ρ μ => I ρ μ A.ex fun ds chk μ' => dLoop Tg B chk A ds ρ μ'
theorem mono_loop {Tg : DTG} {B : DTS} {chk : Mu → Prop} (mg : MonoG Tg) (mb : MonoS B) {A A' : DEnds} (l : DEnds.Le A A') : ∀ (ds : List D) (ρ : DEnv) (μ : Mu), dLoop Tg B chk A ds ρ μ → dLoop Tg B chk A' ds ρ μ
  | [], ρ, μ, q => ⟨q.1, l.nx _ _ q.2⟩
  | d :: ds, ρ, μ, q => ⟨q.1, mg _ _ _ _ (fun ρ' => mb { A with nx := dLoop Tg B chk A ds, ct := dLoop Tg B chk A ds, bk := A.nx } { A' with nx := dLoop Tg B chk A' ds, ct := dLoop Tg B chk A' ds, bk := A'.nx } _ _ ⟨mono_loop mg mb l ds, l.rt, l.nx, mono_loop mg mb l ds, l.ex⟩) q.2⟩
theorem loop_chk {Tg : DTG} {B : DTS} {chk : Mu → Prop} {A : DEnds} : ∀ {ds : List D} {ρ : DEnv} {μ : Mu}, dLoop Tg B chk A ds ρ μ → chk μ
  | [], _, _, q => q.1
  | _ :: _, _, _, q => q.1
theorem psd_for {tg iter : Expr} {is : List Nat} {I : DTI} {Tg : DTG} {B : DTS} (hp : PassesOwn (model X.prog X.w) X.A X.env X.xe) (hc : X.calm = true) (hi : PDi X G E tg iter I) (hg : PDg X G tg is Tg) (hb : PSDs X G E body B)
    (hs : ∀ x, foldedSetIterable iter X.env x = pure x := by intro _; rfl) : PSD X G E (.For tg iter body [] pos) (dFor I Tg B) := by
  obtain ⟨⟨wi, pw, rw_⟩, mw⟩ := hi
  obtain ⟨⟨g, pg, rg⟩, mg⟩ := hg
  obtain ⟨⟨t, pt, rt⟩, mt⟩ := hb
  refine ⟨⟨_, ps_for hp hc pw pg pt hs, fun σ ρ w μ H D A sl ok lk l q => ?_⟩, fun A B' ρ μ l q => ?_⟩
  · refine rw_ σ ρ w μ H A.ex _ sl ok lk (mw _ _ _ _ _ (fun ds chk μ1 q1 J w1 H1 t1 wk => ?_) q)
    refine ⟨fun i m σ' H' => m = ds.length - i ∧ i ≤ ds.length ∧ ∃ ρ' w' μ', Stp X.K G w1 μ1 H1 w' μ' H' ∧ Sl X.K G w' σ' ρ' ∧ dLoop Tg B chk A (ds.drop i) ρ' μ', ⟨_, rfl, Nat.zero_le _, ρ, w1, μ1, .refl t1.ok, sl.le t1.le, q1⟩, ?_⟩
    rintro i m σ2 H2 ⟨rfl, hi, ρ2, w2, μ2, t2, sl2, q2⟩
    have ck := loop_chk q2
    by_cases hlt : i < ds.length
    · refine .inr ⟨wk.go i w2 μ2 H2 hlt t2.le t2.ok ck, fun σ' H' => ∃ ρ' w' μ', Stp X.K G w1 μ1 H1 w' μ' H' ∧ Sl X.K G w' σ' ρ' ∧ dLoop Tg B chk A (ds.drop (i + 1)) ρ' μ', fun σ' H' ⟨ρ', w', z⟩ => ⟨ds.length - (i + 1), by omega, rfl, hlt, ρ', w', z⟩, fun x H3 y => ?_⟩
      obtain ⟨d, w3, e3, t3, r3⟩ := wk.yld i w2 μ2 H2 x H3 hlt t2.le t2.ok ck y
      have e3' : ds[i] = d := by rw [List.getElem?_eq_getElem hlt] at e3; exact Option.some.inj e3
      rw [List.drop_eq_getElem_cons hlt, e3'] at q2
      refine rg σ2 ρ2 w3 μ2 H3 d x _ (sl2.le t3.le) t3.ok r3 (mg _ _ _ _ (fun ρ4 q4 σ4 sl4 _ => ?_) q2.2)
      have t13 := (t1.trans t2).trans t3
      refine rt σ4 ρ4 w3 μ2 H3 _ { A with nx := dLoop Tg B chk A (ds.drop (i + 1)), ct := dLoop Tg B chk A (ds.drop (i + 1)), bk := A.nx } sl4 t3.ok (lk.step t13) ⟨fun σ5 ρ5 w5 μ5 H5 t5 sl5 q5 => ?_, (l.step t13).rt, (l.step t13).nx, fun σ5 ρ5 w5 μ5 H5 t5 sl5 q5 => ?_⟩ q4
      · exact ⟨ρ5, w5, μ5, (t2.trans t3).trans t5, sl5, q5⟩
      · exact ⟨ρ5, w5, μ5, (t2.trans t3).trans t5, sl5, q5⟩
    · have e : i = ds.length := by omega
      subst e
      rw [List.drop_length] at q2
      exact .inl ⟨wk.stop w2 μ2 H2 t2.le t2.ok ck, l.nx _ _ w2 μ2 H2 (t1.trans t2) sl2 q2.2⟩
  · unfold dFor at q ⊢
    rw [← l.ex]
    exact mw _ _ _ _ _ (fun ds c μ' => mono_loop mg mt l ds _ _) q
/-- while, by a measure -/
def dWhile (T : DTT) (B : DTS) : DTS := fun A ρ μ => ∃ W : Nat → DEnv → Mu → Prop, (∃ m, W m ρ μ) ∧ ∀ m ρ μ, W m ρ μ → T ρ μ A.ex fun k μ' =>
  if k = true then B { A with nx := fun ρ2 μ2 => ∃ m', m' < m ∧ W m' ρ2 μ2, ct := fun ρ2 μ2 => ∃ m', m' < m ∧ W m' ρ2 μ2, bk := A.nx } ρ μ' else A.nx ρ μ'
theorem psd_while {T : DTT} {B : DTS} (hp : PassesOwn (model X.prog X.w) X.A X.env X.xe) (hc : PDt X G E c T) (hb : PSDs X G E body B) : PSD X G E (.While c body [] pos) (dWhile T B) := by
  obtain ⟨⟨t, pt, rt⟩, mt⟩ := hc
  obtain ⟨⟨u, pu, ru⟩, mu⟩ := hb
  refine ⟨⟨_, ps_while hp pt pu, fun σ ρ w μ H D A sl ok lk l q => ?_⟩, fun A B' ρ μ l q => ?_⟩
  · obtain ⟨W, ⟨m0, w0⟩, turn⟩ := q
    refine ⟨fun m σ' H' => ∃ ρ' w' μ', Stp X.K G w μ H w' μ' H' ∧ Sl X.K G w' σ' ρ' ∧ W m ρ' μ', ⟨m0, ρ, w, μ, .refl ok, sl, w0⟩, ?_⟩
    rintro m σ1 H1 ⟨ρ1, w1, μ1, t1, sl1, z1⟩
    refine rt σ1 ρ1 w1 μ1 H1 A.ex _ sl1 t1.ok (lk.step t1) (mt _ _ _ _ _ (fun k μ2 q2 w2 H2 t2 => ?_) (turn m ρ1 μ1 z1))
    refine ite_imp q2 (fun z => ?_) fun z => l.nx _ _ w2 μ2 H2 (t1.trans t2) (sl1.le t2.le) z
    refine ⟨fun σ' H' => ∃ m', m' < m ∧ ∃ ρ' w' μ', Stp X.K G w μ H w' μ' H' ∧ Sl X.K G w' σ' ρ' ∧ W m' ρ' μ', fun σ' H' h => h, ?_⟩
    refine ru σ1 ρ1 w2 μ2 H2 _ { A with nx := fun ρ2 μ2 => ∃ m', m' < m ∧ W m' ρ2 μ2, ct := fun ρ2 μ2 => ∃ m', m' < m ∧ W m' ρ2 μ2, bk := A.nx } (sl1.le t2.le) t2.ok (lk.step (t1.trans t2)) ⟨fun σ5 ρ5 w5 μ5 H5 t5 sl5 q5 => ?_, (l.step (t1.trans t2)).rt, (l.step (t1.trans t2)).nx, fun σ5 ρ5 w5 μ5 H5 t5 sl5 q5 => ?_⟩ z
    · obtain ⟨m', hm, z'⟩ := q5
      exact ⟨m', hm, ρ5, w5, μ5, (t1.trans t2).trans t5, sl5, z'⟩
    · obtain ⟨m', hm, z'⟩ := q5
      exact ⟨m', hm, ρ5, w5, μ5, (t1.trans t2).trans t5, sl5, z'⟩
  · obtain ⟨W, w0, turn⟩ := q
    refine ⟨W, w0, fun m ρ' μ' z => ?_⟩
    rw [← l.ex]
    exact mt _ _ _ _ _ (fun k μ2 h => ite_imp h (mu { A with nx := fun ρ2 μ2 => ∃ m', m' < m ∧ W m' ρ2 μ2, ct := fun ρ2 μ2 => ∃ m', m' < m ∧ W m' ρ2 μ2, bk := A.nx } { B' with nx := fun ρ2 μ2 => ∃ m', m' < m ∧ W m' ρ2 μ2, ct := fun ρ2 μ2 => ∃ m', m' < m ∧ W m' ρ2 μ2, bk := B'.nx, ex := A.ex } _ _ ⟨fun _ _ z => z, l.rt, l.nx, fun _ _ z => z, rfl⟩) (l.nx _ _)) (turn m ρ' μ' z)
end
end Dl
set_option Elab.async false
set_option linter.all false
set_option autoImplicit false
set_option maxRecDepth 100000
set_option maxHeartbeats 2000000
/-! B4: defs, calls, methods, objects, raise over data -/
namespace Dl
open PySem PySem.Spec PyProof.Rows L2 Evl
abbrev DFn := List D → Mu → EX0 → (D → Mu → Prop) → Prop
def MonoW (W : DFn) : Prop := ∀ ds μ EX Q Q', (∀ d μ', Q d μ' → Q' d μ') → W ds μ EX Q → W ds μ EX Q'
/-- a def's promise over data -/
def spD (K : PySem.W.Frag) (G : Gx) (n : Nat) (W : DFn) : Sp := fun vs H Q E => ∃ (ds : List D) (w : Wd) (μ : Mu) (EX : EX0) (DQ : D → Mu → Prop), ds.length = n ∧ Rps K G w ds vs ∧ Okk K G w μ H ∧ W ds μ EX DQ ∧
  (∀ v d w' μ' H', Stp K G w μ H w' μ' H' → Rp K G w' d v → DQ d μ' → Q v H') ∧ Lk K G (fun _ => E) (fun _ => EX) w μ H
/-- the slots at the entry -/
def env0 (n : Nat) (ds : List D) : DEnv := ds.map some ++ List.replicate (n - ds.length) none
def endsF (EX : EX0) (Q : D → Mu → Prop) : DEnds := { nx := fun _ => Q .non, rt := Q, bk := fun _ _ => False, ct := fun _ _ => False, ex := fun _ => EX }
/-- a def's reading: its body's, at the parameters -/
def dwp (n : Nat) (T : DTS) : DFn := fun ds μ EX Q => T (endsF EX Q) (env0 n ds) μ
theorem monoW {n : Nat} {T : DTS} (m : MonoS T) : MonoW (dwp n T) := fun ds μ EX Q Q' i q => m (endsF EX Q) (endsF EX Q') _ _ ⟨fun _ => i _, i, fun _ _ h => h, fun _ _ h => h, rfl⟩ q
theorem env0_get {n : Nat} {ds : List D} {i : Nat} {x : D} (h : (env0 n ds)[i]? = some (some x)) : ds[i]? = some x := by
  unfold env0 at h
  by_cases hi : i < ds.length
  · rw [List.getElem?_append_left (by simpa using hi), List.getElem?_map, List.getElem?_eq_getElem hi] at h
    cases h
    exact List.getElem?_eq_getElem hi
  · rw [List.getElem?_append_right (by simpa using hi), List.getElem?_replicate] at h
    split at h <;> cases h
theorem start_get {N : List Str} {vs : List V} {i : Nat} {v : V} (h : vs[i]? = some v) : (L2.start N vs)[i]? = some (some v) := by
  unfold L2.start
  rw [List.getElem?_append_left (by simpa using (List.getElem?_eq_some_iff.mp h).1), List.getElem?_map, h]
  rfl
theorem Sl.start {K : PySem.W.Frag} {G : Gx} {w : Wd} {N : List Str} {ds : List D} {vs : List V} (r : Rps K G w ds vs) (hl : ds.length ≤ N.length) : Sl K G w (L2.start N vs) (env0 N.length ds) := by
  refine ⟨?_, fun i x e => ?_⟩
  · unfold L2.start env0
    simp [rps_len r]
  · have e1 := env0_get e
    obtain ⟨v, e3, r3⟩ := rps_get r e1
    exact ⟨v, start_get e3, r3⟩
section
variable {P : Program} {w : World} {K : PySem.W.Frag} {mg : Str → Option Value} {base : Heap} {G : Gx}
/-- THE RULE: a def by its body's reading -/
theorem fnD {x qual : Str} {st : Stmt} {f : Addr} {fd : FuncData} {N ps : List Str} {k : Nat} {T : DTS} (F : Fun K x qual st f fd) (sc : FnScope N ps (defScope st)) (hn : ps.length ≤ N.length)
    (body : ∀ (cdv : Value) (A : Around) (outer : List Env) (s : Shared) (H : Hp) (E : XK), A.guards = some [] → Room k (A.deeper (envOfC qual (defScope st) s.heap.objs.size f cdv)) →
      PSDs (cxOf (L2.CX P w) P w K mg base N qual (defScope st) f cdv A outer s H E) G (fun _ => E) (defBody st) T) :
    My.FnG P w K mg base (L2.CX P w) (k + 1) f fd ps (spD K G ps.length (dwp N.length T)) := by
  refine My.okH F sc (fun vs H Q E h => ?_) fun cdv A outer s H vs Q E gd hr h => ?_
  · obtain ⟨ds, w', μ, EX, DQ, hl, r, _⟩ := h
    rw [rps_len r, hl]
  · obtain ⟨ds, w', μ, EX, DQ, hl, r, ok, hw, hq, lk⟩ := h
    obtain ⟨⟨t, p, rn⟩, m⟩ := body cdv A outer s H E gd hr
    refine ⟨t, p, rn (L2.start N vs) (env0 N.length ds) w' μ H _ (endsF EX DQ) (Sl.start r (by omega)) ok lk ⟨fun σ ρ w' μ' H' t' sl' q' => ?_, fun v d w' μ' H' t' r' q' => hq v d w' μ' H' t' r' q', fun σ ρ w' μ' H' t' sl' q' => q'.elim, fun σ ρ w' μ' H' t' sl' q' => q'.elim⟩ hw⟩
    exact hq .non .non w' μ' H' t' rfl q'
/-- what a def of the text is known by -/
structure FD (P : Program) (w : World) (K : PySem.W.Frag) (mg : Str → Option Value) (base : Heap) (G : Gx) (x : Str) (k : Nat) (ps : List Str) (W : DFn) where
  f : Addr
  fd : FuncData
  G : My.FnG P w K mg base (L2.CX P w) k f fd ps (spD K G ps.length W)
  m : mg x = some (.ref f)
  kp : PySem.W.keepIn K (.ref f) = true
  b : Binds K fd ps []
  mono : MonoW W
/-- another reading of the same def -/
def FD.weak {x : Str} {k : Nat} {ps : List Str} {W W' : DFn} (F : FD P w K mg base G x k ps W) (m : MonoW W') (h : ∀ ds μ EX Q, W' ds μ EX Q → W ds μ EX Q) : FD P w K mg base G x k ps W' :=
  ⟨F.f, F.fd, ⟨fun vs H Q E h => by obtain ⟨ds, w', μ, EX, DQ, hl, r, _⟩ := h; rw [rps_len r, hl], fun A outer s H args us vs Q E gd hr e0 hb r hsp => F.G.run A outer s H args us vs Q E gd hr e0 hb r (by
    obtain ⟨ds, w', μ, EX, DQ, hl, r, ok, hw, q⟩ := hsp
    exact ⟨ds, w', μ, EX, DQ, hl, r, ok, h _ _ _ _ hw, q⟩)⟩, F.m, F.kp, F.b, m⟩
end
section
variable {X : Cx} {G : Gx} {E : XS} {e o a b c : Expr} {es : List Expr} {pos apos p : Pos}
/-- dd: the defaults -/
def dCall (n : Nat) (W : DFn) (dd : List D) (Ta : DTA) : DTE := fun ρ μ EX Q => Ta ρ μ EX fun ds μ' => (ds ++ dd).length = n ∧ W (ds ++ dd) μ' (EX ρ) Q
theorem mono_call {n : Nat} {W : DFn} {dd : List D} {Ta : DTA} (mw : MonoW W) (ma : Mono Ta) : Mono (dCall n W dd Ta) := fun ρ μ EX Q Q' i q => ma _ _ _ _ _ (fun ds μ' ⟨l, h⟩ => ⟨l, mw _ _ _ _ _ i h⟩) q
/-- what stands for a def's defaults -/
structure Dfl (K : PySem.W.Frag) (G : Gx) (fd : FuncData) (ps : List Str) (dd : List D) where
  vs : List V
  us : List Value
  b : Binds K fd ps us
  v : Vals vs us
  r : ∀ w, Rps K G w dd vs
/-- no defaults -/
def FD.dfl {P : Program} {w : World} {K : PySem.W.Frag} {mg : Str → Option Value} {base : Heap} {x : Str} {k : Nat} {ps : List Str} {W : DFn} (F : FD P w K mg base G x k ps W) : Dfl K G F.fd ps [] := ⟨[], [], F.b, .nil, fun _ => rfl⟩
theorem pd_callT {n : Nat} {W : DFn} {dd : List D} {vd : List V} {Ta : DTA} (mw : MonoW W) (hd : ∀ w, Rps X.K G w dd vd) (mk : ∀ ta, PA X es ta → PE X e (My.tCallS (spD X.K G n W) vd E ta)) (ha : PDa X G E es Ta) : PD X G E e (dCall n W dd Ta) := by
  obtain ⟨⟨ta, pa, ra⟩, ma⟩ := ha
  refine ⟨⟨_, mk _ pa, fun σ ρ w μ H EX Q sl ok lk q => ?_⟩, mono_call mw ma⟩
  refine ra σ ρ w μ H EX _ sl ok lk (ma _ _ _ _ _ (fun ds μ1 q1 vs w1 H1 t1 r1 => ?_) q)
  exact ⟨ds ++ dd, w1, μ1, EX ρ, _, q1.1, rps_app r1 (hd w1), t1.ok, q1.2, fun v d w2 μ2 H2 t2 r2 q2 => q2 v w2 H2 (t1.trans t2) r2, (lk.step t1).at (sl.le t1.le)⟩
theorem pd_call {x : Str} {k j : Nat} {ps : List Str} {W : DFn} {dd : List D} {Ta : DTA} (f : FD X.prog X.w X.K X.mg X.base G x k ps W) (D : Dfl X.K G f.fd ps dd) (gd : X.A.guards = some []) (hr : Room j X.A) (hk : k ≤ j) (hx : My.PassX X E) (ha : PDa X G E (e :: es) Ta) (hg : Gl X x := by rfl) (hdb : (x == ("__debug__" : Str)) = false := by decide +kernel)
    (he : starEach (e :: es) X.env = (false, eval e X.env) :: starEach es X.env := by rfl) (hpl : (backTo pos (starEach es X.env)).any (·.1) = false := by rfl) : PD X G E (.Call (.Name x p) (e :: es) [] pos) (dCall ps.length W dd Ta) :=
  pd_callT f.mono D.r (fun ta pa => My.pe_callH f.G gd (hr.mono hk) hg f.m f.kp D.b D.v hx pa he hpl hdb) ha
theorem pd_call0 {x : Str} {k j : Nat} {ps : List Str} {W : DFn} {dd : List D} (f : FD X.prog X.w X.K X.mg X.base G x k ps W) (D : Dfl X.K G f.fd ps dd) (gd : X.A.guards = some []) (hr : Room j X.A) (hk : k ≤ j) (hx : My.PassX X E) (hg : Gl X x := by rfl) (hdb : (x == ("__debug__" : Str)) = false := by decide +kernel) : PD X G E (.Call (.Name x p) [] [] pos) (dCall ps.length W dd dNil) := by
  have ha : PDa X G E [] dNil := pda_nil
  refine ⟨⟨_, My.pe_call0H f.G gd (hr.mono hk) hg f.m f.kp D.b D.v hx hdb, fun σ ρ w μ H EX Q sl ok lk q => ?_⟩, mono_call f.mono ha.mono⟩
  exact ⟨[] ++ dd, w, μ, EX ρ, _, q.1, D.r w, ok, q.2, fun v d w2 μ2 H2 t2 r2 q2 => q2 v w2 H2 t2 r2, lk.at sl⟩
/-! keywords: pm tells for each parameter its place among the positional values, the keywords' and the defaults -/
def pick {α : Type} (z : α) (pm : List Nat) (l : List α) : List α := pm.map fun i => l.getD i z
theorem pick_vals {vs : List V} {us : List Value} (r : Vals vs us) : ∀ {pm : List Nat}, (∀ i ∈ pm, i < vs.length) → Vals (pick .non pm vs) (pick .none pm us)
  | [], _ => .nil
  | i :: pm, h => by
    have hi := h i List.mem_cons_self
    obtain ⟨u, e, rr⟩ := r.get (List.getElem?_eq_getElem hi)
    refine .cons ?_ (pick_vals r fun j m => h j (List.mem_cons_of_mem _ m))
    show RelV (vs.getD i V.non) (us.getD i Value.none)
    rw [List.getD_eq_getElem?_getD, List.getD_eq_getElem?_getD, List.getElem?_eq_getElem hi, e]
    exact rr
theorem pick_rps {K : PySem.W.Frag} {w : Wd} {ds : List D} {vs : List V} (r : Rps K G w ds vs) : ∀ {pm : List Nat}, (∀ i ∈ pm, i < ds.length) → Rps K G w (pick .non pm ds) (pick .non pm vs)
  | [], _ => rfl
  | i :: pm, h => by
    have hi := h i List.mem_cons_self
    obtain ⟨v, e, rr⟩ := rps_get r (List.getElem?_eq_getElem hi)
    refine ⟨_, _, rfl, ?_, pick_rps r fun j m => h j (List.mem_cons_of_mem _ m)⟩
    show Rp K G w (ds.getD i D.non) (vs.getD i V.non)
    rw [List.getD_eq_getElem?_getD, List.getD_eq_getElem?_getD, List.getElem?_eq_getElem hi, e]
    exact rr
structure Kwb (K : PySem.W.Frag) (G : Gx) (fd : FuncData) (ps ks : List Str) (n : Nat) (pm : List Nat) (dd : List D) where
  vs : List V
  us : List Value
  b : ∀ (s : Shared) (as ws : List Value), as.length = n → ws.length = ks.length → BindsTo s fd ⟨as, ks.zip ws⟩ (ps.zip (pick .none pm (as ++ ws ++ us)))
  v : Vals vs us
  r : ∀ w, Rps K G w dd vs
  h : ∀ i ∈ pm, i < n + ks.length + dd.length
  l : pm.length = ps.length
theorem rps_nil_len {K : PySem.W.Frag} {w : Wd} {dd : List D} {vs : List V} (r : Rps K G w dd vs) : vs.length = dd.length := rps_len r
/-- f(e, .., k = v, ..) -/
def dCallK (n m : Nat) (pm : List Nat) (W : DFn) (dd : List D) (Ta Tk : DTA) : DTE := fun ρ μ EX Q => Ta ρ μ EX fun ds μ1 => Tk ρ μ1 EX fun ks μ2 => ds.length = n ∧ ks.length = m ∧ W (pick .non pm (ds ++ ks ++ dd)) μ2 (EX ρ) Q
structure PDk (X : Cx) (G : Gx) (E : XS) (kws : List Keyword) (T : DTA) : Prop where
  ex : ∃ t, PK X kws t ∧ RunA X.K G E t T
  mono : Mono T
theorem pdk_nil : PDk X G E [] dNil := ⟨⟨_, pk_nil, fun σ ρ w μ H EX Q sl ok lk q => q [] w H (.refl ok) rfl⟩, fun _ _ _ _ _ i q => i _ _ q⟩
theorem pdk_cons {nm : Option Str} {kpos : Pos} {kws : List Keyword} {Ta : DTE} {Tr : DTA} (ha : PD X G E e Ta) (hr : PDk X G E kws Tr) : PDk X G E (⟨nm, e, kpos⟩ :: kws) (dCons Ta Tr) := by
  obtain ⟨⟨ta, pa, ra⟩, ma⟩ := ha
  obtain ⟨⟨tr, pr, rr⟩, mr⟩ := hr
  refine ⟨⟨_, pk_cons pa pr, fun σ ρ w μ H EX Q sl ok lk q => ?_⟩, fun ρ μ EX Q Q' i q => ?_⟩
  · refine ra σ ρ w μ H EX _ sl ok lk (ma _ _ _ _ _ (fun x μ1 q1 v w1 H1 t1 r1 => ?_) q)
    refine rr σ ρ w1 μ1 H1 EX _ (sl.le t1.le) t1.ok (lk.step t1) (mr _ _ _ _ _ (fun ys μ2 q2 us w2 H2 t2 r2 => ?_) q1)
    exact q2 _ w2 H2 (t1.trans t2) ⟨v, us, rfl, rp_ex t2.le r1, r2⟩
  · exact ma _ _ _ _ _ (fun x μ1 => mr _ _ _ _ _ fun y μ2 q => i _ _ q) q
theorem mono_callK {n m : Nat} {pm : List Nat} {W : DFn} {dd : List D} {Ta Tk : DTA} (mw : MonoW W) (ma : Mono Ta) (mk : Mono Tk) : Mono (dCallK n m pm W dd Ta Tk) := fun ρ μ EX Q Q' i q =>
  ma _ _ _ _ _ (fun ds μ1 => mk _ _ _ _ _ fun ks μ2 ⟨l1, l2, h⟩ => ⟨l1, l2, mw _ _ _ _ _ i h⟩) q
/-- the callee runs, its arguments by place and by name -/
theorem run_kwb {pins : List (Addr × Obj)} {σ : L2.St} {H : Hp} {s : Shared} {Q : VK} {k : Nat} {f : Addr} {fd : FuncData} {ps ks : List Str} {n : Nat} {pm : List Nat} {dd : List D} {W : DFn} {us ws : List Value} {vs zs : List V} (B : Kwb X.K G fd ps ks n pm dd) (F : My.FnX X k f fd ps (spD X.K G ps.length W)) (gd : X.A.guards = some []) (hr : Room k X.A) (hx : My.PassX X E)
    (I : Inv X pins σ H s) (r : Vals vs us) (rz : Vals zs ws) (l1 : vs.length = n) (l2 : zs.length = ks.length) (h : spD X.K G ps.length W (pick .non pm (vs ++ zs ++ B.vs)) H Q (E σ)) : wpAny (model X.prog X.w) X.A (call (.ref f) us (ks.zip ws)) (EP X pins σ Q) X.xe s := by
  have hd : B.vs.length = dd.length := rps_len (B.r ⟨fun _ => none, fun _ => none⟩)
  have r2 : Vals (pick .non pm (vs ++ zs ++ B.vs)) (pick .none pm (us ++ ws ++ B.us)) := pick_vals ((r.append rz).append B.v) fun i hi => by
    have := B.h i hi
    simp only [List.length_append]
    omega
  refine wpAny_call (codeAny_mono (F.run X.A X.stack s H ⟨us, ks.zip ws⟩ (pick .none pm (us ++ ws ++ B.us)) (pick .non pm (vs ++ zs ++ B.vs)) Q (E σ) gd hr I.env0 (B.b s us ws (r.length ▸ l1) (rz.length ▸ l2)) r2 h) fun r s' hq => ?_)
  cases r with
  | error e => exact hx pins σ H s e s' I hq
  | ok fl =>
    cases fl with
    | ret u => exact I.after hq
    | next => exact False.elim hq
    | brk => exact False.elim hq
    | cont => exact False.elim hq
theorem pd_callKA {x : Str} {k j : Nat} {ps ks : List Str} {n : Nat} {pm : List Nat} {W : DFn} {dd : List D} {Ta Tk : DTA} {kws : List Keyword} (f : FD X.prog X.w X.K X.mg X.base G x k ps W) (B : Kwb X.K G f.fd ps ks n pm dd) (gd : X.A.guards = some []) (hr : Room j X.A) (hk : k ≤ j) (hx : My.PassX X E)
    {ta : TA} (mk : ∀ tk, PK X kws tk → PE X e (fun σ H Q => ta σ H fun vs H1 => tk σ H1 fun zs H2 => vs.length = n ∧ zs.length = ks.length ∧ spD X.K G ps.length W (pick .non pm (vs ++ zs ++ B.vs)) H2 Q (E σ))) (ra : RunA X.K G E ta Ta) (ma : Mono Ta) (hkw : PDk X G E kws Tk) : PD X G E e (dCallK n ks.length pm W dd Ta Tk) := by
  obtain ⟨⟨tk, pk, rk⟩, mk'⟩ := hkw
  refine ⟨⟨_, mk _ pk, fun σ ρ w μ H EX Q sl ok lk q => ?_⟩, mono_callK f.mono ma mk'⟩
  refine ra σ ρ w μ H EX _ sl ok lk (ma _ _ _ _ _ (fun ds μ1 q1 vs w1 H1 t1 r1 => ?_) q)
  refine rk σ ρ w1 μ1 H1 EX _ (sl.le t1.le) t1.ok (lk.step t1) (mk' _ _ _ _ _ (fun es μ2 q2 zs w2 H2 t2 r2 => ?_) q1)
  obtain ⟨l1, l2, q2⟩ := q2
  have rr : Rps X.K G w2 (ds ++ es ++ dd) (vs ++ zs ++ B.vs) := rps_app (rps_app (rps_ex t2.le r1) r2) (B.r w2)
  refine ⟨by rw [rps_len r1]; exact l1, by rw [rps_len r2]; exact l2, pick .non pm (ds ++ es ++ dd), w2, μ2, EX ρ, _, by unfold pick; rw [List.length_map]; exact B.l, pick_rps rr fun i hi => ?_, t2.ok, q2, fun v d w3 μ3 H3 t3 r3 q3 => q3 v w3 H3 ((t1.trans t2).trans t3) r3, (lk.step (t1.trans t2)).at (sl.le (t1.trans t2).le)⟩
  have := B.h i hi
  simp only [List.length_append]
  omega
theorem pd_callK {x : Str} {k j : Nat} {ps ks : List Str} {n : Nat} {pm : List Nat} {W : DFn} {dd : List D} {Ta Tk : DTA} {kws : List Keyword} (f : FD X.prog X.w X.K X.mg X.base G x k ps W) (B : Kwb X.K G f.fd ps ks n pm dd) (gd : X.A.guards = some []) (hr : Room j X.A) (hk : k ≤ j) (hx : My.PassX X E) (ha : PDa X G E (e :: es) Ta) (hkw : PDk X G E kws Tk)
    (hg : Gl X x := by rfl) (hall : (backToKw pos (keywordEach kws X.env)).all (·.1.isSome) = true := by rfl) (hks : (backToKw pos (keywordEach kws X.env)).filterMap (·.1) = ks := by rfl) (hdb : (x == ("__debug__" : Str)) = false := by decide +kernel) (he : starEach (e :: es) X.env = (false, eval e X.env) :: starEach es X.env := by rfl)
    (hpl : ((backTo pos (starEach (e :: es) X.env)).any (·.1) || (backToKw pos (keywordEach kws X.env)).any (·.1.isNone)) = false := by rfl) : PD X G E (.Call (.Name x p) (e :: es) kws pos) (dCallK n ks.length pm W dd Ta Tk) := by
  obtain ⟨⟨ta, pa, ra⟩, ma⟩ := ha
  refine pd_callKA f B gd hr hk hx (fun tk pk => ⟨fun pins s σ H Q I h => ?_⟩) ra ma hkw
  refine wpAny_Call_Name_kw (ld_glob I hg f.m ?_ hdb)
  refine PySem.W.callWith_KW (h₀ := X.base) I.ok.mod.kin f.kp hall (thn (pa.run pos pins s σ H _ I h) fun us s1 ⟨vs, H1, I1, r, q⟩ => ?_) hpl he
  refine thn (pk.run pos pins s1 σ H1 _ I1 q) fun ws s2 ⟨zs, H2, I2, rz, l1, l2, q2⟩ => ⟨I2.kIn, ?_⟩
  rw [hks]
  exact run_kwb B f.G gd (hr.mono hk) hx I2 r rz l1 l2 q2
theorem pd_callK0 {x : Str} {k j : Nat} {ps ks : List Str} {pm : List Nat} {W : DFn} {dd : List D} {Tk : DTA} {kws : List Keyword} (f : FD X.prog X.w X.K X.mg X.base G x k ps W) (B : Kwb X.K G f.fd ps ks 0 pm dd) (gd : X.A.guards = some []) (hr : Room j X.A) (hk : k ≤ j) (hx : My.PassX X E) (hkw : PDk X G E kws Tk)
    (hg : Gl X x := by rfl) (hall : (backToKw pos (keywordEach kws X.env)).all (·.1.isSome) = true := by rfl) (hks : (backToKw pos (keywordEach kws X.env)).filterMap (·.1) = ks := by rfl) (hdb : (x == ("__debug__" : Str)) = false := by decide +kernel)
    (hpl : ((backTo pos (starEach [] X.env)).any (·.1) || (backToKw pos (keywordEach kws X.env)).any (·.1.isNone)) = false := by rfl) : PD X G E (.Call (.Name x p) [] kws pos) (dCallK 0 ks.length pm W dd dNil Tk) := by
  refine pd_callKA f B gd hr hk hx (ta := tNil) (fun tk pk => ⟨fun pins s σ H Q I h => ?_⟩) (fun σ ρ w μ H EX Q sl ok lk q => q [] w H (.refl ok) rfl) (fun _ _ _ _ _ i q => i _ _ q) hkw
  refine wpAny_Call_Name_kw (ld_glob I hg f.m ?_ hdb)
  refine PySem.W.callWith_KW0 (h₀ := X.base) I.ok.mod.kin f.kp hall ?_ hpl
  refine thn (pk.run pos pins s σ H _ I h) fun ws s2 ⟨zs, H2, I2, rz, l1, l2, q2⟩ => ⟨I2.kIn, ?_⟩
  rw [hks]
  exact run_kwb (us := []) (vs := []) B f.G gd (hr.mono hk) hx I2 .nil rz l1 l2 q2
/-! fields -/
def dFld (C f : Str) (T : DTE) : DTE := fun ρ μ EX Q => T ρ μ EX fun x μ' => match drf μ' x with
  | .obj C' fs => C' = C ∧ match fs.lookup f with
    | some d => Q d μ'
    | none => False
  | _ => False
theorem pd_fld {C f : Str} {c : Addr} {T : DTE} (hC : G.ct C = some c) (k : Cls X.K c) (n : NoAttr X.K c f) (h : PD X G E e T) (hb : attributeBase e f X.env (eval e X.env) = eval e X.env := by rfl) : PD X G E (.Attribute e f pos) (dFld C f T) := by
  obtain ⟨⟨t, p, r⟩, m⟩ := h
  refine ⟨⟨_, My.peFld (K := X.K) p hb rfl, fun σ ρ w μ H EX Q sl ok lk q => r σ ρ w μ H EX _ sl ok lk (m _ _ _ _ _ (fun d μ' q1 v w1 H1 t1 r1 => ?_) q)⟩, fun ρ μ EX Q Q' i q => m _ _ _ _ _ (fun d μ' h => ?_) q⟩
  · have r2 := t1.ok.rt r1
    split at q1
    · rename_i C' fs he
      rw [he] at r2
      obtain ⟨rfl, q1⟩ := q1
      obtain ⟨a, c', dx, gs, rfl, h0, h1, h2⟩ := r2
      rw [hC] at h0
      cases h0
      split at q1
      · rename_i y hy
        obtain ⟨v, e3, r3⟩ := rpf_look h2 hy
        exact ⟨a, c, dx, gs, v, rfl, h1, k, n, e3, q1 v w1 H1 t1 r3⟩
      · exact q1.elim
    · exact q1.elim
  · split at h
    · refine ⟨h.1, ?_⟩
      have h := h.2
      split at h
      · exact i _ _ h
      · exact h.elim
    · exact h.elim
def putD (f : Str) (v : D) : List (Str × D) → List (Str × D)
  | [] => [(f, v)]
  | (g, x) :: r => if g = f then (g, v) :: r else (g, x) :: putD f v r
theorem rpf_put {K : PySem.W.Frag} {w : Wd} {f : Str} {d : D} {v : V} (hv : Rp K G w d v) : ∀ {fs : List (Str × D)} {gs : List (Str × V)}, Rpf K G w fs gs → Rpf K G w (putD f d fs) (putF f v gs)
  | [], _, h => by
    obtain rfl : _ = [] := h
    exact ⟨v, [], rfl, hv, rfl⟩
  | (g, x) :: r, _, h => by
    obtain ⟨u, s, rfl, h1, h2⟩ := h
    unfold putD putF
    by_cases q : g = f
    · rw [if_pos q, if_pos q]
      exact ⟨v, s, rfl, hv, h2⟩
    · rw [if_neg q, if_neg q]
      exact ⟨u, _, rfl, h1, rpf_put hv h2⟩
/-- o.f = e -/
def dFldS (C f : Str) (To T : DTE) : DTS := fun A ρ μ => T ρ μ A.ex fun d μ1 => To ρ μ1 A.ex fun x μ2 => ∃ n fs, x = .cel n ∧ μ2[n]? = some (some (.obj C fs)) ∧ fs.length < 1000 ∧ A.nx ρ (μ2.set n (some (.obj C (putD f d fs))))
theorem psd_fld {C f : Str} {c : Addr} {To T : DTE} {pos' : Pos} (hC : G.ct C = some c) (k : Cls X.K c) (n : NoAttr X.K c f) (ho : PD X G E o To) (h : PD X G E e T) (hs : swapsWith e (some (.Attribute o f pos')) pos.line X.env = pure false := by rfl) : PSD X G E (.Assign [.Attribute o f pos'] e pos) (dFldS C f To T) := by
  obtain ⟨⟨t, p, r⟩, m⟩ := h
  obtain ⟨⟨u, p2, r2⟩, m2⟩ := ho
  refine ⟨⟨_, ps_fld p2 p hs, fun σ ρ w μ H D A sl ok lk l q => r σ ρ w μ H A.ex _ sl ok lk (m _ _ _ _ _ (fun d μ1 q1 v w1 H1 t1 r1 => ?_) q)⟩, fun A B ρ μ l q => ?_⟩
  · refine r2 σ ρ w1 μ1 H1 A.ex _ (sl.le t1.le) t1.ok (lk.step t1) (m2 _ _ _ _ _ (fun x μ2 q2 u w2 H2 t2 rr => ?_) q1)
    obtain ⟨n', fs, rfl, hn, hl, q2⟩ := q2
    obtain ⟨p', a', rfl⟩ := rr
    obtain ⟨p2', a2, hs2, c2⟩ := t2.ok.cl n' _ hn
    rw [a2] at a'
    cases a'
    obtain ⟨c', dx, gs, h0, h1, h2⟩ := c2
    rw [hC] at h0
    cases h0
    have t3 := Stp.put t2.ok hn a2 (o := .ins c dx (putF f v gs)) (y := .obj C (putD f d fs)) ⟨c, dx, _, hC, upd_same, rpf_put (rp_ex t2.le r1) h2⟩
    have t123 := (t1.trans t2).trans t3
    exact ⟨_, c, dx, gs, rfl, h1, k, n, by rw [rpf_len h2]; exact hl, l.nx _ _ _ _ _ t123 (sl.le t123.le) q2⟩
  · unfold dFldS at q ⊢
    rw [← l.ex]
    exact m _ _ _ _ _ (fun d μ1 => m2 _ _ _ _ _ fun x μ2 ⟨n, fs, h1, h2, h3, q⟩ => ⟨n, fs, h1, h2, h3, l.nx _ _ q⟩) q
/-! methods -/
def dMeth (C m : Str) (n : Nat) (W : DFn) (T : DTE) (Ta : DTA) : DTE := fun ρ μ EX Q => T ρ μ EX fun x μ1 => ∃ fs, drf μ1 x = .obj C fs ∧ fs.lookup m = none ∧ Ta ρ μ1 EX fun ds μ2 => (x :: ds).length = n ∧ (∃ fs', drf μ2 x = .obj C fs' ∧ fs'.lookup m = none) ∧ W (x :: ds) μ2 (EX ρ) Q
/-- a method of a class -/
structure FM (P : Program) (w : World) (K : PySem.W.Frag) (mg : Str → Option Value) (base : Heap) (G : Gx) (C m : Str) (k : Nat) (ps : List Str) (W : DFn) where
  c : Addr
  hC : G.ct C = some c
  f : Addr
  fd : FuncData
  G : My.FnG P w K mg base (L2.CX P w) k f fd ps (spD K G ps.length W)
  cl : Cls K c
  mt : Meth K c m f
  b : Binds K fd ps []
  mono : MonoW W
theorem pd_methT {n : Nat} {C m : Str} {c : Addr} {W : DFn} {T : DTE} {Ta : DTA} {ta : TA} (hC : G.ct C = some c) (mw : MonoW W) (mk : ∀ to, PE X o to → PE X e (My.tMethS c m (spD X.K G n W) [] E to ta)) (ho : PD X G E o T) (ra : RunA X.K G E ta Ta) (ma : Mono Ta) : PD X G E e (dMeth C m n W T Ta) := by
  obtain ⟨⟨to, po, ro⟩, mo⟩ := ho
  refine ⟨⟨_, mk _ po, fun σ ρ w μ H EX Q sl ok lk q => ?_⟩, fun ρ μ EX Q Q' i q => mo _ _ _ _ _ (fun x μ1 ⟨fs, e1, e2, h⟩ => ⟨fs, e1, e2, ma _ _ _ _ _ (fun ds μ2 ⟨l, e, h⟩ => ⟨l, e, mw _ _ _ _ _ i h⟩) h⟩) q⟩
  refine ro σ ρ w μ H EX _ sl ok lk (mo _ _ _ _ _ (fun x μ1 q1 v w1 H1 t1 r1 => ?_) q)
  obtain ⟨fs, hd, hl, q1⟩ := q1
  have r2 := t1.ok.rt r1
  rw [hd] at r2
  obtain ⟨p, c', dx, gs, rfl, h0, h1, h2⟩ := r2
  rw [hC] at h0
  cases h0
  refine ⟨p, dx, gs, rfl, h1, rpf_none h2 hl, ?_⟩
  refine ra σ ρ w1 μ1 H1 EX _ (sl.le t1.le) t1.ok (lk.step t1) (ma _ _ _ _ _ (fun ds μ2 q2 vs w2 H2 t2 r3 => ?_) q1)
  exact ⟨x :: ds, w2, μ2, EX ρ, _, q2.1, ⟨_, _, rfl, rp_ex t2.le r1, by rw [List.append_nil]; exact r3⟩, t2.ok, q2.2.2, fun v d w3 μ3 H3 t3 r3 q3 => q3 v w3 H3 ((t1.trans t2).trans t3) r3, (lk.step (t1.trans t2)).at (sl.le (t1.trans t2).le)⟩
theorem pd_meth {C m : Str} {k j : Nat} {ps : List Str} {W : DFn} {T : DTE} {Ta : DTA} {pl : Sem Bool} (f : FM X.prog X.w X.K X.mg X.base G C m k ps W) (gd : X.A.guards = some []) (hr : Room j X.A) (hk : k ≤ j) (hx : My.PassX X E) (ho : PD X G E o T) (ha : PDa X G E (e :: es) Ta)
    (hst : starEach (e :: es) X.env = (false, eval e X.env) :: starEach es X.env := by rfl) (hpl : (backTo pos (starEach es X.env)).any (·.1) = false := by rfl)
    (ht : eval (.Call (.Attribute o m apos) (e :: es) [] pos) X.env = (do
      let ov ← eval o X.env
      standAt apos.atName
      let (f, first) ← holding [ov] (getMethod ov m pl)
      callWith pos f first (backTo pos (starEach (e :: es) X.env)) (backToKw pos (keywordEach [] X.env))) := by rfl) : PD X G E (.Call (.Attribute o m apos) (e :: es) [] pos) (dMeth C m ps.length W T Ta) :=
  let ⟨⟨_, pa, ra⟩, ma⟩ := ha; pd_methT f.hC f.mono (fun to po => My.pe_methH po f.cl f.mt f.G gd (hr.mono hk) f.b .nil hx pa hst hpl ht) ho ra ma
theorem pd_meth0 {C m : Str} {k j : Nat} {ps : List Str} {W : DFn} {T : DTE} {pl : Sem Bool} (f : FM X.prog X.w X.K X.mg X.base G C m k ps W) (gd : X.A.guards = some []) (hr : Room j X.A) (hk : k ≤ j) (hx : My.PassX X E) (ho : PD X G E o T)
    (ht : eval (.Call (.Attribute o m apos) [] [] pos) X.env = (do
      let ov ← eval o X.env
      standAt apos.atName
      let (f, first) ← holding [ov] (getMethod ov m pl)
      callWith pos f first (backTo pos (starEach [] X.env)) (backToKw pos (keywordEach [] X.env))) := by rfl) : PD X G E (.Call (.Attribute o m apos) [] [] pos) (dMeth C m ps.length W T dNil) := by
  exact pd_methT f.hC f.mono (fun to po => My.pe_meth0H po f.cl f.mt f.G gd (hr.mono hk) f.b .nil hx ht) ho (ta := tNil) (fun σ ρ w μ H EX Q sl ok lk q => q [] w H (.refl ok) rfl) (fun _ _ _ _ _ i q => i _ _ q)
/-! making an object -/
/-- C(..): the new object is a cell (dFz makes it data) -/
def dMake (C : Str) (n : Nat) (W : DFn) (dd : List D) (Ta : DTA) : DTE := fun ρ μ EX Q => Ta ρ μ EX fun ds μ1 => (ds ++ dd).length + 1 = n ∧ W (.cel μ1.length :: (ds ++ dd)) (μ1 ++ [some (.obj C [])]) (EX ρ) fun d μ2 => d = .non ∧ Q (.cel μ1.length) μ2
theorem mono_make {C : Str} {n : Nat} {W : DFn} {dd : List D} {Ta : DTA} (mw : MonoW W) (ma : Mono Ta) : Mono (dMake C n W dd Ta) := fun ρ μ EX Q Q' i q => ma _ _ _ _ _ (fun ds μ' ⟨l, h⟩ => ⟨l, mw _ _ _ _ _ (fun d μ2 ⟨e, q⟩ => ⟨e, i _ _ q⟩) h⟩) q
theorem pd_makeT {C : Str} {c : Addr} {n : Nat} {W : DFn} {dd : List D} {vd : List V} {Ta : DTA} (hC : G.ct C = some c) (mw : MonoW W) (hd : ∀ w, Rps X.K G w dd vd) (mk : ∀ ta, PA X es ta → PE X e (My.tMakeS c (spD X.K G n W) vd E ta)) (ha : PDa X G E es Ta) : PD X G E e (dMake C n W dd Ta) := by
  obtain ⟨⟨ta, pa, ra⟩, ma⟩ := ha
  refine ⟨⟨_, mk _ pa, fun σ ρ w μ H EX Q sl ok lk q => ?_⟩, mono_make mw ma⟩
  refine ra σ ρ w μ H EX _ sl ok lk (ma _ _ _ _ _ (fun ds μ1 q1 vs w1 H1 t1 r1 => ?_) q)
  intro x dx nx nd ne
  have t2 := Stp.raw (o := .own x) t1.ok nd
  have t3 := Stp.newC (p := x) (o := .ins c dx []) (x := .obj C []) t2.ok (by rw [upd_ne (Ne.symm ne)]; exact nx) ⟨c, dx, [], hC, upd_same, rfl⟩
  have t23 := t2.trans t3
  refine ⟨.cel μ1.length :: (ds ++ dd), _, _, EX ρ, _, by simpa using q1.1, ⟨.ref x, vs ++ vd, rfl, ⟨x, if_pos rfl, rfl⟩, rps_ex t23.le (rps_app r1 (hd w1))⟩, t23.ok, q1.2, fun v d w4 μ4 H4 t4 r4 q4 => ?_, ((lk.step t1).step t23).at (sl.le (t1.trans t23).le)⟩
  obtain ⟨rfl, q4⟩ := q4
  exact ⟨r4, q4 _ w4 H4 ((t1.trans t23).trans t4) ⟨x, t4.le.l _ _ (if_pos rfl), rfl⟩⟩
/-- a class of the module that is made by its own __init__ -/
structure FC (P : Program) (w : World) (K : PySem.W.Frag) (mg : Str → Option Value) (base : Heap) (G : Gx) (C : Str) (k : Nat) (ps : List Str) (W : DFn) where
  c : Addr
  hC : G.ct C = some c
  f : Addr
  fd : FuncData
  G : My.FnG P w K mg base (L2.CX P w) k f fd ps (spD K G ps.length W)
  m : mg C = some (.ref c)
  mkx : Mk K c f
  mono : MonoW W
theorem pd_make {C : Str} {k j : Nat} {ps : List Str} {W : DFn} {dd : List D} {Ta : DTA} (f : FC X.prog X.w X.K X.mg X.base G C k ps W) (D : Dfl X.K G f.fd ps dd) (gd : X.A.guards = some []) (hr : Room j X.A) (hk : k + 1 ≤ j) (hx : My.PassX X E) (ha : PDa X G E (e :: es) Ta) (hg : Gl X C := by rfl) (hdb : (C == ("__debug__" : Str)) = false := by decide +kernel)
    (he : starEach (e :: es) X.env = (false, eval e X.env) :: starEach es X.env := by rfl) (hpl : (backTo pos (starEach es X.env)).any (·.1) = false := by rfl) : PD X G E (.Call (.Name C p) (e :: es) [] pos) (dMake C ps.length W dd Ta) :=
  pd_makeT f.hC f.mono D.r (fun ta pa => My.pe_makeH f.mkx f.G gd (hr.mono hk) hg f.m D.b D.v hx pa hdb he hpl) ha
/-! raise of an own error with one field -/
def dRz (C fl : Str) (Ta : DTA) : DTS := fun A ρ μ => Ta ρ μ A.ex fun ds μ' => match ds with
  | [d] => A.ex ρ (.own C [(fl, d)]) μ'
  | _ => False
theorem psd_rz {st : Stmt} {C fl : Str} {c : Addr} {Ta : DTA} (hC : G.ct C = some c) (mk : ∀ ta, PA X es ta → ∃ t, PS X st t ∧ ∀ (D : Ends) (σ : L2.St) (H : Hp), (ta σ H fun vs H1 => ∃ v, vs = [v] ∧ ∀ d, H1 d = none → E σ (.ref c) (some d) (upd H1 d (.xd [(fl, v)]))) → t D σ H) (ha : PDa X G E es Ta) :
    PSD X G E st (dRz C fl Ta) := by
  obtain ⟨⟨ta, pa, ra⟩, ma⟩ := ha
  obtain ⟨t, pt, ht⟩ := mk ta pa
  refine ⟨⟨t, pt, fun σ ρ w μ H D A sl ok lk l q => ht D σ H (ra σ ρ w μ H A.ex _ sl ok lk (ma _ _ _ _ _ (fun ds μ1 q1 vs w1 H1 t1 r1 => ?_) q))⟩, fun A B ρ μ l q => ?_⟩
  · split at q1
    · rename_i d
      obtain ⟨v, us, rfl, h1, h2⟩ := r1
      obtain rfl : us = [] := h2
      refine ⟨v, rfl, fun dd n => ?_⟩
      have t2 := Stp.new (o := .xd [(fl, v)]) t1.ok n
      exact lk.own σ ρ C [(fl, d)] _ μ1 _ c dd [(fl, v)] (t1.trans t2) hC upd_same ⟨v, [], rfl, rp_ex t2.le h1, rfl⟩ (sl.le (t1.trans t2).le) q1
    · exact q1.elim
  · unfold dRz at q ⊢
    rw [← l.ex]
    exact q
end
end Dl
set_option Elab.async false
set_option linter.all false
set_option autoImplicit false
set_option maxRecDepth 100000
set_option maxHeartbeats 2000000
/-! B5: comprehensions over data -/
namespace Dl
open PySem PySem.Spec PyProof.Rows L2 Evl
/-- one reading for all contexts -/
theorem uniE {ι : Type} {Xf : ι → Cx} {K : PySem.W.Frag} {G : Gx} {e : Expr} {T : DTE} (hK : ∀ i, (Xf i).K = K) (h : ∀ i, PD (Xf i) G ES0 e T) : ∃ te : TE, (∀ i, PE (Xf i) e te) ∧ RunE K G ES0 te T := by
  refine ⟨fun σ H Q => ∀ i, ∃ t : TE, PE (Xf i) e t ∧ t σ H Q, fun i => ⟨fun pins s σ H Q I q => ?_⟩, fun σ ρ w μ H EX Q sl ok lk q i => ?_⟩
  · obtain ⟨t, p, q⟩ := q i
    exact p.run pins s σ H Q I q
  · obtain ⟨t, p, r⟩ := (h i).ex
    rw [hK i] at r
    exact ⟨t, p, r σ ρ w μ H EX Q sl ok lk q⟩
structure PDts (X : Cx) (G : Gx) (E : XS) (ifs : List Expr) (T : DTT) : Prop where
  ex : ∃ t, PTs X ifs t ∧ RunT X.K G E t T
  mono : Mono T
def dYes : DTT := fun _ μ _ Q => Q true μ
theorem pdts_nil {X : Cx} {G : Gx} {E : XS} : PDts X G E [] dYes := ⟨⟨_, pts_nil, fun σ ρ w μ H EX Q sl ok lk q => q w H (.refl ok)⟩, fun _ _ _ _ _ i q => i _ _ q⟩
theorem pdts_one {X : Cx} {G : Gx} {E : XS} {c : Expr} {T : DTT} (h : PDt X G E c T) : PDts X G E [c] T := let ⟨⟨t, p, r⟩, m⟩ := h; ⟨⟨t, pts_one p, r⟩, m⟩
theorem uniT {ι : Type} {Xf : ι → Cx} {K : PySem.W.Frag} {G : Gx} {e : List Expr} {T : DTT} (hK : ∀ i, (Xf i).K = K) (h : ∀ i, PDts (Xf i) G ES0 e T) : ∃ te : TT, (∀ i, PTs (Xf i) e te) ∧ RunT K G ES0 te T := by
  refine ⟨fun σ H Q => ∀ i, ∃ t : TT, PTs (Xf i) e t ∧ t σ H Q, fun i => ⟨fun pins s σ H Q I q => ?_⟩, fun σ ρ w μ H EX Q sl ok lk q i => ?_⟩
  · obtain ⟨t, p, q⟩ := q i
    exact p.run pins s σ H Q I q
  · obtain ⟨t, p, r⟩ := (h i).ex
    rw [hK i] at r
    exact ⟨t, p, r σ ρ w μ H EX Q sl ok lk q⟩
theorem uniG {ι : Type} {Xf : ι → Cx} {K : PySem.W.Frag} {G : Gx} {e : Expr} {is : List Nat} {T : DTG} (hK : ∀ i, (Xf i).K = K) (h : ∀ i, PDg (Xf i) G e is T) : ∃ te : TG, (∀ i, PG (Xf i) e te) ∧ RunG K G is te T := by
  refine ⟨fun v σ H Q => ∀ i, ∃ t : TG, PG (Xf i) e t ∧ t v σ H Q, fun i => ⟨fun pins s σ H v u Q I rv q => ?_⟩, fun σ ρ w μ H d v Q sl ok r q i => ?_⟩
  · obtain ⟨t, p, q⟩ := q i
    exact p.run pins s σ H v u Q I rv q
  · obtain ⟨t, p, r2⟩ := (h i).ex
    rw [hK i] at r2
    exact ⟨t, p, r2 σ ρ w μ H d v Q sl ok r q⟩
theorem uniI {ι : Type} {Xf : ι → Cx} {K : PySem.W.Frag} {G : Gx} {tg e : Expr} {T : DTI} (hK : ∀ i, (Xf i).K = K) (h : ∀ i, PDi (Xf i) G ES0 tg e T) : ∃ te : TI, (∀ i, PI (Xf i) tg e te) ∧ RunI K G ES0 te T := by
  refine ⟨fun σ H Q => ∀ i, ∃ t : TI, PI (Xf i) tg e t ∧ t σ H Q, fun i => ⟨fun pins s σ H Q I q => ?_⟩, fun σ ρ w μ H EX Q sl ok lk q i => ?_⟩
  · obtain ⟨t, p, q⟩ := q i
    exact p.run pins s σ H Q I q
  · obtain ⟨t, p, r⟩ := (h i).ex
    rw [hK i] at r
    exact ⟨t, p, r σ ρ w μ H EX Q sl ok lk q⟩
/-! the block's own slots forgotten -/
def wipeD (ρ : DEnv) : List Nat → DEnv
  | [] => ρ
  | v :: vs => (wipeD ρ vs).set v none
theorem wipeD_length (ρ : DEnv) : ∀ vs : List Nat, (wipeD ρ vs).length = ρ.length
  | [] => rfl
  | v :: vs => by unfold wipeD; rw [List.length_set, wipeD_length ρ vs]
theorem wipeD_some {ρ : DEnv} {i : Nat} {x : D} : ∀ {vs : List Nat}, (wipeD ρ vs)[i]? = some (some x) → ρ[i]? = some (some x) ∧ i ∉ vs
  | [], h => ⟨h, by simp⟩
  | v :: vs, h => by
    unfold wipeD at h
    rcases get_set h with ⟨rfl, e⟩ | ⟨n, h'⟩
    · cases e
    · obtain ⟨h1, h2⟩ := wipeD_some h'
      exact ⟨h1, by simp [n, h2]⟩
section
variable {K : PySem.W.Frag} {G : Gx}
theorem Sl.wipe {w : Wd} {σ : L2.St} {ρ : DEnv} (h : Sl K G w σ ρ) (vs : List Nat) : Sl K G w (wipe σ vs) (wipeD ρ vs) := by
  refine ⟨by rw [wipe_length, wipeD_length]; exact h.len, fun i x e => ?_⟩
  obtain ⟨h1, h2⟩ := wipeD_some e
  rw [wipe_get, if_neg h2]
  exact h.dat i x h1
/-- a raw object that is younger than the start changes -/
theorem Stp.rawset {w w' : Wd} {μ μ' : Mu} {H H' : Hp} {L : Addr} {o u : HO} (t : Stp K G w μ H w' μ' H') (n : H L = none) (h : H' L = some o) (hs : w'.S L = none) (hc : NoC w' L) : Stp K G w μ H w' μ' (upd H' L u) := by
  refine ⟨t.le, ⟨fun a z e => ?_, fun m x e => ?_, t.ok.inj, t.ok.bd, fun m a e => ?_⟩, fun a z e s c => ?_, fun a e => ?_⟩
  · rw [upd_ne fun q => by rw [q, hs] at e; cases e]
    exact t.ok.ex a z e
  · obtain ⟨p, e1, e2, c⟩ := t.ok.cl m x e
    exact ⟨p, e1, e2, c.step (.refl _) (upd_ne fun q => hc m (q ▸ e1))⟩
  · by_cases q : a = L
    · rw [q, upd_same]
      exact fun z => by cases z
    · rw [upd_ne q]
      exact t.ok.dm m a e
  · obtain ⟨h1, h2, h3⟩ := t.fr a z e s c
    exact ⟨by rw [upd_ne (ne_of_none e n)]; exact h1, h2, h3⟩
  · by_cases q : a = L
    · rw [q]
      exact n
    · rw [upd_ne q] at e
      exact t.dom a e
end
/-- one clause: each item's slot, its test, what is done with what has been gathered -/
abbrev DAct := DEnv → Mu → List D → (List D → Mu → Prop) → Prop
def dActL (Tg : DTG) (C : DTT) (U : DAct) (ρ0 : DEnv) (chk : Mu → Prop) : List D → Mu → List D → (List D → Mu → Prop) → Prop
  | [], μ, acc, Q => chk μ ∧ Q acc μ
  | d :: ds, μ, acc, Q => chk μ ∧ Tg d ρ0 fun ρ1 => C ρ1 μ NoX fun b μ' => if b = true then U ρ1 μ' acc fun acc' μ2 => dActL Tg C U ρ0 chk ds μ2 acc' Q else dActL Tg C U ρ0 chk ds μ' acc Q
def MonoA (U : DAct) : Prop := ∀ ρ μ acc Q Q', (∀ out μ', Q out μ' → Q' out μ') → U ρ μ acc Q → U ρ μ acc Q'
theorem mono_actL {Tg : DTG} {C : DTT} {U : DAct} {ρ0 : DEnv} {chk : Mu → Prop} (mg : MonoG Tg) (mc : Mono C) (mu : MonoA U) {Q Q' : List D → Mu → Prop} (i : ∀ out μ', Q out μ' → Q' out μ') : ∀ (ds : List D) (μ : Mu) (acc : List D), dActL Tg C U ρ0 chk ds μ acc Q → dActL Tg C U ρ0 chk ds μ acc Q'
  | [], μ, acc, q => ⟨q.1, i _ _ q.2⟩
  | d :: ds, μ, acc, q => ⟨q.1, mg _ _ _ _ (fun ρ1 => mc _ _ _ _ _ fun b μ' h => ite_imp h (mu _ _ _ _ _ fun acc' μ2 h => mono_actL mg mc mu i ds _ _ h) (mono_actL mg mc mu i ds _ acc)) q.2⟩
theorem actL_chk {Tg : DTG} {C : DTT} {U : DAct} {ρ0 : DEnv} {chk : Mu → Prop} {Q : List D → Mu → Prop} : ∀ {ds : List D} {μ : Mu} {acc : List D}, dActL Tg C U ρ0 chk ds μ acc Q → chk μ
  | [], _, _, q => q.1
  | _ :: _, _, _, q => q.1
/-- the item is added -/
def uAdd (T : DTE) : DAct := fun ρ μ acc Q => T ρ μ NoX fun y μ' => acc.length < sizeLine ∧ Q (acc ++ [y]) μ'
theorem mono_add {T : DTE} (mt : Mono T) : MonoA (uAdd T) := fun ρ μ acc Q Q' i q => mt _ _ _ _ _ (fun y μ' ⟨l, h⟩ => ⟨l, i _ _ h⟩) q
/-- another clause -/
def uFor (I : DTI) (Tg : DTG) (C : DTT) (U : DAct) (vs : List Nat) : DAct := fun ρ μ acc Q => I ρ μ NoX fun ds chk μ' => dActL Tg C U (wipeD ρ vs) chk ds μ' acc Q
theorem mono_ufor {I : DTI} {Tg : DTG} {C : DTT} {U : DAct} {vs : List Nat} (mi : MonoI I) (mg : MonoG Tg) (mc : Mono C) (mu : MonoA U) : MonoA (uFor I Tg C U vs) := fun ρ μ acc Q Q' i q => mi _ _ _ _ _ (fun ds c μ' h => mono_actL mg mc mu i ds μ' acc h) q
def dLcA (I : DTI) (Tg : DTG) (C : DTT) (U : DAct) (vs : List Nat) : DTE := fun ρ μ EX Q => I ρ μ EX fun ds chk μ' => dActL Tg C U (wipeD ρ vs) chk ds μ' [] fun out μ2 => Q (.lst out) μ2
theorem mono_lcA {I : DTI} {Tg : DTG} {C : DTT} {U : DAct} {vs : List Nat} (mi : MonoI I) (mg : MonoG Tg) (mc : Mono C) (mu : MonoA U) : Mono (dLcA I Tg C U vs) := fun ρ μ EX Q Q' i q => mi _ _ _ _ _ (fun ds c μ' h => mono_actL mg mc mu (fun out => i _) ds _ [] h) q
/-- .. a cell -/
def dLcAC (I : DTI) (Tg : DTG) (C : DTT) (U : DAct) (vs : List Nat) : DTE := fun ρ μ EX Q => I ρ μ EX fun ds chk μ' => dActL Tg C U (wipeD ρ vs) chk ds μ' [] fun out μ2 => Q (.cel μ2.length) (μ2 ++ [some (.lst out)])
theorem mono_lcAC {I : DTI} {Tg : DTG} {C : DTT} {U : DAct} {vs : List Nat} (mi : MonoI I) (mg : MonoG Tg) (mc : Mono C) (mu : MonoA U) : Mono (dLcAC I Tg C U vs) := fun ρ μ EX Q Q' i q => mi _ _ _ _ _ (fun ds c μ' h => mono_actL mg mc mu (fun out μ2 h => i _ _ h) ds _ [] h) q
abbrev dLc (I : DTI) (Tg : DTG) (C : DTT) (T : DTE) (vs : List Nat) : DTE := dLcA I Tg C (uAdd T) vs
abbrev dLc2 (I : DTI) (Tg : DTG) (C : DTT) (I1 : DTI) (Tg1 : DTG) (C1 : DTT) (T : DTE) (vs vs1 : List Nat) : DTE := dLcA I Tg C (uFor I1 Tg1 C1 (uAdd T) vs1) vs
abbrev dLcC (I : DTI) (Tg : DTG) (C : DTT) (T : DTE) (vs : List Nat) : DTE := dLcAC I Tg C (uAdd T) vs
/-- the new list as it grows -/
def LSt (K : PySem.W.Frag) (G : Gx) (L : Addr) (w : Wd) (H : Hp) (acc : List D) : Prop := w.S L = none ∧ NoC w L ∧ ∃ va, H L = some (.lst va) ∧ Rps K G w acc va
section
variable {X : Cx} {G : Gx} {E : XS} {pos : Pos}
abbrev BlkI := Shared × Hp × Addr × List (Str × Addr) × List Addr
abbrev blkX (X : Cx) (scope : Scope) (i : BlkI) : Cx := X.blk i.1 i.2.1 scope (compEnvC scope i.2.2.2.1 i.2.2.1 X.env) i.2.2.2.2
abbrev ACT := L2.St → Hp → (Hp → Prop) → Prop
/-- P: what holds where the clauses begin -/
def ActP (K : PySem.W.Frag) (G : Gx) (P : Wd → Mu → Hp → Prop) (L : Addr) (act : ACT) (U : DAct) : Prop := ∀ (σ : L2.St) (ρ : DEnv) (wp w : Wd) (μp μ : Mu) (Hq H : Hp) (acc : List D) (Nx : Hp → Prop), P wp μp Hq → Hq L = none → Stp K G wp μp Hq w μ H → Sl K G w σ ρ → LSt K G L w H acc →
  U ρ μ acc (fun acc' μ' => ∀ w' H', Stp K G wp μp Hq w' μ' H' → Wd.Le w w' → LSt K G L w' H' acc' → Nx H') → act σ H Nx
abbrev ActOk (K : PySem.W.Frag) (G : Gx) (L : Addr) (act : ACT) (U : DAct) : Prop := ActP K G (fun _ _ _ => True) L act U
theorem LSt.stp {K : PySem.W.Frag} {L : Addr} {w w' : Wd} {μ μ' : Mu} {H H' : Hp} {acc : List D} (l : LSt K G L w H acc) (t : Stp K G w μ H w' μ' H') : LSt K G L w' H' acc := by
  obtain ⟨n, c, va, e, r⟩ := l
  obtain ⟨h1, h2, h3⟩ := t.fr L _ e n c
  exact ⟨h2, h3, va, h1, rps_ex t.le r⟩
/-- the loop of a clause -/
theorem loop_act {J : It} {ds : List D} {w0 wp w1 : Wd} {chk : Mu → Prop} {μp μ1 : Mu} {Hq H1 : Hp} {K : PySem.W.Frag} {L : Addr} {g : TG} {tt : TT} {act : ACT} {vs is : List Nat} {Tg : DTG} {C : DTT} {U : DAct} {σ : L2.St} {ρ1 : DEnv} {acc0 : List D} {Nx : Hp → Prop} {P : Wd → Mu → Hp → Prop} (wk : WalkD K G w0 chk J ds) (e0 : Wd.Le w0 w1)
    (hg : RunG K G is g Tg) (mg : MonoG Tg) (hc : RunT K G ES0 tt C) (mc : Mono C) (hu : ActP K G P L act U) (mu : MonoA U) (his : ∀ i ∈ is, i ∈ vs)
    (hP : P wp μp Hq) (hL : Hq L = none) (t1 : Stp K G wp μp Hq w1 μ1 H1) (sl1 : Sl K G w1 σ ρ1) (l1 : LSt K G L w1 H1 acc0)
    (q1 : dActL Tg C U (wipeD ρ1 vs) chk ds μ1 acc0 (fun acc' μ' => ∀ w' H', Stp K G wp μp Hq w' μ' H' → Wd.Le w1 w' → LSt K G L w' H' acc' → Nx H')) :
    ∃ W : Nat → Nat → Hp → Prop, (∃ m, W 0 m H1) ∧ ∀ i m H, W i m H →
      (J.stop i H ∧ Nx H) ∨ (J.go i H ∧ ∃ N : Hp → Prop, (∀ H', N H' → ∃ m', m' < m ∧ W (i + 1) m' H') ∧ ∀ x H', J.yld i H x H' → g x (wipe σ vs) H' fun σ2 H2 => wipe σ2 vs = wipe σ vs ∧ tt σ2 H2 fun b H3 =>
        if b = true then act σ2 H3 N else N H3) := by
  refine ⟨fun i m H' => m = ds.length - i ∧ i ≤ ds.length ∧ ∃ acc w' μ', Stp K G wp μp Hq w' μ' H' ∧ Wd.Le w1 w' ∧ LSt K G L w' H' acc ∧ dActL Tg C U (wipeD ρ1 vs) chk (ds.drop i) μ' acc (fun acc' μ' => ∀ w' H', Stp K G wp μp Hq w' μ' H' → Wd.Le w1 w' → LSt K G L w' H' acc' → Nx H'),
    ⟨_, rfl, Nat.zero_le _, acc0, w1, μ1, t1, .refl _, l1, q1⟩, ?_⟩
  rintro i m H2 ⟨rfl, hi, acc, w2, μ2, t3, le2, l2, q2⟩
  have ck := actL_chk q2
  by_cases hlt : i < ds.length
  · refine .inr ⟨wk.go i w2 μ2 H2 hlt (e0.trans le2) t3.ok ck, fun H' => ∃ acc w' μ', Stp K G wp μp Hq w' μ' H' ∧ Wd.Le w1 w' ∧ LSt K G L w' H' acc ∧ dActL Tg C U (wipeD ρ1 vs) chk (ds.drop (i + 1)) μ' acc (fun acc' μ' => ∀ w' H', Stp K G wp μp Hq w' μ' H' → Wd.Le w1 w' → LSt K G L w' H' acc' → Nx H'),
      fun H' ⟨a, w', z⟩ => ⟨ds.length - (i + 1), by omega, rfl, hlt, a, w', z⟩, fun x H3 y => ?_⟩
    obtain ⟨d, w3, e3, t4, r3⟩ := wk.yld i w2 μ2 H2 x H3 hlt (e0.trans le2) t3.ok ck y
    have e3' : ds[i] = d := by rw [List.getElem?_eq_getElem hlt] at e3; exact Option.some.inj e3
    rw [List.drop_eq_getElem_cons hlt, e3'] at q2
    have l3 := l2.stp t4
    have sl3 := (sl1.le (le2.trans t4.le)).wipe vs
    refine hg (wipe σ vs) (wipeD ρ1 vs) w3 μ2 H3 d x _ sl3 t4.ok r3 (mg _ _ _ _ (fun ρ4 q4 σ4 sl4 on => ?_) q2.2)
    have ww : wipe σ4 vs = wipe (wipe σ vs) vs := on vs his
    have w2' : wipe (wipe σ vs) vs = wipe σ vs := by
      apply List.ext_getElem?
      intro j
      rw [wipe_get, wipe_get]
      by_cases q : j ∈ vs
      · rw [if_pos q, if_pos q]
        cases σ[j]? <;> rfl
      · rw [if_neg q]
    refine ⟨ww.trans w2', hc σ4 ρ4 w3 μ2 H3 NoX _ sl4 t4.ok lk0 (mc _ _ _ _ _ (fun b μ5 q5 w5 H5 t5 => ?_) q4)⟩
    have l5 := l3.stp t5
    have t35 := (t3.trans t4).trans t5
    have le5 := (le2.trans t4.le).trans t5.le
    refine ite_imp q5 (fun z => ?_) fun z => ?_
    · refine hu σ4 ρ4 wp w5 μp μ5 Hq H5 acc _ hP hL t35 (sl4.le t5.le) l5 (mu _ _ _ _ _ (fun acc' μ6 q6 w6 H6 t6 le6 l6 => ?_) z)
      exact ⟨acc', w6, μ6, t6, le5.trans le6, l6, q6⟩
    · exact ⟨acc, w5, μ5, t35, le5, l5, z⟩
  · have e : i = ds.length := by omega
    subst e
    rw [List.drop_length] at q2
    exact .inl ⟨wk.stop w2 μ2 H2 (e0.trans le2) t3.ok ck, q2.2 w2 H2 t3 le2 l2⟩
/-- adding the item's value -/
theorem act_add {K : PySem.W.Frag} {L : Addr} {te : TE} {T : DTE} (ht : RunE K G ES0 te T) (mt : Mono T) :
    ActOk K G L (fun σ H N => te σ H fun y H4 => ∃ acc, H4 L = some (.lst acc) ∧ acc.length < sizeLine ∧ N (upd H4 L (.lst (acc ++ [y])))) (uAdd T) := fun σ ρ wp w μp μ Hq H acc Nx _ hL t sl l q => by
  refine ht σ ρ w μ H NoX _ sl t.ok lk0 (mt _ _ _ _ _ (fun y μ' q' v w' H' t' r' => ?_) q)
  obtain ⟨n, c, va, e, r⟩ := l.stp t'
  obtain ⟨hl, q'⟩ := q'
  refine ⟨va, e, by rw [rps_len r]; exact hl, q' w' _ ((t.trans t').rawset hL e n c) t'.le ⟨n, c, _, upd_same, rps_app r (rps_one r')⟩⟩
/-- an inner clause -/
theorem act_for {K : PySem.W.Frag} {L : Addr} {wi : TI} {g : TG} {tt : TT} {act : ACT} {vs is : List Nat} {I : DTI} {Tg : DTG} {C : DTT} {U : DAct} {P : Wd → Mu → Hp → Prop} (hi : RunI K G ES0 wi I) (mi : MonoI I)
    (hg : RunG K G is g Tg) (mg : MonoG Tg) (hc : RunT K G ES0 tt C) (mc : Mono C) (hu : ActP K G P L act U) (mu : MonoA U) (his : ∀ i ∈ is, i ∈ vs) :
    ActP K G P L (fun σ H N => wi σ H fun J1 H4 => ∃ W1 : Nat → Nat → Hp → Prop, (∃ m, W1 0 m H4) ∧ ∀ j k H, W1 j k H →
      (J1.stop j H ∧ N H) ∨ (J1.go j H ∧ ∃ Nx1 : Hp → Prop, (∀ H', Nx1 H' → ∃ k', k' < k ∧ W1 (j + 1) k' H') ∧ ∀ x H', J1.yld j H x H' → g x (wipe σ vs) H' fun σ3 H5 => wipe σ3 vs = wipe σ vs ∧ tt σ3 H5 fun b H6 =>
        if b = true then act σ3 H6 Nx1 else Nx1 H6)) (uFor I Tg C U vs) := fun σ ρ wp w μp μ Hq H acc Nx hP hL t sl l q => by
  refine hi σ ρ w μ H NoX _ sl t.ok lk0 (mi _ _ _ _ _ (fun ds chk μ' q' J w1 H1 t1 wk => ?_) q)
  exact loop_act wk (.refl _) hg mg hc mc hu mu his hP hL (t.trans t1) (sl.le t1.le) (l.stp t1) (mono_actL mg mc mu (fun out μ2 h w' H' t' le' => h w' H' t' (t1.le.trans le')) _ _ _ q')
/-- a comprehension's reading -/
theorem run_lcA {wi : TI} {g : TG} {tt : TT} {actL : Addr → ACT} {vs is : List Nat} {I : DTI} {Tg : DTG} {C : DTT} {U : DAct} {tl : TE} (hi : RunI X.K G E wi I) (mi : MonoI I) (hg : RunG X.K G is g Tg) (mg : MonoG Tg)
    (hc : RunT X.K G ES0 tt C) (mc : Mono C) (hu : ∀ L, ActOk X.K G L (actL L) U) (mu : MonoA U) (his : ∀ i ∈ is, i ∈ vs)
    (htl : ∀ σ H Q, (wi σ H fun J H1 => ∀ L, H1 L = none → ∃ W : Nat → Nat → Hp → Prop, (∃ m, W 0 m (upd H1 L (.lst []))) ∧ ∀ i m H, W i m H →
      (J.stop i H ∧ Q (.ref L) H) ∨ (J.go i H ∧ ∃ Nx : Hp → Prop, (∀ H', Nx H' → ∃ m', m' < m ∧ W (i + 1) m' H') ∧ ∀ x H', J.yld i H x H' → g x (wipe σ vs) H' fun σ2 H2 => wipe σ2 vs = wipe σ vs ∧ tt σ2 H2 fun b H3 =>
        if b = true then actL L σ2 H3 Nx else Nx H3)) → tl σ H Q) : RunE X.K G E tl (dLcA I Tg C U vs) ∧ RunE X.K G E tl (dLcAC I Tg C U vs) := by
  constructor
  · intro σ ρ w μ H EX Q sl ok lk q
    refine htl σ H Q (hi σ ρ w μ H EX _ sl ok lk (mi _ _ _ _ _ (fun ds chk μ1 q1 J w1 H1 t1 wk L hD => ?_) q))
    have t2 := Stp.raw (o := .lst []) t1.ok hD
    have nn := t1.ok.none hD
    refine loop_act (acc0 := []) wk (.refl _) hg mg hc mc (hu L) mu his trivial hD t2 (sl.le t1.le) ⟨nn.1, nn.2, [], upd_same, rfl⟩ (mono_actL mg mc mu (fun out μ2 h w' H' t' le' l' => ?_) _ _ _ q1)
    obtain ⟨n, c, va, e, r⟩ := l'
    obtain ⟨ok', le2⟩ := Stp.data t'.ok e n c
    refine h (.ref L) ⟨upd w'.S L (.lst va), w'.al⟩ H' (t1.trans ⟨t'.le.trans le2, ok', fun a o ea sa ca => ?_, t'.dom⟩) ⟨L, va, rfl, upd_same, rps_ex le2 r⟩
    obtain ⟨h1, h2, h3⟩ := t'.fr a o ea sa ca
    exact ⟨h1, by show upd w'.S L _ a = none; rw [upd_ne (ne_of_none ea hD)]; exact h2, h3⟩
  · intro σ ρ w μ H EX Q sl ok lk q
    refine htl σ H Q (hi σ ρ w μ H EX _ sl ok lk (mi _ _ _ _ _ (fun ds chk μ1 q1 J w1 H1 t1 wk L hD => ?_) q))
    have t2 := Stp.raw (o := .lst []) t1.ok hD
    have nn := t1.ok.none hD
    refine loop_act (acc0 := []) wk (.refl _) hg mg hc mc (hu L) mu his trivial hD t2 (sl.le t1.le) ⟨nn.1, nn.2, [], upd_same, rfl⟩ (mono_actL mg mc mu (fun out μ2 h w' H' t' le' l' => ?_) _ _ _ q1)
    obtain ⟨n, c, va, e, r⟩ := l'
    obtain ⟨ok', le2⟩ := Stp.cell (x := .lst out) t'.ok n c ⟨va, e, r⟩
    refine h (.ref L) _ H' (t1.trans ⟨t'.le.trans le2, ok', fun a o ea sa ca => ?_, t'.dom⟩) ⟨L, if_pos rfl, rfl⟩
    obtain ⟨h1, h2, h3⟩ := t'.fr a o ea sa ca
    refine ⟨h1, h2, fun m z => ?_⟩
    have z : (if m = μ2.length then some L else w'.al m) = some a := z
    by_cases q : m = μ2.length
    · rw [if_pos q] at z
      cases z
      exact ne_of_none ea hD rfl
    · rw [if_neg q] at z
      exact h3 m z
section
variable {elt tg iter tg1 iter1 : Expr} {ifs ifs1 : List Expr} {scope : Scope} {own : List (Str × Nat)} {is is1 vs1 : List Nat} {I I1 : DTI} {Tg Tg1 : DTG} {C C1 : DTT} {T : DTE}
theorem lc_parts (hi : PDi X G E tg iter I) (hg : ∀ i, PDg (blkX X scope i) G tg is Tg) (ht : ∀ i, PDts (blkX X scope i) G ES0 ifs C) (he : ∀ i, PD (blkX X scope i) G ES0 elt T) (his : ∀ i ∈ is, i ∈ own.map (·.2)) :
    ∃ wi g tt te, PI X tg iter wi ∧ (∀ i, PG (blkX X scope i) tg g) ∧ (∀ i, PTs (blkX X scope i) ifs tt) ∧ (∀ i, PE (blkX X scope i) elt te) ∧ RunE X.K G E (tLc wi g tt te (own.map (·.2))) (dLc I Tg C T (own.map (·.2))) ∧ RunE X.K G E (tLc wi g tt te (own.map (·.2))) (dLcC I Tg C T (own.map (·.2))) ∧
      Mono (dLc I Tg C T (own.map (·.2))) ∧ Mono (dLcC I Tg C T (own.map (·.2))) := by
  obtain ⟨⟨wi, pi, ri⟩, mi⟩ := hi
  obtain ⟨g, pg, rg⟩ := uniG (Xf := blkX X scope) (K := X.K) (fun _ => rfl) hg
  obtain ⟨tt, pt, rt⟩ := uniT (Xf := blkX X scope) (K := X.K) (fun _ => rfl) ht
  obtain ⟨te, pe, re⟩ := uniE (Xf := blkX X scope) (K := X.K) (fun _ => rfl) he
  have i0 : BlkI := (X.s_0, X.H_0, 0, [], [])
  have h := run_lcA (tl := tLc wi g tt te (own.map (fun p : Str × Nat => p.2))) ri mi rg (hg i0).mono rt (ht i0).mono (fun L => act_add re (he i0).mono) (mono_add (he i0).mono) his fun σ H Q h => h
  exact ⟨wi, g, tt, te, pi, pg, pt, pe, h.1, h.2, mono_lcA mi (hg i0).mono (ht i0).mono (mono_add (he i0).mono), mono_lcAC mi (hg i0).mono (ht i0).mono (mono_add (he i0).mono)⟩
theorem pd_lc (hc : X.calm = true) (hN : X.N.Nodup) (ok : BlkOk X.N X.env.scope scope own) (hi : PDi X G E tg iter I) (hg : ∀ i, PDg (blkX X scope i) G tg is Tg) (ht : ∀ i, PDts (blkX X scope i) G ES0 ifs C) (he : ∀ i, PD (blkX X scope i) G ES0 elt T)
    (his : ∀ i ∈ is, i ∈ own.map (·.2) := by decide) (hs : ∀ x, foldedSetIterable iter X.env x = pure x := by intro _; rfl) : PD X G E (.ListComp elt [⟨tg, iter, ifs, 0⟩] scope pos) (dLc I Tg C T (own.map (·.2))) := by
  obtain ⟨wi, g, tt, te, p1, p2, p3, p4, r, _, m, _⟩ := lc_parts hi hg ht he his
  exact ⟨⟨_, pe_lc hc hN p1 ok (fun s H A cl fp => p2 (s, H, A, cl, fp)) (fun s H A cl fp => p3 (s, H, A, cl, fp)) (fun s H A cl fp => p4 (s, H, A, cl, fp)) hs, r⟩, m⟩
theorem pd_lcC (hc : X.calm = true) (hN : X.N.Nodup) (ok : BlkOk X.N X.env.scope scope own) (hi : PDi X G E tg iter I) (hg : ∀ i, PDg (blkX X scope i) G tg is Tg) (ht : ∀ i, PDts (blkX X scope i) G ES0 ifs C) (he : ∀ i, PD (blkX X scope i) G ES0 elt T)
    (his : ∀ i ∈ is, i ∈ own.map (·.2) := by decide) (hs : ∀ x, foldedSetIterable iter X.env x = pure x := by intro _; rfl) : PD X G E (.ListComp elt [⟨tg, iter, ifs, 0⟩] scope pos) (dLcC I Tg C T (own.map (·.2))) := by
  obtain ⟨wi, g, tt, te, p1, p2, p3, p4, _, r, _, m⟩ := lc_parts hi hg ht he his
  exact ⟨⟨_, pe_lc hc hN p1 ok (fun s H A cl fp => p2 (s, H, A, cl, fp)) (fun s H A cl fp => p3 (s, H, A, cl, fp)) (fun s H A cl fp => p4 (s, H, A, cl, fp)) hs, r⟩, m⟩
theorem psd_setLcG {i : Nat} {y : Str} {py spos : Pos} (hc : X.calm = true) (hN : X.N.Nodup) (hy : X.N[i]? = some y) (hyl : X.env.scope.names.lookup y = some .local) (hsw : swapsWith (.ListComp elt [⟨tg, iter, ifs, 0⟩] scope pos) (some (.Name y py)) spos.line X.env = pure true)
    (ok : BlkOk X.N X.env.scope scope own) (hi : PDi X G E tg iter I) (hg : ∀ i, PDg (blkX X scope i) G tg is Tg) (ht : ∀ i, PDts (blkX X scope i) G ES0 ifs C) (he : ∀ i, PD (blkX X scope i) G ES0 elt T)
    (his : ∀ i ∈ is, i ∈ own.map (·.2)) (hs : ∀ x, foldedSetIterable iter X.env x = pure x) : PSD X G E (.Assign [.Name y py] (.ListComp elt [⟨tg, iter, ifs, 0⟩] scope pos) spos) (dSet i (dLc I Tg C T (own.map (·.2)))) ∧
      PSD X G E (.Assign [.Name y py] (.ListComp elt [⟨tg, iter, ifs, 0⟩] scope pos) spos) (dSet i (dLcC I Tg C T (own.map (·.2)))) := by
  obtain ⟨wi, g, tt, te, p1, p2, p3, p4, r, r', m, m'⟩ := lc_parts hi hg ht he his
  have h := ps_setLc hc hN hy hyl hsw p1 ok (fun s H A cl fp => p2 (s, H, A, cl, fp)) (fun s H A cl fp => p3 (s, H, A, cl, fp)) (fun s H A cl fp => p4 (s, H, A, cl, fp)) hs
  exact ⟨psd_setG h r m, psd_setG h r' m'⟩
theorem lc2_parts (hi : PDi X G E tg iter I) (hg : ∀ i, PDg (blkX X scope i) G tg is Tg) (ht : ∀ i, PDts (blkX X scope i) G ES0 ifs C) (hi1 : ∀ i, PDi (blkX X scope i) G ES0 tg1 iter1 I1) (hg1 : ∀ i, PDg (blkX X scope i) G tg1 is1 Tg1) (ht1 : ∀ i, PDts (blkX X scope i) G ES0 ifs1 C1)
    (he : ∀ i, PD (blkX X scope i) G ES0 elt T) (his : ∀ i ∈ is, i ∈ own.map (·.2)) (his1 : ∀ i ∈ is1, i ∈ vs1) :
    ∃ wi g tt wi1 g1 tt1 te, PI X tg iter wi ∧ (∀ i, PG (blkX X scope i) tg g) ∧ (∀ i, PTs (blkX X scope i) ifs tt) ∧ (∀ i, PI (blkX X scope i) tg1 iter1 wi1) ∧ (∀ i, PG (blkX X scope i) tg1 g1) ∧ (∀ i, PTs (blkX X scope i) ifs1 tt1) ∧ (∀ i, PE (blkX X scope i) elt te) ∧
      RunE X.K G E (tLc2 wi g tt wi1 g1 tt1 te (own.map (·.2)) vs1) (dLc2 I Tg C I1 Tg1 C1 T (own.map (·.2)) vs1) ∧ Mono (dLc2 I Tg C I1 Tg1 C1 T (own.map (·.2)) vs1) := by
  obtain ⟨⟨wi, pi, ri⟩, mi⟩ := hi
  obtain ⟨g, pg, rg⟩ := uniG (Xf := blkX X scope) (K := X.K) (fun _ => rfl) hg
  obtain ⟨tt, pt, rt⟩ := uniT (Xf := blkX X scope) (K := X.K) (fun _ => rfl) ht
  obtain ⟨wi1, pi1, ri1⟩ := uniI (Xf := blkX X scope) (K := X.K) (fun _ => rfl) hi1
  obtain ⟨g1, pg1, rg1⟩ := uniG (Xf := blkX X scope) (K := X.K) (fun _ => rfl) hg1
  obtain ⟨tt1, pt1, rt1⟩ := uniT (Xf := blkX X scope) (K := X.K) (fun _ => rfl) ht1
  obtain ⟨te, pe, re⟩ := uniE (Xf := blkX X scope) (K := X.K) (fun _ => rfl) he
  have i0 : BlkI := (X.s_0, X.H_0, 0, [], [])
  have mu := mono_ufor (vs := vs1) (hi1 i0).mono (hg1 i0).mono (ht1 i0).mono (mono_add (he i0).mono)
  have h := run_lcA (tl := tLc2 wi g tt wi1 g1 tt1 te (own.map (fun p : Str × Nat => p.2)) vs1) ri mi rg (hg i0).mono rt (ht i0).mono (fun L => act_for ri1 (hi1 i0).mono rg1 (hg1 i0).mono rt1 (ht1 i0).mono (act_add re (he i0).mono) (mono_add (he i0).mono) his1) mu his fun σ H Q h => h
  exact ⟨wi, g, tt, wi1, g1, tt1, te, pi, pg, pt, pi1, pg1, pt1, pe, h.1, mono_lcA mi (hg i0).mono (ht i0).mono mu⟩
theorem pd_lc2 (hc : X.calm = true) (hN : X.N.Nodup) (ok : BlkOk X.N X.env.scope scope own) (hv : ∀ i ∈ vs1, i ∈ own.map (·.2)) (hi : PDi X G E tg iter I) (hg : ∀ i, PDg (blkX X scope i) G tg is Tg) (ht : ∀ i, PDts (blkX X scope i) G ES0 ifs C) (hi1 : ∀ i, PDi (blkX X scope i) G ES0 tg1 iter1 I1) (hg1 : ∀ i, PDg (blkX X scope i) G tg1 is1 Tg1) (ht1 : ∀ i, PDts (blkX X scope i) G ES0 ifs1 C1)
    (he : ∀ i, PD (blkX X scope i) G ES0 elt T) (his : ∀ i ∈ is, i ∈ own.map (·.2) := by decide) (his1 : ∀ i ∈ is1, i ∈ vs1 := by decide) (hs : ∀ x, foldedSetIterable iter X.env x = pure x := by intro _; rfl) (hs1 : ∀ env x, foldedSetIterable iter1 env x = pure x := by intro _ _; rfl) :
    PD X G E (.ListComp elt [⟨tg, iter, ifs, 0⟩, ⟨tg1, iter1, ifs1, 0⟩] scope pos) (dLc2 I Tg C I1 Tg1 C1 T (own.map (·.2)) vs1) := by
  obtain ⟨wi, g, tt, wi1, g1, tt1, te, p1, p2, p3, p4, p5, p6, p7, r, m⟩ := lc2_parts hi hg ht hi1 hg1 ht1 he his his1
  exact ⟨⟨_, pe_lc2 hc hN p1 ok hv (fun s H A cl fp => p2 (s, H, A, cl, fp)) (fun s H A cl fp => p3 (s, H, A, cl, fp)) (fun s H A cl fp => p4 (s, H, A, cl, fp)) (fun s H A cl fp => p5 (s, H, A, cl, fp)) (fun s H A cl fp => p6 (s, H, A, cl, fp)) (fun s H A cl fp => p7 (s, H, A, cl, fp)) hs hs1, r⟩, m⟩
theorem psd_setLc2 {i : Nat} {y : Str} {py spos : Pos} (hc : X.calm = true) (hN : X.N.Nodup) (hy : X.N[i]? = some y) (hyl : X.env.scope.names.lookup y = some .local) (hsw : swapsWith (.ListComp elt [⟨tg, iter, ifs, 0⟩, ⟨tg1, iter1, ifs1, 0⟩] scope pos) (some (.Name y py)) spos.line X.env = pure true)
    (ok : BlkOk X.N X.env.scope scope own) (hv : ∀ i ∈ vs1, i ∈ own.map (·.2)) (hi : PDi X G E tg iter I) (hg : ∀ i, PDg (blkX X scope i) G tg is Tg) (ht : ∀ i, PDts (blkX X scope i) G ES0 ifs C) (hi1 : ∀ i, PDi (blkX X scope i) G ES0 tg1 iter1 I1) (hg1 : ∀ i, PDg (blkX X scope i) G tg1 is1 Tg1) (ht1 : ∀ i, PDts (blkX X scope i) G ES0 ifs1 C1)
    (he : ∀ i, PD (blkX X scope i) G ES0 elt T) (his : ∀ i ∈ is, i ∈ own.map (·.2) := by decide) (his1 : ∀ i ∈ is1, i ∈ vs1 := by decide) (hs : ∀ x, foldedSetIterable iter X.env x = pure x := by intro _; rfl) (hs1 : ∀ env x, foldedSetIterable iter1 env x = pure x := by intro _ _; rfl) :
    PSD X G E (.Assign [.Name y py] (.ListComp elt [⟨tg, iter, ifs, 0⟩, ⟨tg1, iter1, ifs1, 0⟩] scope pos) spos) (dSet i (dLc2 I Tg C I1 Tg1 C1 T (own.map (·.2)) vs1)) := by
  obtain ⟨wi, g, tt, wi1, g1, tt1, te, p1, p2, p3, p4, p5, p6, p7, r, m⟩ := lc2_parts hi hg ht hi1 hg1 ht1 he his his1
  exact psd_setG (ps_setLc2 hc hN hy hyl hsw p1 ok hv (fun s H A cl fp => p2 (s, H, A, cl, fp)) (fun s H A cl fp => p3 (s, H, A, cl, fp)) (fun s H A cl fp => p4 (s, H, A, cl, fp)) (fun s H A cl fp => p5 (s, H, A, cl, fp)) (fun s H A cl fp => p6 (s, H, A, cl, fp)) (fun s H A cl fp => p7 (s, H, A, cl, fp)) hs hs1) r m
end
end
end Dl
set_option Elab.async false
set_option linter.all false
set_option autoImplicit false
set_option maxRecDepth 100000
set_option maxHeartbeats 2000000
/-! B6: what loops walk, over data -/
namespace Dl
open PySem PySem.Spec PyProof.Rows L2 Evl
abbrev noChk : Mu → Prop := fun _ => True
theorem walkD_of {K : PySem.W.Frag} {G : Gx} {w0 : Wd} {J : It} {n : Nat} {Gd : Hp → Prop} {Y : Nat → Hp → V → Hp → Prop} {ds : List D} {chk : Mu → Prop} (wk : Walk J n Gd Y) (hn : ds.length = n) (hG : ∀ w μ H, Wd.Le w0 w → Okk K G w μ H → chk μ → Gd H)
    (hY : ∀ (i : Nat) (w : Wd) (μ : Mu) (H : Hp) (x : V) (H' : Hp), i < n → Wd.Le w0 w → Okk K G w μ H → chk μ → Y i H x H' → ∃ d w', ds[i]? = some d ∧ Stp K G w μ H w' μ H' ∧ Rp K G w' d x) : WalkD K G w0 chk J ds := by
  subst hn
  exact ⟨fun i w μ H hi e ok c => wk.goes i H hi (hG w μ H e ok c), fun w μ H e ok c => wk.stops H (hG w μ H e ok c), fun i w μ H x H' hi e ok c y => hY i w μ H x H' hi e ok c (wk.yields i H x H' hi (hG w μ H e ok c) y)⟩
/-- a value's iteration -/
def PIV (X : Cx) (tg : Expr) (r : V → Hp → (It → Hp → Prop) → Prop) : Prop := ∀ (pins : List (Addr × Obj)) (s : Shared) (σ : L2.St) (H : Hp) (x : V) (v : Value) (Q : It → Hp → Prop), Inv X pins σ H s → RelV x v → r x H Q → wpAny (model X.prog X.w) X.A (pyIter v) (PIE X pins σ tg Q) X.xe s
theorem pi_v {X : Cx} {tg e : Expr} {te : TE} {r : V → Hp → (It → Hp → Prop) → Prop} (he : PE X e te) (hv : PIV X tg r) : PI X tg e (fun σ H Q => te σ H fun x H1 => r x H1 Q) :=
  ⟨fun pins s σ H Q I h => thn (he.run pins s σ H _ I h) fun v s1 ⟨x, H1, I1, r1, q1⟩ => hv pins s1 σ H1 x v Q I1 r1 q1⟩
def rIter (K : PySem.W.Frag) : V → Hp → (It → Hp → Prop) → Prop := fun x H Q => (∃ a xs, x = .ref a ∧ SqL K H a xs ∧ Q (Itl K a) H) ∨ (∃ a xs, x = .ref a ∧ SqT K H a xs ∧ Q (Itt K a) H) ∨ ∃ z, x = .str z ∧ Q (Its z) H
theorem piv_seq {X : Cx} {tg : Expr} : PIV X tg (rIter X.K) := fun pins s σ H x v Q I rv h => by
  rcases h with ⟨a, xs, rfl, hq, q⟩ | ⟨a, xs, rfl, hq, q⟩ | ⟨z, rfl, q⟩
  · obtain rfl : v = Value.ref a := rv
    obtain ⟨its, rs, pl, hz⟩ := I.list hq
    exact wpAny_pyIter_list pl.isList (pi_one (tk := s.toks) I _ (turn_list a _) ⟨_, Heap.get?_push_size _ rfl, rfl, rfl⟩ q)
  · obtain rfl : v = Value.ref a := rv
    obtain ⟨its, rs, pl, hz⟩ := I.tuple hq
    exact wpAny_pyIter_tuple (show s.heap.IsTuple a its.toArray from pl) (pi_one (tk := s.toks) I _ (turn_tuple a _) ⟨_, Heap.get?_push_size _ rfl, rfl, rfl⟩ q)
  · obtain ⟨t, rfl⟩ := rv
    cases ha : z.cps.all (· < 128) with
    | false => exact wpAny_pyIter_wide ha (pi_one (tk := s.toks) I _ (turn_str _ z t "str_iterator" (.inr rfl)) ⟨_, Heap.get?_push_size _ rfl, rfl, rfl⟩ q)
    | true => exact wpAny_pyIter_ascii ha (pi_one (tk := s.toks) I _ (turn_str _ z t "str_ascii_iterator" (.inl rfl)) ⟨_, Heap.get?_push_size _ rfl, rfl, rfl⟩ q)
/-- the signs of a text -/
def signs (z : Str) : List D := z.cps.toList.map fun c => .str ⟨#[c]⟩
theorem sign_short (c : Nat) : (⟨#[c]⟩ : Str).length ≤ sizeLine := by
  show 1 ≤ sizeLine
  rw [sizeLine_eq]
  decide
section
variable {X : Cx} {G : Gx} {E : XS} {tg e e2 : Expr} {pos p tpos : Pos} {K : PySem.W.Frag} {w : Wd}
theorem walkD_list {a : Addr} {xs : List D} {vs : List V} (h : SqL K w.S a vs) (r : Rps K G w xs vs) : WalkD K G w noChk (Itl K a) xs :=
  walkD_of (walk_list (xs := vs)) (rps_len r).symm (fun w' μ H e ok _ => exl (e.s.trans ok.ex) h) fun i w' μ H x H' hi e ok _ ⟨eH, y⟩ => by
    subst eH
    obtain ⟨d, e1, r1⟩ := rps_getV r y
    exact ⟨d, w', e1, .refl ok, rp_ex e r1⟩
theorem walkD_tup {a : Addr} {xs : List D} {vs : List V} (h : SqT K w.S a vs) (r : Rps K G w xs vs) : WalkD K G w noChk (Itt K a) xs :=
  walkD_of (walk_tup (xs := vs)) (rps_len r).symm (fun w' μ H e ok _ => ext (e.s.trans ok.ex) h) fun i w' μ H x H' hi e ok _ ⟨eH, y⟩ => by
    subst eH
    obtain ⟨d, e1, r1⟩ := rps_getV r y
    exact ⟨d, w', e1, .refl ok, rp_ex e r1⟩
theorem sign_get {z : Str} {i c : Nat} (h : z.cps[i]? = some c) : (signs z)[i]? = some (.str ⟨#[c]⟩) := by
  unfold signs
  rw [List.getElem?_map, Array.getElem?_toList, h]
  rfl
theorem walkD_str {z : Str} : WalkD K G w noChk (Its z) (signs z) :=
  walkD_of walk_str (by unfold signs; simp) (fun _ _ _ _ _ _ => trivial) fun i w' μ H x H' hi e ok _ ⟨eH, c, hc, hx⟩ => by
    subst eH hx
    exact ⟨_, w', sign_get hc, .refl ok, rfl, sign_short c⟩
/-- a cell's list, as long as it stays -/
theorem walkD_cel {n : Nat} {p : Addr} {xs : List D} (h : w.al n = some p) : WalkD K G w (fun μ => μ[n]? = some (some (.lst xs))) (Itl K p) xs := by
  have key : ∀ {w' : Wd} {μ : Mu} {H : Hp}, Wd.Le w w' → Okk K G w' μ H → μ[n]? = some (some (.lst xs)) → ∃ vs, H p = some (.lst vs) ∧ Rps K G w' xs vs := fun {w' μ H} e ok c => by
    obtain ⟨p', a, _, vs, e1, r⟩ := ok.cl n _ c
    rw [e.l n p h] at a
    cases a
    exact ⟨vs, e1, r⟩
  refine ⟨fun i w' μ H hi e ok c => ?_, fun w' μ H e ok c => ?_, fun i w' μ H x H' hi e ok c y => ?_⟩
  · obtain ⟨vs, e1, r⟩ := key e ok c
    obtain ⟨v, hv, _⟩ := rps_get r (List.getElem?_eq_getElem hi)
    exact ⟨vs, v, SqL.of e1, hv⟩
  · obtain ⟨vs, e1, r⟩ := key e ok c
    exact ⟨vs, SqL.of e1, by rw [rps_len r]; exact Nat.le_refl _⟩
  · obtain ⟨vs, e1, r⟩ := key e ok c
    obtain ⟨rfl, y⟩ := y
    obtain ⟨d, e2, r2⟩ := rps_getV r (y vs (SqL.of e1))
    exact ⟨d, w', e2, .refl ok, r2⟩
theorem rps_ints : ∀ ns : List Int, Rps K G w (ns.map D.int) (ns.map V.int)
  | [] => rfl
  | n :: ns => ⟨.int n, _, rfl, rfl, rps_ints ns⟩
/-- what an iteration walks -/
def dSrc (x : D) (μ : Mu) (Q : List D → (Mu → Prop) → Mu → Prop) : Prop := match x with
  | .lst xs => Q xs noChk μ
  | .scr ns => Q (ns.map D.int) noChk μ
  | .tup xs => Q xs noChk μ
  | .str z => Q (signs z) noChk μ
  | .cel n => match μ[n]? with
    | some (some (.lst xs)) => Q xs (fun μ' => μ'[n]? = some (some (.lst xs))) μ
    | _ => False
  | _ => False
theorem mono_src {x : D} {μ : Mu} {Q Q' : List D → (Mu → Prop) → Mu → Prop} (i : ∀ ds c μ', Q ds c μ' → Q' ds c μ') (h : dSrc x μ Q) : dSrc x μ Q' := by
  unfold dSrc at h ⊢
  split at h <;> first | exact i _ _ _ h | exact h.elim | skip
  split at h <;> first | exact i _ _ _ h | exact h.elim
def dIter (T : DTE) : DTI := fun ρ μ EX Q => T ρ μ EX fun x μ' => dSrc x μ' Q
theorem pdi {T : DTE} (h : PD X G E e T) : PDi X G E tg e (dIter T) := by
  obtain ⟨⟨t, pt, r⟩, m⟩ := h
  refine ⟨⟨_, pi_v pt piv_seq, fun σ ρ w μ H EX Q sl ok lk q => r σ ρ w μ H EX _ sl ok lk (m _ _ _ _ _ (fun x μ' q1 v w1 H1 t1 r1 => ?_) q)⟩, fun ρ μ EX Q Q' i q => m _ _ _ _ _ (fun x μ' => mono_src i) q⟩
  unfold dSrc at q1
  split at q1
  · obtain ⟨a, vs, rfl, h1, h2⟩ := r1
    exact .inl ⟨a, vs, rfl, SqL.of (t1.ok.ex _ _ h1), q1 _ w1 H1 t1 (walkD_list (SqL.of h1) h2)⟩
  · obtain ⟨a, rfl, h1⟩ := r1
    exact .inl ⟨a, _, rfl, exl t1.ok.ex h1, q1 _ w1 H1 t1 (walkD_list h1 (rps_ints _))⟩
  · obtain ⟨a, vs, rfl, h1, h2⟩ := r1
    exact .inr (.inl ⟨a, vs, rfl, SqT.of (t1.ok.ex _ _ h1), q1 _ w1 H1 t1 (walkD_tup (SqT.of h1) h2)⟩)
  · rename_i z
    obtain ⟨rfl, _⟩ := r1
    exact .inr (.inr ⟨z, rfl, q1 _ w1 H1 t1 walkD_str⟩)
  · split at q1
    · rename_i n _ xs hx
      obtain ⟨p, a, rfl⟩ := r1
      obtain ⟨p', a', _, vs, e1, rr⟩ := t1.ok.cl n _ hx
      rw [a] at a'
      cases a'
      exact .inl ⟨p, vs, rfl, SqL.of e1, q1 _ w1 H1 t1 (walkD_cel a)⟩
    · exact q1.elim
  · exact q1.elim
/-! range -/
def natsFrom (lo : Int) (n : Nat) : List D := (List.range n).map fun (k : Nat) => D.int (lo + (k : Int))
def rangeD : List D → Option (List D)
  | [.int j] => if -(2 ^ 62) ≤ j ∧ j < 2 ^ 62 then some (natsFrom 0 j.toNat) else none
  | [.int i, .int j] => if -(2 ^ 62) ≤ i ∧ i < 2 ^ 62 ∧ -(2 ^ 62) ≤ j ∧ j < 2 ^ 62 then some (natsFrom i (j - i).toNat) else none
  | _ => none
theorem nats_len (lo : Int) (n : Nat) : (natsFrom lo n).length = n := by simp [natsFrom]
theorem nats_get {lo : Int} {n i : Nat} (h : i < n) : (natsFrom lo n)[i]? = some (.int (lo + i)) := by simp [natsFrom, h]
theorem walkD_range {lo : Int} {n : Nat} : WalkD K G w noChk (Itr lo n) (natsFrom lo n) :=
  walkD_of walk_range (nats_len lo n) (fun _ _ _ _ _ _ => trivial) fun i w' μ H x H' hi e ok _ ⟨eH, hx⟩ => by
    subst eH hx
    exact ⟨.int (lo + i), w', nats_get hi, .refl ok, rfl⟩
def dRange (T : DTA) : DTI := fun ρ μ EX Q => T ρ μ EX fun xs μ' => ∃ ds, rangeD xs = some ds ∧ Q ds noChk μ'
theorem mono_range {T : DTA} (m : Mono T) : MonoI (dRange T) := fun ρ μ EX Q Q' i q => m _ _ _ _ _ (fun x μ' ⟨ds, e, h⟩ => ⟨ds, e, i _ _ _ h⟩) q
theorem rps1 {d : D} {vs : List V} (h : Rps K G w [d] vs) : ∃ v, vs = [v] ∧ Rp K G w d v := by
  obtain ⟨v, u, rfl, h1, h2⟩ := h
  obtain rfl : u = [] := h2
  exact ⟨v, rfl, h1⟩
theorem rps2 {d d2 : D} {vs : List V} (h : Rps K G w [d, d2] vs) : ∃ v u, vs = [v, u] ∧ Rp K G w d v ∧ Rp K G w d2 u := by
  obtain ⟨v, u, rfl, h1, h2⟩ := h
  obtain ⟨u, rfl, h3⟩ := rps1 h2
  exact ⟨v, u, rfl, h1, h3⟩
theorem rangeD_1 {xs ds : List D} (h : rangeD xs = some ds) (l : xs.length = 1) : ∃ j, xs = [.int j] ∧ (-(2 ^ 62) ≤ j ∧ j < 2 ^ 62) ∧ ds = natsFrom 0 j.toNat := by
  unfold rangeD at h
  split at h
  · split at h
    · rename_i j hj
      exact ⟨j, rfl, hj, (Option.some.inj h).symm⟩
    · cases h
  · simp at l
  · cases h
theorem rangeD_2 {xs ds : List D} (h : rangeD xs = some ds) (l : xs.length = 2) : ∃ i j, xs = [.int i, .int j] ∧ (-(2 ^ 62) ≤ i ∧ i < 2 ^ 62 ∧ -(2 ^ 62) ≤ j ∧ j < 2 ^ 62) ∧ ds = natsFrom i (j - i).toNat := by
  unfold rangeD at h
  split at h
  · simp at l
  · split at h
    · rename_i i j hj
      exact ⟨i, j, rfl, hj, (Option.some.inj h).symm⟩
    · cases h
  · cases h
theorem pdi_range1 {T : DTE} (hg : Gl X "range") (hm : X.mg "range" = none) (h : PD X G E e T) (hs : starEach [e] X.env = [(false, eval e X.env)] := by rfl) : PDi X G E tg (.Call (.Name "range" p) [e] [] pos) (dRange (dCons T dNil)) := by
  obtain ⟨⟨t, pt, r⟩, m⟩ := pda_cons h (pda_nil (X := X) (G := G) (E := E)) hs
  refine ⟨⟨_, pi_range1 hg hm pt hs, fun σ ρ w μ H EX Q sl ok lk q => r σ ρ w μ H EX _ sl ok lk (h.mono _ _ _ _ _ (fun x μ' q1 vs w1 H1 t1 r1 => ?_) q)⟩, mono_range m⟩
  obtain ⟨ds, e1, q1⟩ := q1
  obtain ⟨j, e2, hj, rfl⟩ := rangeD_1 e1 rfl
  cases e2
  obtain ⟨v, rfl, rfl⟩ := rps1 r1
  exact ⟨j, rfl, hj.1, hj.2, q1 _ w1 H1 t1 walkD_range⟩
theorem pdi_range2 {T U : DTE} (hg : Gl X "range") (hm : X.mg "range" = none) (h : PD X G E e T) (h' : PD X G E e2 U) (hs : starEach [e, e2] X.env = [(false, eval e X.env), (false, eval e2 X.env)] := by rfl) (hs2 : starEach [e2] X.env = [(false, eval e2 X.env)] := by rfl) : PDi X G E tg (.Call (.Name "range" p) [e, e2] [] pos) (dRange (dCons T (dCons U dNil))) := by
  obtain ⟨⟨t, pt, r⟩, m⟩ := pda_cons h (pda_cons h' (pda_nil (X := X) (G := G) (E := E)) hs2) (by rw [hs, hs2])
  refine ⟨⟨_, pi_range2 hg hm pt hs hs2, fun σ ρ w μ H EX Q sl ok lk q => r σ ρ w μ H EX _ sl ok lk (h.mono _ _ _ _ _ (fun x μ1 => h'.mono _ _ _ _ _ fun y μ' q1 vs w1 H1 t1 r1 => ?_) q)⟩, mono_range m⟩
  obtain ⟨ds, e1, q1⟩ := q1
  obtain ⟨i, j, e2, hj, rfl⟩ := rangeD_2 e1 rfl
  cases e2
  obtain ⟨v, u, rfl, rfl, rfl⟩ := rps2 r1
  exact ⟨i, j, rfl, hj, q1 _ w1 H1 t1 walkD_range⟩
/-! pairs: enumerate, zip -/
def pairsD (xs ys : List D) : List D := (xs.zip ys).map fun p => .tup [p.1, p.2]
theorem pairs_get {xs ys : List D} {i : Nat} {x y : D} (h1 : xs[i]? = some x) (h2 : ys[i]? = some y) : (pairsD xs ys)[i]? = some (.tup [x, y]) := by
  unfold pairsD
  rw [List.getElem?_map, List.getElem?_zip_eq_some (z := (x, y)) |>.mpr ⟨h1, h2⟩]
  rfl
theorem pairs_len (xs ys : List D) : (pairsD xs ys).length = min xs.length ys.length := by simp [pairsD]
theorem stp_pair {μ : Mu} {H : Hp} {T : Addr} {x y : V} {d1 d2 : D} (ok : Okk K G w μ H) (n : H T = none) (h1 : Rp K G w d1 x) (h2 : Rp K G w d2 y) : ∃ w', Stp K G w μ H w' μ (upd H T (.tup [x, y])) ∧ Rp K G w' (.tup [d1, d2]) (.ref T) := by
  have t := Stp.new (o := .tup [x, y]) ok n
  exact ⟨_, t, T, [x, y], rfl, upd_same, x, [y], rfl, rp_ex t.le h1, y, [], rfl, rp_ex t.le h2, rfl⟩
def enumD (xs : List D) : List D := pairsD (natsFrom 0 xs.length) xs
theorem enum_len (xs : List D) : (enumD xs).length = xs.length := by unfold enumD; rw [pairs_len, nats_len]; omega
theorem enum_get {xs : List D} {i : Nat} {x : D} (h : xs[i]? = some x) : (enumD xs)[i]? = some (.tup [.int i, x]) := by
  have hi : i < xs.length := (List.getElem?_eq_some_iff.mp h).1
  have := pairs_get (xs := natsFrom 0 xs.length) (ys := xs) (nats_get hi) h
  simpa [enumD] using this
/-- enumerate of a list, a tuple, a text -/
inductive EnK | l | t | s
def asK : EnK → D → Option (List D)
  | .l, .lst xs => some xs
  | .t, .tup xs => some xs
  | .s, .str z => some (signs z)
  | _, _ => none
def dEnum (k : EnK) (T : DTE) : DTI := fun ρ μ EX Q => T ρ μ EX fun x μ' => ∃ ds, asK k x = some ds ∧ Q (enumD ds) noChk μ'
theorem mono_enum {k : EnK} {T : DTE} (m : Mono T) : MonoI (dEnum k T) := fun ρ μ EX Q Q' i q => m _ _ _ _ _ (fun x μ' ⟨ds, e, h⟩ => ⟨ds, e, i _ _ _ h⟩) q
section
variable {elts : List Expr} {kk : Nat}
theorem pdi_enumL {T : DTE} (hg : Gl X "enumerate") (hm : X.mg "enumerate" = none) (h : PD X G E e T) (hs : starEach [e] X.env = [(false, eval e X.env)] := by rfl) : PDi X G E (.Tuple elts kk tpos) (.Call (.Name "enumerate" p) [e] [] pos) (dEnum .l T) := by
  obtain ⟨⟨t, pt, r⟩, m⟩ := pda_cons h (pda_nil (X := X) (G := G) (E := E)) hs
  refine ⟨⟨_, pi_enum hg hm pt hs, fun σ ρ w μ H EX Q sl ok lk q => r σ ρ w μ H EX _ sl ok lk (h.mono _ _ _ _ _ (fun x μ' q1 vs w1 H1 t1 r1 => ?_) q)⟩, mono_enum h.mono⟩
  obtain ⟨ds, e1, q1⟩ := q1
  obtain ⟨v, rfl, rr1⟩ := rps1 r1
  cases x with
  | lst xs =>
    cases e1
    obtain ⟨a, vs, rfl, h1, h2⟩ := rr1
    refine ⟨a, vs, rfl, SqL.of (t1.ok.ex _ _ h1), q1 _ w1 H1 t1 (walkD_of (walk_enum (xs := vs)) ((enum_len _).trans (rps_len h2).symm) (fun w' μ H e ok _ => SqL.of ((e.s.trans ok.ex) _ _ h1)) fun i w' μ H x H' hi e ok _ y => ?_)⟩
    obtain ⟨T, u, z, rfl, n, rfl, hu, hw⟩ := y
    cases hu
    obtain ⟨d, e2, r2⟩ := rps_getV h2 hw
    obtain ⟨w2, t2, r3⟩ := stp_pair (K := X.K) (d1 := .int i) ok n rfl (rp_ex e r2)
    exact ⟨_, w2, enum_get e2, t2, r3⟩
  | _ => cases e1
theorem pdi_enumT {T : DTE} (hg : Gl X "enumerate") (hm : X.mg "enumerate" = none) (h : PD X G E e T) (hs : starEach [e] X.env = [(false, eval e X.env)] := by rfl) : PDi X G E (.Tuple elts kk tpos) (.Call (.Name "enumerate" p) [e] [] pos) (dEnum .t T) := by
  obtain ⟨⟨t, pt, r⟩, m⟩ := pda_cons h (pda_nil (X := X) (G := G) (E := E)) hs
  refine ⟨⟨_, My.pi_enumT hg hm pt hs, fun σ ρ w μ H EX Q sl ok lk q => r σ ρ w μ H EX _ sl ok lk (h.mono _ _ _ _ _ (fun x μ' q1 vs w1 H1 t1 r1 => ?_) q)⟩, mono_enum h.mono⟩
  obtain ⟨ds, e1, q1⟩ := q1
  obtain ⟨v, rfl, rr1⟩ := rps1 r1
  cases x with
  | tup xs =>
    cases e1
    obtain ⟨a, vs, rfl, h1, h2⟩ := rr1
    refine ⟨a, vs, rfl, SqT.of (t1.ok.ex _ _ h1), q1 _ w1 H1 t1 (walkD_of (My.walk_enumT (xs := vs)) ((enum_len _).trans (rps_len h2).symm) (fun w' μ H e ok _ => SqT.of ((e.s.trans ok.ex) _ _ h1)) fun i w' μ H x H' hi e ok _ y => ?_)⟩
    obtain ⟨T, u, z, rfl, n, rfl, hu, hw⟩ := y
    cases hu
    obtain ⟨d, e2, r2⟩ := rps_getV h2 hw
    obtain ⟨w2, t2, r3⟩ := stp_pair (K := X.K) (d1 := .int i) ok n rfl (rp_ex e r2)
    exact ⟨_, w2, enum_get e2, t2, r3⟩
  | _ => cases e1
theorem pdi_enumS {T : DTE} (hg : Gl X "enumerate") (hm : X.mg "enumerate" = none) (h : PD X G E e T) (hs : starEach [e] X.env = [(false, eval e X.env)] := by rfl) : PDi X G E (.Tuple elts kk tpos) (.Call (.Name "enumerate" p) [e] [] pos) (dEnum .s T) := by
  obtain ⟨⟨t, pt, r⟩, m⟩ := pda_cons h (pda_nil (X := X) (G := G) (E := E)) hs
  refine ⟨⟨_, My.pi_enumS hg hm pt hs, fun σ ρ w μ H EX Q sl ok lk q => r σ ρ w μ H EX _ sl ok lk (h.mono _ _ _ _ _ (fun x μ' q1 vs w1 H1 t1 r1 => ?_) q)⟩, mono_enum h.mono⟩
  obtain ⟨ds, e1, q1⟩ := q1
  obtain ⟨v, rfl, rr1⟩ := rps1 r1
  cases x with
  | str z =>
    cases e1
    obtain ⟨rfl, _⟩ := rr1
    refine ⟨z, rfl, q1 _ w1 H1 t1 (walkD_of My.walk_enumS (by rw [enum_len]; unfold signs; simp) (fun _ _ _ _ _ _ => trivial) fun i w' μ H x H' hi e ok _ y => ?_)⟩
    obtain ⟨T, c, rfl, n, rfl, hc⟩ := y
    obtain ⟨w2, t2, r3⟩ := stp_pair (K := X.K) (d1 := .int i) (d2 := .str ⟨#[c]⟩) (x := .int (i : Nat)) (y := .str ⟨#[c]⟩) ok n rfl ⟨rfl, sign_short c⟩
    exact ⟨_, w2, enum_get (sign_get hc), t2, r3⟩
  | _ => cases e1
/-- zip of two lists -/
def dZip (k k' : EnK) (T U : DTE) : DTI := fun ρ μ EX Q => T ρ μ EX fun x μ1 => U ρ μ1 EX fun y μ' => ∃ ds es, asK k x = some ds ∧ asK k' y = some es ∧ Q (pairsD ds es) noChk μ'
theorem mono_zip {k k' : EnK} {T U : DTE} (m : Mono T) (m' : Mono U) : MonoI (dZip k k' T U) := fun ρ μ EX Q Q' i q => m _ _ _ _ _ (fun x μ1 => m' _ _ _ _ _ fun y μ' ⟨a, b, e1, e2, h⟩ => ⟨a, b, e1, e2, i _ _ _ h⟩) q
theorem pdi_zipL {T U : DTE} (hg : Gl X "zip") (hm : X.mg "zip" = none) (h : PD X G E e T) (h' : PD X G E e2 U) (hs : starEach [e, e2] X.env = (false, eval e X.env) :: starEach [e2] X.env := by rfl) (hs2 : starEach [e2] X.env = [(false, eval e2 X.env)] := by rfl) (hpl : (backTo pos (starEach [e2] X.env)).any (·.1) = false := by rfl) : PDi X G E (.Tuple elts kk tpos) (.Call (.Name "zip" p) [e, e2] [] pos) (dZip .l .l T U) := by
  obtain ⟨⟨t, pt, r⟩, m⟩ := pda_cons h (pda_cons h' (pda_nil (X := X) (G := G) (E := E)) hs2) hs
  refine ⟨⟨_, RZ.pi_zipA hg hm pt hs hpl, fun σ ρ w μ H EX Q sl ok lk q => r σ ρ w μ H EX _ sl ok lk (h.mono _ _ _ _ _ (fun x μ1 => h'.mono _ _ _ _ _ fun y μ' q1 vs w1 H1 t1 r1 => ?_) q)⟩, mono_zip h.mono h'.mono⟩
  obtain ⟨ds, es, e1, e2, q1⟩ := q1
  obtain ⟨v, u, rfl, rr1, r2⟩ := rps2 r1
  cases x with
  | lst xs =>
    cases e1
    cases y with
    | lst ys =>
      cases e2
      obtain ⟨a, va, rfl, h1, h2⟩ := rr1
      obtain ⟨b, vb, rfl, g1, g2⟩ := r2
      refine ⟨a, b, va, vb, rfl, .inl ⟨SqL.of (t1.ok.ex _ _ h1), SqL.of (t1.ok.ex _ _ g1), q1 _ w1 H1 t1 (walkD_of (walk_zip (xs := va) (ys := vb) rfl) (by rw [pairs_len, rps_len h2, rps_len g2]) (fun w' μ H e ok _ => ⟨SqL.of ((e.s.trans ok.ex) _ _ h1), SqL.of ((e.s.trans ok.ex) _ _ g1)⟩) fun i w' μ H x H' hi e ok _ y => ?_)⟩⟩
      obtain ⟨T, u, z, rfl, n, rfl, hu, hw⟩ := y
      obtain ⟨d, e3, r3⟩ := rps_getV h2 hu
      obtain ⟨d', e4, r4⟩ := rps_getV g2 hw
      obtain ⟨w2, t2, r5⟩ := stp_pair (K := X.K) ok n (rp_ex e r3) (rp_ex e r4)
      exact ⟨_, w2, pairs_get e3 e4, t2, r5⟩
    | _ => cases e2
  | _ => cases e1
end
end
end Dl
set_option Elab.async false
set_option linter.all false
set_option autoImplicit false
set_option maxRecDepth 100000
set_option maxHeartbeats 2000000
/-! B7: operators over data -/
namespace Dl
open PySem PySem.Spec PyProof.Rows L2 Evl
/-! data as PyData -/
mutual
def toP : D → Option PyData
  | .non => some .none
  | .bl b => some (.bool b)
  | .int i => some (.int i)
  | .str z => some (.str z)
  | .lst xs => (toPs xs).map .list
  | .tup xs => (toPs xs).map .tuple
  | .scr ns => some (.list (ns.map .int))
  | _ => none
def toPs : List D → Option (List PyData)
  | [] => some []
  | d :: ds => (toP d).bind fun p => (toPs ds).map fun ps => p :: ps
end
section
variable {K : PySem.W.Frag} {G : Gx} {w : Wd} {H : Hp}
theorem dp_ints : ∀ ns : List Int, DpAll K H (ns.map V.int) (ns.map PyData.int)
  | [] => .nil
  | n :: r => .cons (.int n) (dp_ints r)
mutual
theorem dp_of (e : Ex w.S H) : ∀ {d : D} {v : V} {p : PyData}, Rp K G w d v → toP d = some p → Dp K H v p
  | .non, _, _, h, q => by cases q; cases (show _ = V.non from h); exact .non
  | .bl b, _, _, h, q => by cases q; cases (show _ = V.bl b from h); exact .bl b
  | .int i, _, _, h, q => by cases q; cases (show _ = V.int i from h); exact .int i
  | .str z, _, _, h, q => by cases q; obtain ⟨rfl, _⟩ := h; exact .str z
  | .lst xs, _, _, h, q => by
    obtain ⟨a, vs, rfl, h1, h2⟩ := h
    have q : (toPs xs).map PyData.list = some _ := q
    obtain ⟨ps, e1, rfl⟩ := Option.map_eq_some_iff.mp q
    exact .lst (SqL.of (e _ _ h1)) (dps_of e h2 e1)
  | .tup xs, _, _, h, q => by
    obtain ⟨a, vs, rfl, h1, h2⟩ := h
    have q : (toPs xs).map PyData.tuple = some _ := q
    obtain ⟨ps, e1, rfl⟩ := Option.map_eq_some_iff.mp q
    exact .tup (SqT.of (e _ _ h1)) (dps_of e h2 e1)
  | .scr ns, _, _, h, q => by
    obtain ⟨a, rfl, h1⟩ := h
    cases q
    exact .lst (exl e h1) (dp_ints ns)
  | .dct _, _, _, _, q => by cases q
  | .obj _ _, _, _, _, q => by cases q
  | .cel _, _, _, _, q => by cases q
  | .exc _ _ _ _, _, _, _, q => by cases q
  | .fn _, _, _, _, q => by cases q
  | .val _, _, _, _, q => by cases q
theorem dps_of (e : Ex w.S H) : ∀ {ds : List D} {vs : List V} {ps : List PyData}, Rps K G w ds vs → toPs ds = some ps → DpAll K H vs ps
  | [], _, _, h, q => by
    cases q
    obtain rfl : _ = [] := h
    exact .nil
  | d :: ds, _, _, h, q => by
    obtain ⟨v, r, rfl, h1, h2⟩ := h
    have q : (toP d).bind (fun p => (toPs ds).map fun ps => p :: ps) = some _ := q
    obtain ⟨p, e1, q⟩ := Option.bind_eq_some_iff.mp q
    obtain ⟨ps, e2, rfl⟩ := Option.map_eq_some_iff.mp q
    exact .cons (dp_of e h1 e1) (dps_of e h2 e2)
end
theorem dp_rt {d : D} {v : V} {p : PyData} (e : Ex w.S H) (h : Rt K G w H d v) (q : toP d = some p) : Dp K H v p := by
  cases d with
  | lst xs =>
    obtain ⟨a, vs, rfl, h1, h2⟩ := h
    have q : (toPs xs).map PyData.list = some _ := q
    obtain ⟨ps, e1, rfl⟩ := Option.map_eq_some_iff.mp q
    exact .lst (SqL.of h1) (dps_of e h2 e1)
  | tup xs => exact dp_of (G := G) e (d := .tup xs) h q
  | scr ns => exact dp_of (G := G) e (d := .scr ns) h q
  | dct kv => cases q
  | obj C fs => cases q
  | non => exact dp_of (G := G) e (d := .non) h q
  | bl b => exact dp_of (G := G) e (d := .bl b) h q
  | int i => exact dp_of (G := G) e (d := .int i) h q
  | str z => exact dp_of (G := G) e (d := .str z) h q
  | cel n => cases q
  | exc a dd C fs => cases q
  | fn x => cases q
  | val x => cases q
theorem len_toPs : ∀ {ds : List D} {ps : List PyData}, toPs ds = some ps → ps.length = ds.length
  | [], _, q => by cases q; rfl
  | d :: ds, _, q => by
    have q : (toP d).bind (fun p => (toPs ds).map fun ps => p :: ps) = some _ := q
    obtain ⟨p, e1, q⟩ := Option.bind_eq_some_iff.mp q
    obtain ⟨ps, e2, rfl⟩ := Option.map_eq_some_iff.mp q
    simp [len_toPs e2]
end
/-! readings of comparisons of any data -/
section
variable {X : Cx}
def rCmpD (K : PySem.W.Frag) (f : PyData → PyData → Bool) : R2 := fun x y H Q => ∃ d e, Dp K H x d ∧ Dp K H y e ∧ PySem.W.alike d e = true ∧ d ≠ .none ∧ d.depth ≤ 64 ∧ Q (.bl (f d e)) H
theorem min_le {a b : Nat} {u : Nat} (h : a ≤ 64) (hu : u + 64 < cLine) : u + min a b < cLine := by
  have := Nat.min_le_left a b
  omega
theorem op_ltD (hu : X.A.units + 64 < cLine) : OpR X (compareOp .Lt) (rCmpD X.K fun d e => PySem.W.dataLt d e) := by
  intro pins s σ H x y v u Q I rx ry h
  obtain ⟨d, e, hd, he, al, nn, dp, q⟩ := h
  obtain ⟨as, r1⟩ := Dp.reads I d x v hd rx
  obtain ⟨bs, r2⟩ := Dp.reads I e y u he ry
  exact PySem.W.lt_data r1 r2 al nn (min_le dp hu) ⟨.bl _, H, I, rfl, q⟩
theorem op_gtD (hu : X.A.units + 64 < cLine) : OpR X (compareOp .Gt) (rCmpD X.K fun d e => PySem.W.dataLt e d) := by
  intro pins s σ H x y v u Q I rx ry h
  obtain ⟨d, e, hd, he, al, nn, dp, q⟩ := h
  obtain ⟨as, r1⟩ := Dp.reads I d x v hd rx
  obtain ⟨bs, r2⟩ := Dp.reads I e y u he ry
  exact PySem.W.gt_data r1 r2 al nn (min_le dp hu) ⟨.bl _, H, I, rfl, q⟩
theorem op_leD (hu : X.A.units + 64 < cLine) : OpR X (compareOp .LtE) (rCmpD X.K fun d e => !PySem.W.dataLt e d) := by
  intro pins s σ H x y v u Q I rx ry h
  obtain ⟨d, e, hd, he, al, nn, dp, q⟩ := h
  obtain ⟨as, r1⟩ := Dp.reads I d x v hd rx
  obtain ⟨bs, r2⟩ := Dp.reads I e y u he ry
  exact PySem.W.le_data r1 r2 al nn (min_le dp hu) ⟨.bl _, H, I, rfl, q⟩
theorem op_geD (hu : X.A.units + 64 < cLine) : OpR X (compareOp .GtE) (rCmpD X.K fun d e => !PySem.W.dataLt d e) := by
  intro pins s σ H x y v u Q I rx ry h
  obtain ⟨d, e, hd, he, al, nn, dp, q⟩ := h
  obtain ⟨as, r1⟩ := Dp.reads I d x v hd rx
  obtain ⟨bs, r2⟩ := Dp.reads I e y u he ry
  exact PySem.W.ge_data r1 r2 al nn (min_le dp hu) ⟨.bl _, H, I, rfl, q⟩
end
section
variable {X : Cx} {G : Gx}
theorem opOr {r1 r2 : R2} {f : Value → Value → Sem Value} (h : OpR X f r1) (g : OpR X f r2) : OpR X f (fun x y H Q => r1 x y H Q ∨ r2 x y H Q) := OpR.or h g
/-! order -/
def nnP : PyData → Bool
  | .none => false
  | _ => true
theorem nnP_ne {p : PyData} (h : nnP p = true) : p ≠ .none := fun e => by rw [e] at h; cases h
/-- the order of data that are alike (no ints) -/
def ordD (f : PyData → PyData → Bool) (x y : D) : Option D := match toP x, toP y with
  | some p, some q => if PySem.W.alike p q = true ∧ nnP p = true ∧ p.depth ≤ 64 then some (.bl (f p q)) else none
  | _, _ => none
def ltD : D → D → Option D
  | .int i, .int j => some (.bl (decide (i < j)))
  | x, y => ordD (fun d e => PySem.W.dataLt d e) x y
def gtD : D → D → Option D
  | .int i, .int j => some (.bl (decide (j < i)))
  | x, y => ordD (fun d e => PySem.W.dataLt e d) x y
def leD : D → D → Option D
  | .int i, .int j => some (.bl (decide (i ≤ j)))
  | x, y => ordD (fun d e => !PySem.W.dataLt e d) x y
def geD : D → D → Option D
  | .int i, .int j => some (.bl (decide (j ≤ i)))
  | x, y => ordD (fun d e => !PySem.W.dataLt d e) x y
theorem ordD_ok {K : PySem.W.Frag} {f : PyData → PyData → Bool} : OpD K G (rCmpD K f) (ordD f) := by
  intro w μ H x y d v u Q ok hx hy hg q
  unfold ordD at hg
  split at hg
  · rename_i p p' hp hp'
    split at hg
    · rename_i c
      cases hg
      exact ⟨p, p', dp_rt ok.ex hx hp, dp_rt ok.ex hy hp', c.1, nnP_ne c.2.1, c.2.2, q _ w H (.refl ok) rfl⟩
    · cases hg
  · cases hg
theorem ltD_ok {K : PySem.W.Frag} : OpD K G (fun x y H Q => rI0 (fun i j => .bl (decide (i < j))) x y H Q ∨ rCmpD K (fun d e => PySem.W.dataLt d e) x y H Q) ltD := by
  intro w μ H x y d v u Q ok hx hy hg q
  unfold ltD at hg
  split at hg
  · cases hg; cases hx; cases hy
    exact .inl ⟨_, _, rfl, rfl, q _ w H (.refl ok) rfl⟩
  · exact .inr (ordD_ok w μ H x y d v u Q ok hx hy hg q)
theorem gtD_ok {K : PySem.W.Frag} : OpD K G (fun x y H Q => rI0 (fun i j => .bl (decide (j < i))) x y H Q ∨ rCmpD K (fun d e => PySem.W.dataLt e d) x y H Q) gtD := by
  intro w μ H x y d v u Q ok hx hy hg q
  unfold gtD at hg
  split at hg
  · cases hg; cases hx; cases hy
    exact .inl ⟨_, _, rfl, rfl, q _ w H (.refl ok) rfl⟩
  · exact .inr (ordD_ok w μ H x y d v u Q ok hx hy hg q)
theorem leD_ok {K : PySem.W.Frag} : OpD K G (fun x y H Q => rI0 (fun i j => .bl (decide (i ≤ j))) x y H Q ∨ rCmpD K (fun d e => !PySem.W.dataLt e d) x y H Q) leD := by
  intro w μ H x y d v u Q ok hx hy hg q
  unfold leD at hg
  split at hg
  · cases hg; cases hx; cases hy
    exact .inl ⟨_, _, rfl, rfl, q _ w H (.refl ok) rfl⟩
  · exact .inr (ordD_ok w μ H x y d v u Q ok hx hy hg q)
theorem geD_ok {K : PySem.W.Frag} : OpD K G (fun x y H Q => rI0 (fun i j => .bl (decide (j ≤ i))) x y H Q ∨ rCmpD K (fun d e => !PySem.W.dataLt d e) x y H Q) geD := by
  intro w μ H x y d v u Q ok hx hy hg q
  unfold geD at hg
  split at hg
  · cases hg; cases hx; cases hy
    exact .inl ⟨_, _, rfl, rfl, q _ w H (.refl ok) rfl⟩
  · exact .inr (ordD_ok w μ H x y d v u Q ok hx hy hg q)
/-! equality -/
def eqvD (f : Bool → Bool) (x y : D) : Option D := match toP x, toP y with
  | some p, some q => if SeqAt.shaped p = true ∧ SeqAt.shaped q = true then some (.bl (f (PyData.eqv p q))) else none
  | _, _ => none
def eqD : D → D → Option D
  | .int i, .int j => some (.bl (decide (i = j)))
  | .str i, .str j => some (.bl (decide (i = j)))
  | .bl i, .bl j => some (.bl (decide (i = j)))
  | x, y => eqvD id x y
def neD : D → D → Option D
  | .int i, .int j => some (.bl (!decide (i = j)))
  | .str i, .str j => some (.bl (!decide (i = j)))
  | .bl i, .bl j => some (.bl (!decide (i = j)))
  | x, y => eqvD not x y
theorem decV_int {i j : Int} : decide (V.int i = V.int j) = decide (i = j) := by
  by_cases h : i = j
  · subst h; simp
  · rw [decide_eq_false h, decide_eq_false fun z => h (by injection z)]
theorem decV_str {i j : Str} : decide (V.str i = V.str j) = decide (i = j) := by
  by_cases h : i = j
  · subst h; simp
  · rw [decide_eq_false h, decide_eq_false fun z => h (by injection z)]
theorem decV_bl {i j : Bool} : decide (V.bl i = V.bl j) = decide (i = j) := by
  by_cases h : i = j
  · subst h; simp
  · rw [decide_eq_false h, decide_eq_false fun z => h (by injection z)]
theorem eqD_ok {K : PySem.W.Frag} : OpD K G (fun x y H Q => rEq x y H Q ∨ rEqD K x y H Q) eqD := by
  intro w μ H x y d v u Q ok hx hy hg q
  unfold eqD at hg
  split at hg
  · cases hg; cases hx; cases hy
    exact .inl ⟨rfl, by rw [decV_int]; exact q _ w H (.refl ok) rfl⟩
  · cases hg; cases hx.1; cases hy.1
    exact .inl ⟨rfl, by rw [decV_str]; exact q _ w H (.refl ok) rfl⟩
  · cases hg; cases hx; cases hy
    exact .inl ⟨rfl, by rw [decV_bl]; exact q _ w H (.refl ok) rfl⟩
  · unfold eqvD at hg
    split at hg
    · rename_i p p' hp hp'
      split at hg
      · rename_i c
        cases hg
        exact .inr ⟨p, p', dp_rt ok.ex hx hp, dp_rt ok.ex hy hp', c.1, c.2, q _ w H (.refl ok) rfl⟩
      · cases hg
    · cases hg
theorem neD_ok {K : PySem.W.Frag} : OpD K G (fun x y H Q => rNe x y H Q ∨ rNeD K x y H Q) neD := by
  intro w μ H x y d v u Q ok hx hy hg q
  unfold neD at hg
  split at hg
  · cases hg; cases hx; cases hy
    exact .inl ⟨rfl, by rw [decV_int]; exact q _ w H (.refl ok) rfl⟩
  · cases hg; cases hx.1; cases hy.1
    exact .inl ⟨rfl, by rw [decV_str]; exact q _ w H (.refl ok) rfl⟩
  · cases hg; cases hx; cases hy
    exact .inl ⟨rfl, by rw [decV_bl]; exact q _ w H (.refl ok) rfl⟩
  · unfold eqvD at hg
    split at hg
    · rename_i p p' hp hp'
      split at hg
      · rename_i c
        cases hg
        exact .inr ⟨p, p', dp_rt ok.ex hx hp, dp_rt ok.ex hy hp', c.1, c.2, q _ w H (.refl ok) rfl⟩
      · cases hg
    · cases hg
/-! membership -/
def hasS (x y : Str) : Bool := !(Builtin.Str.occurrences y x 0 y.length 1).isEmpty
def inD' (f : Bool → Bool) (x y : D) : Option D := match x, y with
  | .str a, .str b => some (.bl (f (hasS a b)))
  | x, .lst ys => match toP x, toPs ys with
    | some p, some ps => if SeqAt.shaped p = true ∧ SeqAt.shaped (.list ps) = true then some (.bl (f (ps.any fun z => PyData.eqv z p))) else none
    | _, _ => none
  | x, .tup ys => match toP x, toPs ys with
    | some p, some ps => if SeqAt.shaped p = true ∧ SeqAt.shaped (.tuple ps) = true then some (.bl (f (ps.any fun z => PyData.eqv z p))) else none
    | _, _ => none
  | _, _ => none
def inD : D → D → Option D := inD' id
def notInD : D → D → Option D := inD' not
def rInA (K : PySem.W.Frag) : R2 := fun x y H Q => (∃ i j, x = .str i ∧ y = .str j ∧ Q (.bl (!(Builtin.Str.occurrences j i 0 j.length 1).isEmpty)) H) ∨ rInD K x y H Q ∨ My.rInDT K x y H Q
def rNotInDT (K : PySem.W.Frag) : R2 := fun x y H Q => ∃ d ds, Dp K H x d ∧ Dp K H y (.tuple ds) ∧ SeqAt.shaped d = true ∧ SeqAt.shaped (.tuple ds) = true ∧ Q (.bl (!ds.any fun z => PyData.eqv z d)) H
def rNotInA (K : PySem.W.Frag) : R2 := fun x y H Q => (∃ i j, x = .str i ∧ y = .str j ∧ Q (.bl (!(!(Builtin.Str.occurrences j i 0 j.length 1).isEmpty))) H) ∨ rNotInD K x y H Q ∨ rNotInDT K x y H Q
theorem inD_ok {K : PySem.W.Frag} : OpD K G (rInA K) inD := by
  intro w μ H x y d v u Q ok hx hy hg q
  unfold inD inD' at hg
  split at hg
  · cases hg; cases hx.1; cases hy.1
    exact .inl ⟨_, _, rfl, rfl, q _ w H (.refl ok) rfl⟩
  · rename_i x ys
    split at hg
    · rename_i p ps hp hps
      split at hg
      · rename_i c
        cases hg
        exact .inr (.inl ⟨p, ps, dp_rt ok.ex hx hp, dp_rt ok.ex hy (by show (toPs _).map _ = _; rw [hps]; rfl), c.1, c.2, q _ w H (.refl ok) rfl⟩)
      · cases hg
    · cases hg
  · split at hg
    · rename_i p ps hp hps
      split at hg
      · rename_i c
        cases hg
        exact .inr (.inr ⟨p, ps, dp_rt ok.ex hx hp, dp_rt ok.ex hy (by show (toPs _).map _ = _; rw [hps]; rfl), c.1, c.2, q _ w H (.refl ok) rfl⟩)
      · cases hg
    · cases hg
  · cases hg
theorem notInD_ok {K : PySem.W.Frag} : OpD K G (rNotInA K) notInD := by
  intro w μ H x y d v u Q ok hx hy hg q
  unfold notInD inD' at hg
  split at hg
  · cases hg; cases hx.1; cases hy.1
    exact .inl ⟨_, _, rfl, rfl, q _ w H (.refl ok) rfl⟩
  · split at hg
    · rename_i p ps hp hps
      split at hg
      · rename_i c
        cases hg
        exact .inr (.inl ⟨p, ps, dp_rt ok.ex hx hp, dp_rt ok.ex hy (by show (toPs _).map _ = _; rw [hps]; rfl), c.1, c.2, q _ w H (.refl ok) rfl⟩)
      · cases hg
    · cases hg
  · split at hg
    · rename_i p ps hp hps
      split at hg
      · rename_i c
        cases hg
        exact .inr (.inr ⟨p, ps, dp_rt ok.ex hx hp, dp_rt ok.ex hy (by show (toPs _).map _ = _; rw [hps]; rfl), c.1, c.2, q _ w H (.refl ok) rfl⟩)
      · cases hg
    · cases hg
  · cases hg
theorem op_notInDT (hu : X.A.units + 65 < cLine) : OpR X (compareOp .NotIn) (rNotInDT X.K) := by
  intro pins s σ H x y v u Q I rx ry h
  obtain ⟨d, ds, hd, he, sd, se, q⟩ := h
  obtain ⟨as, r1⟩ := Dp.reads I d x v hd rx
  obtain ⟨bs, r2⟩ := Dp.reads I (.tuple ds) y u he ry
  exact SeqAt.notIn_tuple_reads r2 r1 (SeqAt.canLay_of_shaped se) (SeqAt.canLay_of_shaped sd) (room_in_shaped sd hu) ⟨.bl _, H, I, rfl, q⟩
theorem opr_in (hu : X.A.units + 65 < cLine) : OpR X (compareOp .In) (rInA X.K) := OpR.or op_in_str (OpR.or (op_inD hu) (My.op_inDT hu))
theorem opr_notIn (hu : X.A.units + 65 < cLine) : OpR X (compareOp .NotIn) (rNotInA X.K) := OpR.or op_notin_str (OpR.or (op_notInD hu) (op_notInDT hu))
/-! is None -/
def isNonD : D → Bool
  | .non => true
  | _ => false
def isD : D → D → Option D
  | x, .non => match x with
    | .val _ => none
    | x => some (.bl (isNonD x))
  | .bl a, .bl b => some (.bl (decide (a = b)))
  | _, _ => none
def isNotD : D → D → Option D
  | x, .non => match x with
    | .val _ => none
    | x => some (.bl (!isNonD x))
  | .bl a, .bl b => some (.bl (!decide (a = b)))
  | _, _ => none
theorem rt_non {K : PySem.W.Frag} {w : Wd} {H : Hp} {d : D} {v : V} (h : Rt K G w H d v) (nv : ∀ x, d ≠ .val x) : decide (v = V.non) = isNonD d := by
  cases d with
  | non => cases h; rfl
  | bl b => cases h; rfl
  | int i => cases h; rfl
  | str z => cases h.1; rfl
  | val x => exact (nv x rfl).elim
  | lst xs => obtain ⟨a, vs, rfl, _⟩ := h; rfl
  | tup xs => obtain ⟨a, vs, rfl, _⟩ := h; rfl
  | scr xs => obtain ⟨a, rfl, _⟩ := h; rfl
  | dct xs => obtain ⟨a, vs, rfl, _⟩ := h; rfl
  | obj C xs => obtain ⟨a, c, dx, gs, rfl, _⟩ := h; rfl
  | cel n => obtain ⟨a, _, rfl⟩ := h; rfl
  | exc a dd C fs => cases h.1; rfl
  | fn x => obtain ⟨a, _, rfl⟩ := h; rfl
def rIsA : R2 := fun x y H Q => (y = .non ∧ Q (.bl (decide (x = .non))) H) ∨ ∃ a b, x = .bl a ∧ y = .bl b ∧ Q (.bl (decide (a = b))) H
def rIsNotA : R2 := fun x y H Q => (y = .non ∧ Q (.bl (!decide (x = .non))) H) ∨ ∃ a b, x = .bl a ∧ y = .bl b ∧ Q (.bl (!decide (a = b))) H
theorem isD_ok {K : PySem.W.Frag} : OpD K G rIsA isD := by
  intro w μ H x y d v u Q ok hx hy hg q
  unfold isD at hg
  split at hg
  · split at hg
    · cases hg
    · rename_i nv
      cases hg
      obtain rfl : u = _ := hy
      exact .inl ⟨rfl, by rw [rt_non hx (fun x e => nv x e)]; exact q _ w H (.refl ok) rfl⟩
  · cases hg; cases hx; cases hy
    exact .inr ⟨_, _, rfl, rfl, q _ w H (.refl ok) rfl⟩
  · cases hg
theorem isNotD_ok {K : PySem.W.Frag} : OpD K G rIsNotA isNotD := by
  intro w μ H x y d v u Q ok hx hy hg q
  unfold isNotD at hg
  split at hg
  · split at hg
    · cases hg
    · rename_i nv
      cases hg
      obtain rfl : u = _ := hy
      exact .inl ⟨rfl, by rw [rt_non hx (fun x e => nv x e)]; exact q _ w H (.refl ok) rfl⟩
  · cases hg; cases hx; cases hy
    exact .inr ⟨_, _, rfl, rfl, q _ w H (.refl ok) rfl⟩
  · cases hg
theorem opr_is : OpR X (compareOp .Is) rIsA := OpR.or op_isN op_is_bl
theorem opr_isNot : OpR X (compareOp .IsNot) rIsNotA := OpR.or op_notN op_isnot_bl
/-! sums, products -/
def addD : D → D → Option D
  | .int i, .int j => some (.int (i + j))
  | .int i, .bl k => some (.int (i + b2i k))
  | .str a, .str b => if a.length + b.length ≤ sizeLine then some (.str (a ++ b)) else none
  | .lst xs, .lst ys => if xs.length + ys.length ≤ sizeLine then some (.lst (xs ++ ys)) else none
  | .tup xs, .tup ys => if xs.length + ys.length ≤ sizeLine then some (.tup (xs ++ ys)) else none
  | _, _ => none
def rAddA (K : PySem.W.Frag) : R2 := fun x y H Q => rI0 (fun i j => .int (i + j)) x y H Q ∨ (∃ i k, x = .int i ∧ y = .bl k ∧ Q (.int (i + b2i k)) H) ∨ (∃ i j, x = .str i ∧ y = .str j ∧ i.length + j.length ≤ sizeLine ∧ Q (.str (i ++ j)) H) ∨ rCat x y H Q ∨ rCatA K x y H Q
theorem opr_add : OpR X (binaryOp .Add) (rAddA X.K) := OpR.or op_add (OpR.or op_add_ib (OpR.or op_add_str (OpR.or op_cat op_catA)))
theorem str_len_app (a b : Str) : (a ++ b).length = a.length + b.length := by
  show (a.cps ++ b.cps).size = _
  rw [Array.size_append]
  rfl
theorem nil_rps {K : PySem.W.Frag} {w : Wd} {ds : List D} {vs : List V} (h : Rps K G w ds vs) : vs = [] ↔ ds = [] := by
  have := rps_len h
  cases vs <;> cases ds <;> simp_all
theorem addD_ok {K : PySem.W.Frag} : OpD K G (rAddA K) addD := by
  intro w μ H x y d v u Q ok hx hy hg q
  unfold addD at hg
  split at hg
  · cases hg; cases hx; cases hy
    exact .inl ⟨_, _, rfl, rfl, q _ w H (.refl ok) rfl⟩
  · cases hg; cases hx; cases hy
    exact .inr (.inl ⟨_, _, rfl, rfl, q _ w H (.refl ok) rfl⟩)
  · split at hg
    · rename_i a b hl
      cases hg; cases hx.1; cases hy.1
      exact .inr (.inr (.inl ⟨_, _, rfl, rfl, hl, q _ w H (.refl ok) ⟨rfl, by rw [str_len_app]; exact hl⟩⟩))
    · cases hg
  · split at hg
    · rename_i xs ys hl
      cases hg
      obtain ⟨a, vs, rfl, h1, h2⟩ := hx
      obtain ⟨b, us, rfl, h3, h4⟩ := hy
      refine .inr (.inr (.inr (.inl ⟨a, b, vs, us, rfl, rfl, h1, h3, by rw [rps_len h2, rps_len h4]; exact hl, fun p n => ?_⟩)))
      have t := Stp.new (o := .lst (vs ++ us)) ok n
      exact q _ _ _ t ⟨p, _, rfl, upd_same, rps_ex t.le (rps_app h2 h4)⟩
    · cases hg
  · split at hg
    · rename_i xs ys hl
      cases hg
      obtain ⟨a, vs, rfl, h1, h2⟩ := id hx
      obtain ⟨b, us, rfl, h3, h4⟩ := id hy
      refine .inr (.inr (.inr (.inr ⟨a, b, vs, us, rfl, rfl, SqT.of (ok.ex _ _ h1), SqT.of (ok.ex _ _ h3), by rw [rps_len h2, rps_len h4]; exact hl, fun e => ?_, fun e1 e2 => ?_, fun e1 e2 p n => ?_⟩)))
      · obtain rfl := (nil_rps h2).mp e
        exact q _ w H (.refl ok) hy
      · obtain rfl := (nil_rps h4).mp e2
        rw [List.append_nil] at q
        exact q _ w H (.refl ok) hx
      · have t := Stp.new (o := .tup (vs ++ us)) ok n
        exact q _ _ _ t ⟨p, _, rfl, upd_same, rps_ex t.le (rps_app h2 h4)⟩
    · cases hg
  · cases hg
end
end Dl
set_option Elab.async false
set_option linter.all false
set_option autoImplicit false
set_option maxRecDepth 100000
set_option maxHeartbeats 2000000
/-! B8: numbers, subscripts, slices, built-ins over data -/
namespace Dl
open PySem PySem.Spec PyProof.Rows L2 Evl
section
variable {X : Cx} {G : Gx} {E : XS} {e a b c o : Expr} {es : List Expr} {pos apos p : Pos}
/-! numbers -/
def i2 (C : Int → Int → Bool) (f : Int → Int → Int) : D → D → Option D
  | .int i, .int j => if C i j = true then some (.int (f i j)) else none
  | _, _ => none
theorem i2_ok {K : PySem.W.Frag} {C : Int → Int → Bool} {C' : Int → Int → Prop} {f : Int → Int → Int} (h : ∀ i j, C i j = true → C' i j) : OpD K G (rI C' fun i j => .int (f i j)) (i2 C f) := by
  intro w μ H x y d v u Q ok hx hy hg q
  unfold i2 at hg
  split at hg
  · split at hg
    · rename_i c
      cases hg; cases hx; cases hy
      exact ⟨_, _, rfl, rfl, h _ _ c, q _ w H (.refl ok) rfl⟩
    · cases hg
  · cases hg
theorem rI0_I {g : Int → Int → V} {x y : V} {H : Hp} {Q : VK} (h : rI (fun _ _ => True) g x y H Q) : rI0 g x y H Q := let ⟨i, j, e1, e2, _, q⟩ := h; ⟨i, j, e1, e2, q⟩
def subD := i2 (fun _ _ => true) fun i j => i - j
theorem opr_sub : OpR X (binaryOp .Sub) (rI (fun _ _ => True) fun i j => .int (i - j)) := fun pins s σ H x y v u Q I a b h => op_sub pins s σ H x y v u Q I a b (rI0_I h)
theorem subD_ok {K : PySem.W.Frag} : OpD K G (rI (fun _ _ => True) fun i j => .int (i - j)) subD := i2_ok fun _ _ _ => trivial
def fdivD := i2 (fun _ j => decide (0 < j ∧ j < 1073741824)) fun i j => i / j
theorem fdivD_ok {K : PySem.W.Frag} : OpD K G (rI CDiv fun i j => .int (i / j)) fdivD := i2_ok fun i j h => (of_decide_eq_true h : 0 < j ∧ j < 1073741824)
def modD := i2 (fun _ j => decide (0 < j)) fun i j => i % j
theorem modD_ok {K : PySem.W.Frag} : OpD K G (rI (fun _ j => 0 < j) fun i j => .int (i % j)) modD := i2_ok fun _ _ h => of_decide_eq_true h
def powD := i2 (fun i j => decide (0 ≤ j ∧ j ≤ 1000000 ∧ i.natAbs < 2 ^ 64)) fun i j => i ^ j.toNat
theorem powD_ok {K : PySem.W.Frag} : OpD K G (rI CPow fun i j => .int (i ^ j.toNat)) powD := i2_ok fun i j h => (of_decide_eq_true h : 0 ≤ j ∧ j ≤ 1000000 ∧ i.natAbs < 2 ^ 64)
def shlD := i2 (fun i j => decide (0 ≤ j ∧ j ≤ 1000000 ∧ i.natAbs < 2 ^ 64)) fun i j => i * 2 ^ j.toNat
theorem shlD_ok {K : PySem.W.Frag} : OpD K G (rI CPow fun i j => .int (i * 2 ^ j.toNat)) shlD := i2_ok fun i j h => (of_decide_eq_true h : 0 ≤ j ∧ j ≤ 1000000 ∧ i.natAbs < 2 ^ 64)
def shrD := i2 (fun _ j => decide (0 ≤ j)) fun i j => i / 2 ^ j.toNat
theorem shrD_ok {K : PySem.W.Frag} : OpD K G (rI (fun _ j => 0 ≤ j) fun i j => .int (i / 2 ^ j.toNat)) shrD := i2_ok fun _ _ h => of_decide_eq_true h
def andD := i2 (fun _ _ => true) fun i j => Builtin.bitAnd i j
theorem opr_and : OpR X (binaryOp .BitAnd) (rI (fun _ _ => True) fun i j => .int (Builtin.bitAnd i j)) := fun pins s σ H x y v u Q I a b h => op_and pins s σ H x y v u Q I a b (rI0_I h)
theorem andD_ok {K : PySem.W.Frag} : OpD K G (rI (fun _ _ => True) fun i j => .int (Builtin.bitAnd i j)) andD := i2_ok fun _ _ _ => trivial
/-! products: of numbers, of a list or a text and a number -/
def mulD : D → D → Option D
  | .int i, .int j => if ((decide (-(2 ^ 64) < i ∧ i < 2 ^ 64)) || decide (-(2 ^ 64) < j ∧ j < 2 ^ 64)) = true then some (.int (i * j)) else none
  | .lst xs, .int k => if -(2 ^ 63) ≤ k ∧ k < 2 ^ 63 ∧ xs.length * k.toNat ≤ sizeLine then some (.lst (List.replicate k.toNat xs).flatten) else none
  | .str z, .int k => if 0 ≤ k ∧ k ≤ 1000 ∧ z.cps.size ≤ 10000 then some (.str (My.repS z k.toNat)) else none
  | _, _ => none
def rMulA : R2 := fun x y H Q => rI CMul (fun i j => .int (i * j)) x y H Q ∨ rRep x y H Q ∨ My.rMulS x y H Q
theorem opr_mul : OpR X (binaryOp .Mult) rMulA := OpR.or op_mul (OpR.or op_rep My.op_mulS)
theorem rps_reps {K : PySem.W.Frag} {w : Wd} {ds : List D} {vs : List V} (h : Rps K G w ds vs) : ∀ n : Nat, Rps K G w (List.replicate n ds).flatten (List.replicate n vs).flatten
  | 0 => rfl
  | n + 1 => by
    rw [List.replicate_succ, List.replicate_succ, List.flatten_cons, List.flatten_cons]
    exact rps_app h (rps_reps h n)
theorem repS_len (z : Str) (n : Nat) : (My.repS z n).length = n * z.cps.size := by
  show (((List.replicate n z.cps.toList).flatten).toArray).size = _
  rw [List.size_toArray, List.length_flatten, List.map_replicate, List.sum_replicate_nat, Array.length_toList]
theorem mulD_ok {K : PySem.W.Frag} : OpD K G rMulA mulD := by
  intro w μ H x y d v u Q ok hx hy hg q
  unfold mulD at hg
  split at hg
  · split at hg
    · rename_i i j c
      cases hg; cases hx; cases hy
      rw [Bool.or_eq_true, decide_eq_true_iff, decide_eq_true_iff] at c
      exact .inl ⟨_, _, rfl, rfl, c, q _ w H (.refl ok) rfl⟩
    · cases hg
  · split at hg
    · rename_i xs k c
      cases hg; cases hy
      obtain ⟨a, vs, rfl, h1, h2⟩ := hx
      refine .inr (.inl ⟨a, _, vs, rfl, rfl, h1, c.1, c.2.1, by rw [rps_len h2]; exact c.2.2, fun p n => ?_⟩)
      have t := Stp.new (o := .lst (List.replicate k.toNat vs).flatten) ok n
      exact q _ _ _ t ⟨p, _, rfl, upd_same, rps_ex t.le (rps_reps h2 _)⟩
    · cases hg
  · split at hg
    · rename_i z k c
      cases hg; cases hy; cases hx.1
      refine .inr (.inr ⟨z, k.toNat, rfl, by rw [Int.toNat_of_nonneg c.1], c.2.2, by omega, q _ w H (.refl ok) ⟨rfl, ?_⟩⟩)
      rw [repS_len, sizeLine_eq]
      have : k.toNat * z.cps.size ≤ 1000 * 10000 := Nat.mul_le_mul (by omega) c.2.2
      omega
    · cases hg
  · cases hg
/-! subscripts -/
def ixD : D → D → Option D
  | .lst xs, .int i => atI xs i
  | .tup xs, .int i => atI xs i
  | .scr ns, .int i => (atI ns i).map .int
  | .str z, .int i => (atI z.cps.toList i).map fun c => .str ⟨#[c]⟩
  | _, _ => none
theorem rps_atI {K : PySem.W.Frag} {w : Wd} {ds : List D} {vs : List V} {i : Int} {d : D} (r : Rps K G w ds vs) (h : atI ds i = some d) : ∃ v, atI vs i = some v ∧ Rp K G w d v := by
  unfold atI at h ⊢
  rw [rps_len r]
  obtain ⟨j, e1, e2⟩ := Option.bind_eq_some_iff.mp h
  obtain ⟨v, e3, r3⟩ := rps_get r e2
  exact ⟨v, Option.bind_eq_some_iff.mpr ⟨j, e1, e3⟩, r3⟩
theorem atI_map {α β : Type} (f : α → β) (l : List α) (i : Int) : atI (l.map f) i = (atI l i).map f := by
  unfold atI
  rw [List.length_map]
  cases ixN l.length i with
  | none => rfl
  | some j => show (l.map f)[j]? = (l[j]?).map f; rw [List.getElem?_map]
theorem ixD_ok {K : PySem.W.Frag} : OpD K G (rIx K) ixD := by
  intro w μ H x y d v u Q ok hx hy hg q
  unfold ixD at hg
  split at hg
  · cases hy
    obtain ⟨a, vs, rfl, h1, h2⟩ := hx
    obtain ⟨z, e, r⟩ := rps_atI h2 hg
    exact .inl ⟨a, vs, _, z, rfl, rfl, SqL.of h1, e, q _ w H (.refl ok) r⟩
  · cases hy
    obtain ⟨a, vs, rfl, h1, h2⟩ := hx
    obtain ⟨z, e, r⟩ := rps_atI h2 hg
    exact .inr (.inl ⟨a, vs, _, z, rfl, rfl, SqT.of (ok.ex _ _ h1), e, q _ w H (.refl ok) r⟩)
  · cases hy
    obtain ⟨a, rfl, h1⟩ := hx
    obtain ⟨i, e, rfl⟩ := Option.map_eq_some_iff.mp hg
    exact .inl ⟨a, _, _, .int i, rfl, rfl, exl ok.ex h1, by rw [atI_map, e]; rfl, q _ w H (.refl ok) rfl⟩
  · cases hy
    obtain ⟨rfl, hl⟩ := hx
    obtain ⟨c, e, rfl⟩ := Option.map_eq_some_iff.mp hg
    exact .inr (.inr ⟨_, _, c, rfl, rfl, hl, e, q _ w H (.refl ok) ⟨rfl, sign_short c⟩⟩)
  · cases hg
theorem pd_ix {Ta Tb : DTE} (ha : PD X G E a Ta) (hb : PD X G E b Tb) (hs : PlainIx b := by exact fun _ _ => rfl) : PD X G E (.Subscript a b pos) (dOp2 ixD Ta Tb) := pd_bin (fun ta tb pa pb => pe_ix ix_seq pa pb hs) ixD_ok ha hb
/-! slices -/
abbrev DTO := DEnv → Mu → EXt → (Option Int → Mu → Prop) → Prop
structure PDo (X : Cx) (G : Gx) (E : XS) (e : Option Expr) (T : DTO) : Prop where
  ex : ∃ t, PO X e t ∧ ∀ (σ : L2.St) (ρ : DEnv) (w : Wd) (μ : Mu) (H : Hp) (EX : EXt) (Q : Option Int → Hp → Prop), Sl X.K G w σ ρ → Okk X.K G w μ H → Lk X.K G E EX w μ H → T ρ μ EX (fun d μ' => ∀ w' H', Stp X.K G w μ H w' μ' H' → Q d H') → t σ H Q
  mono : Mono T
def dNoPart : DTO := fun _ μ _ Q => Q none μ
def dPart (T : DTE) : DTO := fun ρ μ EX Q => T ρ μ EX fun d μ' => ∃ i, d = .int i ∧ Q (some i) μ'
theorem pdo_none : PDo X G E none dNoPart := ⟨⟨_, po_none, fun σ ρ w μ H EX Q sl ok lk q => q w H (.refl ok)⟩, fun _ _ _ _ _ i q => i _ _ q⟩
theorem pdo_some {T : DTE} (h : PD X G E e T) : PDo X G E (some e) (dPart T) := by
  obtain ⟨⟨t, p, r⟩, m⟩ := h
  refine ⟨⟨_, po_some p, fun σ ρ w μ H EX Q sl ok lk q => r σ ρ w μ H EX _ sl ok lk (m _ _ _ _ _ (fun d μ' q1 v w1 H1 t1 r1 => ?_) q)⟩, fun ρ μ EX Q Q' i q => m _ _ _ _ _ (fun d μ' ⟨k, e, q⟩ => ⟨k, e, i _ _ q⟩) q⟩
  obtain ⟨i, rfl, q1⟩ := q1
  exact ⟨i, r1, q1 w1 H1 t1⟩
def cutD {α : Type} (xs : List α) (lo hi : Option Int) : List α := (xs.drop (HT.sIx xs.length 0 lo)).take (HT.sIx xs.length xs.length hi - HT.sIx xs.length 0 lo)
def slD : D → Option Int → Option Int → Option D
  | .lst xs, lo, hi => some (.lst (cutD xs lo hi))
  | .scr ns, lo, hi => some (.lst ((cutD ns lo hi).map .int))
  | .tup xs, lo, hi => some (.tup (cutD xs lo hi))
  | .str z, lo, hi => some (.str (Txt.slice z lo hi))
  | _, _, _ => none
def rSlD (K : PySem.W.Frag) : V → Option Int → Option Int → Hp → VK → Prop := fun x lo hi H Q => rSlL K x lo hi H Q ∨ rSlA K x lo hi H Q ∨ C8.rSlX x lo hi H Q
theorem slr_all : SlR X (rSlD X.K) := SlR.or sl_list (SlR.or sl_tupA C8.sl_txt)
theorem rps_cut {K : PySem.W.Frag} {w : Wd} {ds : List D} {vs : List V} (r : Rps K G w ds vs) (lo hi : Option Int) : Rps K G w (cutD ds lo hi) (cutV vs lo hi) := by
  unfold cutD cutV
  rw [rps_len r]
  exact rps_take _ (rps_drop _ r)
theorem cut_all {α : Type} {xs : List α} {lo hi : Option Int} (h : HT.sIx xs.length 0 lo = 0 ∧ HT.sIx xs.length xs.length hi = xs.length) : cutD xs lo hi = xs := by
  unfold cutD
  rw [h.1, h.2, List.drop_zero, Nat.sub_zero, List.take_length]
theorem slice_short {z : Str} {lo hi : Option Int} (h : z.length ≤ sizeLine) : (Txt.slice z lo hi).length ≤ sizeLine := by
  rw [← C8.cutS_slice]
  unfold cutS
  show (List.toArray _).size ≤ _
  rw [List.size_toArray, List.length_take, List.length_drop, Array.length_toList]
  have : z.cps.size = z.length := rfl
  omega
def dSl (T : DTE) (L U : DTO) : DTE := fun ρ μ EX Q => T ρ μ EX fun x μ1 => L ρ μ1 EX fun lo μ2 => U ρ μ2 EX fun hi μ3 => ∃ d, slD (drf μ3 x) lo hi = some d ∧ Q d μ3
theorem pd_slice {elo ehi : Option Expr} {T : DTE} {L U : DTO} {p2 : Pos} (h : PD X G E e T) (hl : PDo X G E elo L) (hu : PDo X G E ehi U) : PD X G E (.Subscript e (.Slice elo ehi none p2) pos) (dSl T L U) := by
  obtain ⟨⟨t, pt, r⟩, m⟩ := h
  obtain ⟨⟨tl, pl, rl⟩, ml⟩ := hl
  obtain ⟨⟨tu, pu, ru⟩, mu⟩ := hu
  refine ⟨⟨_, pe_slice slr_all pt pl pu, fun σ ρ w μ H EX Q sl ok lk q => ?_⟩, fun ρ μ EX Q Q' i q => m _ _ _ _ _ (fun x μ1 => ml _ _ _ _ _ fun lo μ2 => mu _ _ _ _ _ fun hi μ3 ⟨d, h, q⟩ => ⟨d, h, i _ _ q⟩) q⟩
  refine r σ ρ w μ H EX _ sl ok lk (m _ _ _ _ _ (fun x μ1 q1 v w1 H1 t1 r1 => ?_) q)
  refine rl σ ρ w1 μ1 H1 EX _ (sl.le t1.le) t1.ok (lk.step t1) (ml _ _ _ _ _ (fun lo μ2 q2 w2 H2 t2 => ?_) q1)
  have t12 := t1.trans t2
  refine ru σ ρ w2 μ2 H2 EX _ (sl.le t12.le) t2.ok (lk.step t12) (mu _ _ _ _ _ (fun hi μ3 q3 w3 H3 t3 => ?_) q2)
  obtain ⟨d, hd, q3⟩ := q3
  have rr := t3.ok.rt (rp_ex (t2.trans t3).le r1)
  have t123 := t12.trans t3
  generalize drf μ3 x = y at hd rr
  cases y with
  | lst xs =>
    cases hd
    obtain ⟨a, vs, rfl, h1, h2⟩ := rr
    refine .inl ⟨a, vs, rfl, SqL.of h1, fun p n => ?_⟩
    have t := Stp.new (o := .lst (cutV vs lo hi)) t3.ok n
    exact q3 _ _ _ (t123.trans t) ⟨p, _, rfl, upd_same, rps_ex t.le (rps_cut h2 lo hi)⟩
  | scr ns =>
    cases hd
    obtain ⟨a, rfl, h1⟩ := rr
    refine .inl ⟨a, _, rfl, exl t3.ok.ex h1, fun p n => ?_⟩
    have t := Stp.new (o := .lst (cutV (ns.map V.int) lo hi)) t3.ok n
    refine q3 _ _ _ (t123.trans t) ⟨p, _, rfl, upd_same, ?_⟩
    have e : (cutD ns lo hi).map D.int = cutD (ns.map D.int) lo hi := by
      unfold cutD
      rw [List.length_map, List.map_take, List.map_drop]
    rw [e]
    exact rps_cut (rps_ints ns) lo hi
  | tup xs =>
    cases hd
    obtain ⟨a, vs, rfl, h1, h2⟩ := id rr
    refine .inr (.inl ⟨a, vs, rfl, SqT.of (t3.ok.ex _ _ h1), fun c => ?_, fun c p n => ?_⟩)
    · rw [rps_len h2] at c
      exact q3 _ w3 H3 t123 (by rw [cut_all c]; exact rr)
    · have t := Stp.new (o := .tup (cutV vs lo hi)) t3.ok n
      exact q3 _ _ _ (t123.trans t) ⟨p, _, rfl, upd_same, rps_ex t.le (rps_cut h2 lo hi)⟩
  | str z =>
    cases hd
    obtain ⟨rfl, hl⟩ := rr
    exact .inr (.inr ⟨z, rfl, hl, q3 _ w3 H3 t123 ⟨rfl, slice_short hl⟩⟩)
  | _ => cases hd
/-- xs[::-1] of a list -/
def revD : D → Option D
  | .lst xs => some (.lst xs.reverse)
  | _ => none
theorem pd_rev {T : DTE} {k : Nat} {p1 p2 p3 : Pos} (h : PD X G E e T) : PD X G E (.Subscript e (.Slice none none (some (.UnaryOp .USub (.Constant (.int 1) k p1) p2)) p3) pos) (dOp1 revD T) := by
  obtain ⟨⟨t, pt, r⟩, m⟩ := h
  refine ⟨⟨_, pe_revL pt, fun σ ρ w μ H EX Q sl ok lk q => r σ ρ w μ H EX _ sl ok lk (m _ _ _ _ _ (fun x μ1 q1 v w1 H1 t1 r1 => ?_) q)⟩, fun ρ μ EX Q Q' i q => m _ _ _ _ _ (fun x μ1 ⟨d, h, q⟩ => ⟨d, h, i _ _ q⟩) q⟩
  obtain ⟨d, hd, q1⟩ := q1
  have rr := t1.ok.rt r1
  unfold revD at hd
  split at hd
  · rename_i xs he
    cases hd
    rw [he] at rr
    obtain ⟨a, vs, rfl, h1, h2⟩ := rr
    refine ⟨a, vs, rfl, SqL.of h1, fun p n => ?_⟩
    have t := Stp.new (o := .lst vs.reverse) t1.ok n
    exact q1 _ _ _ (t1.trans t) ⟨p, _, rfl, upd_same, rps_ex t.le (rps_rev h2)⟩
  · cases hd
/-! built-ins -/
theorem rts1 {K : PySem.W.Frag} {w : Wd} {H : Hp} {d : D} {vs : List V} (h : Rts K G w H [d] vs) : ∃ v, vs = [v] ∧ Rt K G w H d v := by
  obtain ⟨v, u, rfl, h1, h2⟩ := h
  obtain rfl : u = [] := h2
  exact ⟨v, rfl, h1⟩
theorem rts2 {K : PySem.W.Frag} {w : Wd} {H : Hp} {d d2 : D} {vs : List V} (h : Rts K G w H [d, d2] vs) : ∃ v u, vs = [v, u] ∧ Rt K G w H d v ∧ Rt K G w H d2 u := by
  obtain ⟨v, u, rfl, h1, h2⟩ := h
  obtain ⟨u, rfl, h3⟩ := rts1 h2
  exact ⟨v, u, rfl, h1, h3⟩
def lenD : List D → Option D
  | [.lst xs] => some (.int xs.length)
  | [.tup xs] => some (.int xs.length)
  | [.scr xs] => some (.int xs.length)
  | [.str z] => some (.int z.length)
  | _ => none
theorem lenD_ok {K : PySem.W.Frag} : CrD K G (fun xs H Q => ∃ x n, xs = [x] ∧ LenV K x H n ∧ Q (.int n) H) lenD := by
  intro w μ H xs d vs Q ok r hg q
  unfold lenD at hg
  split at hg
  · cases hg
    obtain ⟨v, rfl, a, us, rfl, h1, h2⟩ := rts1 r
    exact ⟨_, us.length, rfl, .inl ⟨us, SqL.of h1, rfl⟩, q _ w H (.refl ok) (by rw [rps_len h2]; rfl)⟩
  · cases hg
    obtain ⟨v, rfl, a, us, rfl, h1, h2⟩ := rts1 r
    exact ⟨_, us.length, rfl, .inr ⟨us, SqT.of (ok.ex _ _ h1), rfl⟩, q _ w H (.refl ok) (by rw [rps_len h2]; rfl)⟩
  · cases hg
    obtain ⟨v, rfl, a, rfl, h1⟩ := rts1 r
    exact ⟨_, _, rfl, .inl ⟨_, exl ok.ex h1, rfl⟩, q _ w H (.refl ok) (by rw [List.length_map]; rfl)⟩
  · cases hg
    obtain ⟨v, rfl, rfl, h1⟩ := rts1 r
    exact ⟨_, _, rfl, ⟨h1, rfl⟩, q _ w H (.refl ok) rfl⟩
  · cases hg
def absD : List D → Option D
  | [.int i] => some (.int (if i < 0 then -i else i))
  | _ => none
theorem absD_ok {K : PySem.W.Frag} : CrD K G (fun xs H Q => ∃ i, xs = [.int i] ∧ Q (.int (if i < 0 then -i else i)) H) absD := by
  intro w μ H xs d vs Q ok r hg q
  unfold absD at hg
  split at hg
  · cases hg
    obtain ⟨v, rfl, rfl⟩ := rts1 r
    exact ⟨_, rfl, q _ w H (.refl ok) rfl⟩
  · cases hg
def intD : List D → Option D
  | [.int i] => some (.int i)
  | [.bl k] => some (.int (if k then 1 else 0))
  | _ => none
theorem intD_ok {K : PySem.W.Frag} : CrD K G (fun xs H Q => (∃ i, xs = [.int i] ∧ Q (.int i) H) ∨ ∃ k, xs = [.bl k] ∧ Q (.int (if k then 1 else 0)) H) intD := by
  intro w μ H xs d vs Q ok r hg q
  unfold intD at hg
  split at hg
  · cases hg
    obtain ⟨v, rfl, rfl⟩ := rts1 r
    exact .inl ⟨_, rfl, q _ w H (.refl ok) rfl⟩
  · cases hg
    obtain ⟨v, rfl, rfl⟩ := rts1 r
    exact .inr ⟨_, rfl, q _ w H (.refl ok) rfl⟩
  · cases hg
def bls : List D → Option (List Bool)
  | [] => some []
  | .bl b :: r => (bls r).map fun t => b :: t
  | _ => none
theorem bls_rps {K : PySem.W.Frag} {w : Wd} : ∀ {ds : List D} {vs : List V} {bs : List Bool}, Rps K G w ds vs → bls ds = some bs → vs = bs.map V.bl
  | [], _, _, h, q => by
    cases q
    obtain rfl : _ = [] := h
    rfl
  | .bl b :: r, _, _, h, q => by
    obtain ⟨v, u, rfl, h1, h2⟩ := h
    have q : (bls r).map (fun t => b :: t) = some _ := q
    obtain ⟨t, e, rfl⟩ := Option.map_eq_some_iff.mp q
    obtain rfl : v = _ := h1
    rw [bls_rps h2 e]
    rfl
  | .non :: _, _, _, _, q => by cases q
  | .int _ :: _, _, _, _, q => by cases q
  | .str _ :: _, _, _, _, q => by cases q
  | .lst _ :: _, _, _, _, q => by cases q
  | .tup _ :: _, _, _, _, q => by cases q
  | .scr _ :: _, _, _, _, q => by cases q
  | .dct _ :: _, _, _, _, q => by cases q
  | .obj _ _ :: _, _, _, _, q => by cases q
  | .cel _ :: _, _, _, _, q => by cases q
  | .exc _ _ _ _ :: _, _, _, _, q => by cases q
  | .fn _ :: _, _, _, _, q => by cases q
  | .val _ :: _, _, _, _, q => by cases q
def allD : List D → Option D
  | [.lst xs] => (bls xs).map fun bs => .bl (bs.all id)
  | _ => none
def anyD : List D → Option D
  | [.lst xs] => (bls xs).map fun bs => .bl (bs.any id)
  | _ => none
theorem allD_ok {K : PySem.W.Frag} : CrD K G (rAll K) allD := by
  intro w μ H xs d vs Q ok r hg q
  unfold allD at hg
  split at hg
  · obtain ⟨bs, e, rfl⟩ := Option.map_eq_some_iff.mp hg
    obtain ⟨v, rfl, a, us, rfl, h1, h2⟩ := rts1 r
    exact ⟨a, bs, rfl, SqL.of (by rw [← bls_rps h2 e]; exact h1), q _ w H (.refl ok) rfl⟩
  · cases hg
theorem anyD_ok {K : PySem.W.Frag} : CrD K G (rAny K) anyD := by
  intro w μ H xs d vs Q ok r hg q
  unfold anyD at hg
  split at hg
  · obtain ⟨bs, e, rfl⟩ := Option.map_eq_some_iff.mp hg
    obtain ⟨v, rfl, a, us, rfl, h1, h2⟩ := rts1 r
    exact ⟨a, bs, rfl, SqL.of (by rw [← bls_rps h2 e]; exact h1), q _ w H (.refl ok) rfl⟩
  · cases hg
def tupleD : List D → Option D
  | [.lst xs] => some (.tup xs)
  | [.scr xs] => some (.tup (xs.map .int))
  | [.tup xs] => some (.tup xs)
  | _ => none
theorem tupleD_ok {K : PySem.W.Frag} : CrD K G (fun xs H Q => ∃ p ys, xs = [.ref p] ∧ ((SqL K H p ys ∧ ∀ l, H l = none → Q (.ref l) (upd H l (.tup ys))) ∨ (SqT K H p ys ∧ Q (.ref p) H))) tupleD := by
  intro w μ H xs d vs Q ok r hg q
  unfold tupleD at hg
  split at hg
  · cases hg
    obtain ⟨v, rfl, a, us, rfl, h1, h2⟩ := rts1 r
    refine ⟨a, us, rfl, .inl ⟨SqL.of h1, fun p n => ?_⟩⟩
    have t := Stp.new (o := .tup us) ok n
    exact q _ _ _ t ⟨p, _, rfl, upd_same, rps_ex t.le h2⟩
  · rename_i ns
    cases hg
    obtain ⟨v, rfl, a, rfl, h1⟩ := rts1 r
    refine ⟨a, _, rfl, .inl ⟨exl ok.ex h1, fun p n => ?_⟩⟩
    have t := Stp.new (o := .tup (ns.map V.int)) ok n
    exact q _ _ _ t ⟨p, _, rfl, upd_same, rps_ints _⟩
  · cases hg
    obtain ⟨v, rfl, h⟩ := rts1 r
    obtain ⟨a, us, rfl, h1, h2⟩ := id h
    exact ⟨a, us, rfl, .inr ⟨SqT.of (ok.ex _ _ h1), q _ w H (.refl ok) h⟩⟩
  · cases hg
def listD : List D → Option D
  | [.lst xs] => some (.lst xs)
  | [.scr xs] => some (.lst (xs.map .int))
  | [.tup xs] => some (.lst xs)
  | _ => none
theorem listD_ok {K : PySem.W.Frag} : CrD K G (fun xs H Q => ∃ p ys, xs = [.ref p] ∧ (SqL K H p ys ∨ SqT K H p ys) ∧ ∀ l, H l = none → Q (.ref l) (upd H l (.lst ys))) listD := by
  intro w μ H xs d vs Q ok r hg q
  unfold listD at hg
  split at hg
  · cases hg
    obtain ⟨v, rfl, a, us, rfl, h1, h2⟩ := rts1 r
    refine ⟨a, us, rfl, .inl (SqL.of h1), fun p n => ?_⟩
    have t := Stp.new (o := .lst us) ok n
    exact q _ _ _ t ⟨p, _, rfl, upd_same, rps_ex t.le h2⟩
  · rename_i ns
    cases hg
    obtain ⟨v, rfl, a, rfl, h1⟩ := rts1 r
    refine ⟨a, _, rfl, .inl (exl ok.ex h1), fun p n => ?_⟩
    have t := Stp.new (o := .lst (ns.map V.int)) ok n
    exact q _ _ _ t ⟨p, _, rfl, upd_same, rps_ints _⟩
  · cases hg
    obtain ⟨v, rfl, a, us, rfl, h1, h2⟩ := rts1 r
    refine ⟨a, us, rfl, .inr (SqT.of (ok.ex _ _ h1)), fun p n => ?_⟩
    have t := Stp.new (o := .lst us) ok n
    exact q _ _ _ t ⟨p, _, rfl, upd_same, rps_ex t.le h2⟩
  · cases hg
/-- repr of a list or a tuple -/
def shownD (d : D) : Option D := match toP d with
  | some p => if isDisplay p = true ∧ p.showable = true ∧ p.hasDict = false ∧ p.depth ≤ 60 ∧ p.shown.length ≤ sizeLine then some (.str p.shown) else none
  | none => none
def reprD : List D → Option D
  | [d] => shownD d
  | _ => none
theorem reprD_ok {K : PySem.W.Frag} : CrD K G (My.rRepr K) reprD := by
  intro w μ H xs d vs Q ok r hg q
  unfold reprD at hg
  split at hg
  · obtain ⟨v, rfl, h⟩ := rts1 r
    unfold shownD at hg
    split at hg
    · rename_i p hp
      split at hg
      · rename_i c
        cases hg
        exact ⟨v, p, rfl, dp_rt ok.ex h hp, c.1, c.2.1, c.2.2.1, c.2.2.2.1, c.2.2.2.2, q _ w H (.refl ok) ⟨rfl, c.2.2.2.2⟩⟩
      · cases hg
    · cases hg
  · cases hg
/-! text.join(list of texts) -/
def txts : List D → Option (List Str)
  | [] => some []
  | .str z :: r => (txts r).map fun t => z :: t
  | _ => none
theorem strs_rps {K : PySem.W.Frag} {w : Wd} : ∀ {ds : List D} {vs : List V} {zs : List Str}, Rps K G w ds vs → txts ds = some zs → vs = zs.map V.str
  | [], _, _, h, q => by
    cases q
    obtain rfl : _ = [] := h
    rfl
  | .str b :: r, _, _, h, q => by
    obtain ⟨v, u, rfl, h1, h2⟩ := h
    have q : (txts r).map (fun t => b :: t) = some _ := q
    obtain ⟨t, e, rfl⟩ := Option.map_eq_some_iff.mp q
    obtain ⟨rfl, _⟩ := h1
    rw [strs_rps h2 e]
    rfl
  | .non :: _, _, _, _, q => by cases q
  | .int _ :: _, _, _, _, q => by cases q
  | .bl _ :: _, _, _, _, q => by cases q
  | .lst _ :: _, _, _, _, q => by cases q
  | .tup _ :: _, _, _, _, q => by cases q
  | .scr _ :: _, _, _, _, q => by cases q
  | .dct _ :: _, _, _, _, q => by cases q
  | .obj _ _ :: _, _, _, _, q => by cases q
  | .cel _ :: _, _, _, _, q => by cases q
  | .exc _ _ _ _ :: _, _, _, _, q => by cases q
  | .fn _ :: _, _, _, _, q => by cases q
  | .val _ :: _, _, _, _, q => by cases q
def joinD : D → D → Option D
  | .str a, .lst xs => match txts xs with
    | some ys => if (ys.map (·.length)).sum + ys.length * a.length ≤ 16777216 ∧ (Txt.join a ys).length ≤ sizeLine then some (.str (Txt.join a ys)) else none
    | none => none
  | .str a, .tup xs => match txts xs with
    | some ys => if (ys.map (·.length)).sum + ys.length * a.length ≤ 16777216 ∧ (Txt.join a ys).length ≤ sizeLine then some (.str (Txt.join a ys)) else none
    | none => none
  | _, _ => none
/-- e.join(f) -/
def dJoin (Ta Tb : DTE) : DTE := fun ρ μ EX Q => Ta ρ μ EX fun x μ1 => ∃ z, x = .str z ∧ dOp2 joinD (dC (.str z)) Tb ρ μ1 EX Q
theorem pd_join {Ta Tb : DTE} {cpos : Pos} (ha : PD X G E o Ta) (hb : PD X G E e Tb) (mk : ∀ ta tb, PE X o ta → PE X e tb → PE X (.Call (.Attribute o "join" apos) [e] [] cpos) (tM1 (fun x xs H Q => ∃ a p, ∃ ys : List Str, x = .str a ∧ xs = [.ref p] ∧ (SqL X.K H p (ys.map V.str) ∨ SqT X.K H p (ys.map V.str)) ∧ (ys.map (·.length)).sum + ys.length * a.length ≤ 16777216 ∧ Q (.str (Txt.join a ys)) H) ta tb)) :
    PD X G E (.Call (.Attribute o "join" apos) [e] [] cpos) (dJoin Ta Tb) := by
  obtain ⟨⟨ta, pa, ra⟩, ma⟩ := ha
  obtain ⟨⟨tb, pb, rb⟩, mb⟩ := hb
  refine ⟨⟨_, mk _ _ pa pb, fun σ ρ w μ H EX Q sl ok lk q => ?_⟩, fun ρ μ EX Q Q' i q => ma _ _ _ _ _ (fun x μ1 ⟨z, e, h⟩ => ⟨z, e, mb _ _ _ _ _ (fun y μ2 ⟨d, hg, q⟩ => ⟨d, hg, i _ _ q⟩) h⟩) q⟩
  refine ra σ ρ w μ H EX _ sl ok lk (ma _ _ _ _ _ (fun x μ1 q1 v w1 H1 t1 r1 => ?_) q)
  obtain ⟨z, rfl, q1⟩ := q1
  obtain ⟨rfl, _⟩ := r1
  refine ⟨⟨z, rfl⟩, rb σ ρ w1 μ1 H1 EX _ (sl.le t1.le) t1.ok (lk.step t1) (mb _ _ _ _ _ (fun y μ2 q2 u w2 H2 t2 r2 => ?_) q1)⟩
  obtain ⟨d, hg, q2⟩ := q2
  have rr := t2.ok.rt r2
  have hg : joinD (.str z) (drf μ2 y) = some d := hg
  unfold joinD at hg
  split at hg
  · rename_i xs ez he
    cases ez
    split at hg
    · rename_i ys hys
      split at hg
      · rename_i c
        cases hg
        rw [he] at rr
        obtain ⟨p, us, rfl, h1, h2⟩ := rr
        exact ⟨z, p, ys, rfl, rfl, .inl (SqL.of (by rw [← strs_rps h2 hys]; exact h1)), c.1, q2 _ w2 H2 (t1.trans t2) ⟨rfl, c.2⟩⟩
      · cases hg
    · cases hg
  · rename_i xs ez he
    cases ez
    split at hg
    · rename_i ys hys
      split at hg
      · rename_i c
        cases hg
        rw [he] at rr
        obtain ⟨p, us, rfl, h1, h2⟩ := rr
        exact ⟨z, p, ys, rfl, rfl, .inr (by rw [← strs_rps h2 hys]; exact SqT.of (t2.ok.ex _ _ h1)), c.1, q2 _ w2 H2 (t1.trans t2) ⟨rfl, c.2⟩⟩
      · cases hg
    · cases hg
  · cases hg
end
end Dl
set_option Elab.async false
set_option linter.all false
set_option autoImplicit false
set_option maxRecDepth 100000
set_option maxHeartbeats 2000000
/-! B9: lists that change; stores -/
namespace Dl
open PySem PySem.Spec PyProof.Rows L2 Evl
section
variable {X : Cx} {G : Gx} {E : XS} {e a b c o : Expr} {es : List Expr} {pos apos p : Pos}
/-! methods of a list that is a cell -/
/-- a method's rule on the list's items: what it gives, what the list holds then -/
def LmR (r : V → List V → Hp → VK → Prop) (g : List D → List D → Option (D × List D)) (K : PySem.W.Frag) (G : Gx) : Prop := ∀ (w : Wd) (xs ds : List D) (us vs : List V) (res : D) (xs' : List D), Rps K G w xs us → Rps K G w ds vs → g xs ds = some (res, xs') →
  ∃ us' rv, Rps K G w xs' us' ∧ Rp K G w res rv ∧ ∀ (H : Hp) (p : Addr) (Q : VK), H p = some (.lst us) → Q rv (upd H p (.lst us')) → r (.ref p) vs H Q
def dLm (g : List D → List D → Option (D × List D)) (To : DTE) (Ta : DTA) : DTE := fun ρ μ EX Q => To ρ μ EX fun x μ1 => ∃ n xs, x = .cel n ∧ μ1[n]? = some (some (.lst xs)) ∧ Ta ρ μ1 EX fun ds μ2 => ∃ ys res ys', μ2[n]? = some (some (.lst ys)) ∧ g ys ds = some (res, ys') ∧ Q res (μ2.set n (some (.lst ys')))
theorem mono_lm {g : List D → List D → Option (D × List D)} {To : DTE} {Ta : DTA} (mo : Mono To) (ma : Mono Ta) : Mono (dLm g To Ta) := fun ρ μ EX Q Q' i q =>
  mo _ _ _ _ _ (fun x μ1 ⟨n, xs, e1, e2, h⟩ => ⟨n, xs, e1, e2, ma _ _ _ _ _ (fun ds μ2 ⟨ys, res, ys', h1, h2, h3⟩ => ⟨ys, res, ys', h1, h2, i _ _ h3⟩) h⟩) q
theorem run_lm {r : V → List V → Hp → VK → Prop} {g : List D → List D → Option (D × List D)} {To : DTE} {Ta : DTA} {to : TE} {ta : TA} (hr : LmR r g X.K G) (ro : RunE X.K G E to To) (mo : Mono To) (ra : RunA X.K G E ta Ta) (ma : Mono Ta) :
    RunE X.K G E (tBM X.K "list" r to ta) (dLm g To Ta) := fun σ ρ w μ H EX Q sl ok lk q => by
  refine ro σ ρ w μ H EX _ sl ok lk (mo _ _ _ _ _ (fun x μ1 q1 v w1 H1 t1 r1 => ?_) q)
  obtain ⟨n, xs, rfl, hn, q1⟩ := q1
  obtain ⟨p, al, rfl⟩ := r1
  obtain ⟨p', al', hs, us0, h0, _⟩ := t1.ok.cl n _ hn
  rw [al] at al'
  cases al'
  refine ⟨.inl ⟨rfl, _, .inl (.inl h0)⟩, ra σ ρ w1 μ1 H1 EX _ (sl.le t1.le) t1.ok (lk.step t1) (ma _ _ _ _ _ (fun ds μ2 q2 vs w2 H2 t2 r2 => ?_) q1)⟩
  obtain ⟨ys, res, ys', hn2, hg, q2⟩ := q2
  have al2 := t2.le.l _ _ al
  obtain ⟨p2, al3, hs2, us, h2, ru⟩ := t2.ok.cl n _ hn2
  rw [al2] at al3
  cases al3
  obtain ⟨us', rv, ru', rr, hq⟩ := hr w2 ys ds us vs res ys' ru r2 hg
  have t3 := Stp.put (o := .lst us') (y := .lst ys') t2.ok hn2 al2 ⟨us', upd_same, ru'⟩
  exact hq H2 p _ h2 (q2 rv w2 _ ((t1.trans t2).trans t3) rr)
theorem pd_lm {r : V → List V → Hp → VK → Prop} {g : List D → List D → Option (D × List D)} {To : DTE} {Ta : DTA} {name : Str} {id : String} (hr : LmR r g X.K G) (slot : Slot "list" name id) (hty : typeOf (.builtin id) = pure (.type "method_descriptor")) (hm : MtR X id r) (ho : PD X G E o To) (ha : PDa X G E (e :: es) Ta)
    (mk : ∀ to ta, PE X o to → PA X (e :: es) ta → PE X (.Call (.Attribute o name apos) (e :: es) [] pos) (tBM X.K "list" r to ta)) : PD X G E (.Call (.Attribute o name apos) (e :: es) [] pos) (dLm g To Ta) := by
  obtain ⟨⟨to, po, ro⟩, mo⟩ := ho
  obtain ⟨⟨ta, pa, ra⟩, ma⟩ := ha
  exact ⟨⟨_, mk _ _ po pa, run_lm hr ro mo ra ma⟩, mono_lm mo ma⟩
def appendG (xs ds : List D) : Option (D × List D) := match ds with
  | [d] => if xs.length < sizeLine then some (.non, xs ++ [d]) else none
  | _ => none
theorem appendG_ok {K : PySem.W.Frag} : LmR rAppend appendG K G := by
  intro w xs ds us vs res xs' ru rv hg
  unfold appendG at hg
  split at hg
  · split at hg
    · rename_i d hl
      cases hg
      obtain ⟨v, rfl, r1⟩ := rps1 rv
      exact ⟨us ++ [v], .non, rps_app ru (rps_one r1), rfl, fun H p Q h q => ⟨p, us, v, rfl, rfl, h, by rw [rps_len ru]; exact hl, q⟩⟩
    · cases hg
  · cases hg
/-- o.append(e), a statement -/
theorem pd_append {To : DTE} {Ta : DTE} (ho : PD X G E o To) (ha : PD X G E e Ta) (hs : starEach [e] X.env = [(false, eval e X.env)] := by rfl)
    (mk : ∀ to ta, PE X o to → PA X [e] ta → PE X (.Call (.Attribute o "append" apos) [e] [] pos) (tBM X.K "list" rAppend to ta) := by exact fun to ta po pa => My.peBm _ PySem.F.plainAttrs_list PySem.F.slot_list_append PySem.F.type_list_append mt_append po pa) : PD X G E (.Call (.Attribute o "append" apos) [e] [] pos) (dLm appendG To (dCons Ta dNil)) := by
  obtain ⟨⟨to, po, ro⟩, mo⟩ := ho
  obtain ⟨⟨ta, pa, ra⟩, ma⟩ := pda_cons ha (pda_nil (X := X) (G := G) (E := E)) hs
  exact ⟨⟨_, mk _ _ po pa, run_lm appendG_ok ro mo ra ma⟩, mono_lm mo ma⟩
/-- l[i] = e, l a cell -/
def dSetI (T To Ti : DTE) : DTS := fun A ρ μ => T ρ μ A.ex fun d μ1 => To ρ μ1 A.ex fun x μ2 => Ti ρ μ2 A.ex fun i μ3 => ∃ n xs k j, x = .cel n ∧ i = .int k ∧ μ3[n]? = some (some (.lst xs)) ∧ ixN xs.length k = some j ∧ A.nx ρ (μ3.set n (some (.lst (xs.set j d))))
theorem psd_setI {i : Expr} {T To Ti : DTE} {p2 : Pos} (h : PD X G E e T) (ho : PD X G E o To) (hi : PD X G E i Ti)
    (mk : ∀ te to ti, PE X e te → PE X o to → PE X i ti → PS X (.Assign [.Subscript o i p2] e pos) (tAsg te (gSub to ti rSetL))) : PSD X G E (.Assign [.Subscript o i p2] e pos) (dSetI T To Ti) := by
  obtain ⟨⟨t, pt, r⟩, m⟩ := h
  obtain ⟨⟨to, po, ro⟩, mo⟩ := ho
  obtain ⟨⟨ti, pi, ri⟩, mi⟩ := hi
  refine ⟨⟨_, mk _ _ _ pt po pi, fun σ ρ w μ H D A sl ok lk l q => r σ ρ w μ H A.ex _ sl ok lk (m _ _ _ _ _ (fun d μ1 q1 v w1 H1 t1 r1 => ?_) q)⟩, fun A B ρ μ l q => ?_⟩
  · refine ro σ ρ w1 μ1 H1 A.ex _ (sl.le t1.le) t1.ok (lk.step t1) (mo _ _ _ _ _ (fun x μ2 q2 u w2 H2 t2 r2 => ?_) q1)
    have t12 := t1.trans t2
    refine ri σ ρ w2 μ2 H2 A.ex _ (sl.le t12.le) t2.ok (lk.step t12) (mi _ _ _ _ _ (fun y μ3 q3 u3 w3 H3 t3 r3 => ?_) q2)
    obtain ⟨n, xs, k, j, rfl, rfl, hn, hj, q3⟩ := q3
    obtain ⟨p', al, rfl⟩ := r2
    have al3 := t3.le.l _ _ al
    obtain ⟨p3, al4, hs, us, h3, ru⟩ := t3.ok.cl n _ hn
    rw [al3] at al4
    cases al4
    obtain rfl : u3 = _ := r3
    have t4 := Stp.put (o := .lst (us.set j v)) (y := .lst (xs.set j d)) t3.ok hn al3 ⟨_, upd_same, rps_set j ru (rp_ex (t2.trans t3).le r1)⟩
    have t := (t12.trans t3).trans t4
    exact ⟨p', us, k, j, rfl, rfl, h3, by rw [rps_len ru]; exact hj, l.nx _ _ _ _ _ t (sl.le t.le) q3⟩
  · unfold dSetI at q ⊢
    rw [← l.ex]
    exact m _ _ _ _ _ (fun d μ1 => mo _ _ _ _ _ fun x μ2 => mi _ _ _ _ _ fun y μ3 ⟨n, xs, k, j, h1, h2, h3, h4, q⟩ => ⟨n, xs, k, j, h1, h2, h3, h4, l.nx _ _ q⟩) q
/-! sorted, by the order of data -/
def sortedP (ps : List PyData) : Bool := (ps.all fun p => ps.all fun q => PySem.W.alike p q) && (ps.all (fun p => match p with | .tuple (_ :: _) => true | _ => false) || ps.all (fun p => match p with | .none => false | .tuple _ => false | _ => true)) && ps.all (fun p => decide (p.depth ≤ 64))
/-- the items' own data, sorted -/
def leP (x y : D) : Bool := match toP x, toP y with
  | some p, some q => PySem.W.dataLe false (fun z : PyData => z) p q
  | _, _ => true
def sortedD : List D → Option D
  | [.lst xs] => match toPs xs with
    | some ps => if sortedP ps = true ∧ xs.length ≤ sizeLine then some (.lst (xs.mergeSort leP)) else none
    | none => none
  | _ => none
theorem eachRel {P : V → PyData → Prop} : ∀ {xs : List V} {us : List Value} {ps : List PyData}, Vals xs us → xs.length = ps.length → PySem.W.EachIs (fun (u : Value) (b : V × PyData) => RelV b.1 u) us (xs.zip ps)
  | _, _, [], .nil, _ => .nil
  | _, _, p :: ps, .cons r t, h => .cons r (eachRel (P := P) t (by simpa using h))
  | _, _, [], .cons _ _, h => by cases h
theorem each_of_dp {K : PySem.W.Frag} {H : Hp} {s : Shared} {pins : List (Addr × Obj)} {σ : L2.St} (I : Inv X pins σ H s) (hK : X.K = K) : ∀ {xs : List V} {us : List Value} {ps : List PyData}, Vals xs us → DpAll K H xs ps → PySem.W.EachIs (fun (u : Value) (b : V × PyData) => ∃ as, Reads s.heap u b.2 as) us (xs.zip ps)
  | _, _, _, .nil, .nil => .nil
  | _, _, _, .cons r t, .cons h g => .cons (Dp.reads I _ _ _ (by rw [hK]; exact h) r) (each_of_dp I hK t g)
theorem each_vals : ∀ {us : List Value} {bs : List (V × PyData)}, PySem.W.EachIs (fun (u : Value) (b : V × PyData) => RelV b.1 u) us bs → Vals (bs.map (·.1)) us
  | _, _, .nil => .nil
  | _, _, .cons r t => .cons r (each_vals t)
theorem zip_snd {α β : Type} : ∀ {xs : List α} {ps : List β}, xs.length = ps.length → (xs.zip ps).map (·.2) = ps
  | [], [], _ => rfl
  | x :: xs, p :: ps, h => by rw [List.zip_cons_cons, List.map_cons, zip_snd (by simpa using h)]
  | [], _ :: _, h => by cases h
  | _ :: _, [], h => by cases h
theorem dpAll_len2 {K : PySem.W.Frag} {H : Hp} : ∀ {xs : List V} {ps : List PyData}, DpAll K H xs ps → xs.length = ps.length
  | _, _, .nil => rfl
  | _, _, .cons _ t => by simp [dpAll_len2 t]
def rSortA (K : PySem.W.Frag) : List V → Hp → VK → Prop := fun vs H Q => ∃ (a : Addr) (xs : List V) (ps : List PyData), vs = [.ref a] ∧ SqL K H a xs ∧ DpAll K H xs ps ∧ sortedP ps = true ∧ xs.length ≤ sizeLine ∧
  ∀ p, H p = none → Q (.ref p) (upd H p (.lst (((xs.zip ps).mergeSort (PySem.W.dataLe false fun b : V × PyData => b.2)).map (·.1))))
theorem sortedP_ok {ps : List PyData} (h : sortedP ps = true) : PySem.W.AllAlike ps ∧ PySem.W.Sortable ps ∧ ∀ p ∈ ps, p.depth ≤ 64 := by
  unfold sortedP at h
  rw [Bool.and_eq_true, Bool.and_eq_true, Bool.or_eq_true] at h
  obtain ⟨⟨h1, h2⟩, h3⟩ := h
  refine ⟨fun d hd d' hd' => ?_, ?_, fun p hp => of_decide_eq_true (List.all_eq_true.mp h3 p hp)⟩
  · exact List.all_eq_true.mp (List.all_eq_true.mp h1 d hd) d' hd'
  · rcases h2 with h2 | h2
    · refine .inl fun d hd => ?_
      have := List.all_eq_true.mp h2 d hd
      split at this
      · exact ⟨_, _, rfl⟩
      · cases this
    · refine .inr fun d hd => ?_
      have := List.all_eq_true.mp h2 d hd
      split at this
      · cases this
      · cases this
      · rename_i n1 n2
        exact ⟨fun e => n1 e, fun xs e => n2 xs e⟩
theorem cr_sortA (hu : X.A.units + 70 < cLine) : CallR X (.builtin "sorted") (rSortA X.K) := by
  intro pins s σ H vs us Q I r h
  obtain ⟨a, xs, ps, rfl, hs, hd, hp, hz, q⟩ := h
  obtain ⟨its, rv, hl, _⟩ := I.list hs
  rw [Vals.ref1 r]
  obtain ⟨al, so, dp⟩ := sortedP_ok hp
  have ln := dpAll_len2 hd
  have e0 : (xs.zip ps).map (fun b : V × PyData => b.2) = ps := zip_snd ln
  refine PySem.W.sorted_data (R := fun (u : Value) (b : V × PyData) => RelV b.1 u) (enc := fun b : V × PyData => b.2) (vs := its) (bs := xs.zip ps) hl.isList (eachRel (P := fun _ _ => True) rv ln) (each_of_dp I rfl rv hd) (by rw [e0]; exact al) (by rw [e0]; exact so) (by rw [List.length_zip]; omega) (fun b hb => ?_) fun out ho eo => ?_
  · have : b.2 ∈ ps := by
      rw [← e0]
      exact List.mem_map_of_mem hb
    have := dp _ this
    omega
  · obtain ⟨ep, he'⟩ := PyProof.Rows.sortedAll_at s.heap its (List.toArray out)
    have rr := each_vals eo
    have hlen : (((xs.zip ps).mergeSort (PySem.W.dataLe false fun b : V × PyData => b.2)).map (·.1)).length ≤ sizeLine := by
      rw [List.length_map, List.length_mergeSort, List.length_zip]
      omega
    exact ⟨.ref _, upd H (s.heap.objs.size + 1) (.lst _), I.laid (t' := s.toks) (fun _ _ => PyProof.Rows.sortedAll_old) (Nat.le_succ _) ⟨hlen, out, ep, rr, he'⟩, rfl, q _ (I.hok.fresh (Nat.le_succ _))⟩
theorem each_rp {K : PySem.W.Frag} {w : Wd} : ∀ {ds : List D} {vs : List V} {ps : List PyData}, Rps K G w ds vs → toPs ds = some ps → PySem.W.EachIs (fun (b : V × PyData) (d : D) => Rp K G w d b.1 ∧ toP d = some b.2) (vs.zip ps) ds
  | [], _, _, h, q => by
    cases q
    obtain rfl : _ = [] := h
    exact .nil
  | d :: ds, _, _, h, q => by
    obtain ⟨v, r, rfl, h1, h2⟩ := h
    have q : (toP d).bind (fun p => (toPs ds).map fun ps => p :: ps) = some _ := q
    obtain ⟨p, e1, q⟩ := Option.bind_eq_some_iff.mp q
    obtain ⟨ps, e2, rfl⟩ := Option.map_eq_some_iff.mp q
    exact .cons ⟨h1, e1⟩ (each_rp h2 e2)
theorem each_rps {K : PySem.W.Frag} {w : Wd} : ∀ {bs : List (V × PyData)} {ds : List D}, PySem.W.EachIs (fun (b : V × PyData) (d : D) => Rp K G w d b.1 ∧ toP d = some b.2) bs ds → Rps K G w ds (bs.map (·.1))
  | _, _, .nil => rfl
  | _, _, .cons r t => ⟨_, _, rfl, r.1, each_rps t⟩
theorem sortedD_ok {K : PySem.W.Frag} : CrD K G (rSortA K) sortedD := by
  intro w μ H xs d vs Q ok r hg q
  unfold sortedD at hg
  split at hg
  · rename_i ys
    split at hg
    · rename_i ps hps
      split at hg
      · rename_i c
        cases hg
        obtain ⟨v, rfl, a, us, rfl, h1, h2⟩ := rts1 r
        refine ⟨a, us, ps, rfl, SqL.of h1, dps_of ok.ex h2 hps, c.1, by rw [rps_len h2]; exact c.2, fun p n => ?_⟩
        have t := Stp.new (o := .lst (((us.zip ps).mergeSort (PySem.W.dataLe false fun b : V × PyData => b.2)).map (·.1))) ok n
        refine q _ _ _ t ⟨p, _, rfl, upd_same, ?_⟩
        have e := PySem.W.sort_each (r := PySem.W.dataLe false fun b : V × PyData => b.2) (s := leP) (each_rp h2 hps) fun x hx y hy => ?_
        · exact rps_ex t.le (each_rps e)
        · have ex := (PySem.W.EachIs.zip (each_rp h2 hps) x hx).2
          have ey := (PySem.W.EachIs.zip (each_rp h2 hps) y hy).2
          unfold leP
          rw [ex, ey]
          rfl
      · cases hg
    · cases hg
  · cases hg
end
end Dl
set_option Elab.async false
set_option linter.all false
set_option autoImplicit false
set_option maxRecDepth 100000
set_option maxHeartbeats 2000000
/-! B10: isinstance, raise, try, a call of a def that a name holds -/
namespace Dl
open PySem PySem.Spec PyProof.Rows L2 Evl
section
variable {X : Cx} {G : Gx} {E : XS} {e a b c o : Expr} {es : List Expr} {pos apos p : Pos}
/-! isinstance -/
def tyN : D → Option String
  | .non => some "NoneType"
  | .bl _ => some "bool"
  | .int _ => some "int"
  | .str _ => some "str"
  | .lst _ => some "list"
  | .tup _ => some "tuple"
  | .scr _ => some "list"
  | .dct _ => some "dict"
  | _ => none
theorem ty_of {K : PySem.W.Frag} {w : Wd} {H : Hp} {d : D} {v : V} {T : String} (ex : Ex w.S H) (h : Rt K G w H d v) (e : tyN d = some T) : TyX K H v (.type T) := by
  cases d with
  | non => cases e; cases h; exact .base .non
  | bl b => cases e; cases h; exact .base (.bl b)
  | int i => cases e; cases h; exact .base (.int i)
  | str z => cases e; cases h.1; exact .base (.str z)
  | lst xs => cases e; obtain ⟨a, vs, rfl, h1, _⟩ := h; exact .base (.lst h1)
  | tup xs => cases e; obtain ⟨a, vs, rfl, h1, _⟩ := h; exact .base (.tup (ex _ _ h1))
  | scr xs => cases e; obtain ⟨a, rfl, h1⟩ := h; exact My.tyLs (exl ex h1)
  | dct kv => cases e; obtain ⟨a, ks, rfl, h1, _⟩ := h; exact .base (.dK h1)
  | _ => cases e
def tyL : List D → Option (List String)
  | [] => some []
  | .val (.ty T) :: r => (tyL r).map fun t => T :: t
  | _ => none
/-- whether a is one of the types -/
def isAny (a : String) : List String → Option Bool
  | [] => some false
  | T :: r => match kitB a T with
    | some true => some true
    | some false => isAny a r
    | none => none
def isiD : List D → Option D
  | [d, .val (.ty T)] => (tyN d).bind fun a => (kitB a T).map .bl
  | [d, .tup ts] => (tyN d).bind fun a => (tyL ts).bind fun l => (isAny a l).map .bl
  | _ => none
theorem isAny_kit {K : PySem.W.Frag} {a : String} : ∀ {l : List String} {b : Bool}, isAny a l = some b → PySem.W.kitAny K (.type a) (l.map Value.type) = some b
  | [], _, h => by cases h; rfl
  | T :: r, b, h => by
    unfold isAny at h
    show PySem.W.kitAny K (.type a) (Value.type T :: r.map Value.type) = some b
    unfold PySem.W.kitAny
    split at h
    · rename_i e
      cases h
      rw [kit_ty e]
    · rename_i e
      rw [kit_ty e]
      exact isAny_kit h
    · cases h
theorem tyL_rps {K : PySem.W.Frag} {w : Wd} : ∀ {ds : List D} {vs : List V} {l : List String}, Rps K G w ds vs → tyL ds = some l → vs = l.map V.ty
  | [], _, _, h, q => by
    cases q
    obtain rfl : _ = [] := h
    rfl
  | .val (.ty T) :: r, _, _, h, q => by
    obtain ⟨v, u, rfl, h1, h2⟩ := h
    have q : (tyL r).map (fun t => T :: t) = some _ := q
    obtain ⟨t, e, rfl⟩ := Option.map_eq_some_iff.mp q
    obtain rfl : v = _ := h1
    rw [tyL_rps h2 e]
    rfl
  | .val .non :: _, _, _, _, q => by cases q
  | .val (.bl _) :: _, _, _, _, q => by cases q
  | .val (.int _) :: _, _, _, _, q => by cases q
  | .val (.str _) :: _, _, _, _, q => by cases q
  | .val (.byt _) :: _, _, _, _, q => by cases q
  | .val (.flt _) :: _, _, _, _, q => by cases q
  | .val (.ref _) :: _, _, _, _, q => by cases q
  | .non :: _, _, _, _, q => by cases q
  | .int _ :: _, _, _, _, q => by cases q
  | .bl _ :: _, _, _, _, q => by cases q
  | .str _ :: _, _, _, _, q => by cases q
  | .lst _ :: _, _, _, _, q => by cases q
  | .tup _ :: _, _, _, _, q => by cases q
  | .scr _ :: _, _, _, _, q => by cases q
  | .dct _ :: _, _, _, _, q => by cases q
  | .obj _ _ :: _, _, _, _, q => by cases q
  | .cel _ :: _, _, _, _, q => by cases q
  | .exc _ _ _ _ :: _, _, _, _, q => by cases q
  | .fn _ :: _, _, _, _, q => by cases q
theorem paired_ty : ∀ l : List String, Paired ClsV (l.map V.ty) (l.map Value.type)
  | [] => .nil
  | T :: l => .cons (.ty T) (paired_ty l)
def rIsiA (K : PySem.W.Frag) : List V → Hp → VK → Prop := fun xs H Q => rIsi K xs H Q ∨ rIsiT K xs H Q
theorem cr_isiA : CallR X (.builtin "isinstance") (rIsiA X.K) := CallR.or call_isi call_isiT
theorem isiD_ok {K : PySem.W.Frag} : CrD K G (rIsiA K) isiD := by
  intro w μ H xs d vs Q ok r hg q
  unfold isiD at hg
  split at hg
  · rename_i x T
    obtain ⟨a, ea, hg⟩ := Option.bind_eq_some_iff.mp hg
    obtain ⟨b, eb, rfl⟩ := Option.map_eq_some_iff.mp hg
    obtain ⟨v, u, rfl, h1, h2⟩ := rts2 r
    obtain rfl : u = V.ty T := h2
    exact .inl ⟨v, .ty T, .type a, .type T, b, rfl, .ty T, ty_of ok.ex h1 ea, kit_ty eb, q _ w H (.refl ok) rfl⟩
  · rename_i x ts
    obtain ⟨a, ea, hg⟩ := Option.bind_eq_some_iff.mp hg
    obtain ⟨l, el, hg⟩ := Option.bind_eq_some_iff.mp hg
    obtain ⟨b, eb, rfl⟩ := Option.map_eq_some_iff.mp hg
    obtain ⟨v, u, rfl, h1, h2⟩ := rts2 r
    obtain ⟨tp, us, rfl, h3, h4⟩ := h2
    refine .inr ⟨v, tp, us, .type a, l.map Value.type, b, rfl, ok.ex _ _ h3, ?_, ty_of ok.ex h1 ea, isAny_kit eb, q _ w H (.refl ok) rfl⟩
    rw [tyL_rps h4 el]
    exact paired_ty l
  · cases hg
theorem _root_.L2.Room.u70 {k : Nat} {A : Around} (r : Room k A) : A.units + 70 < cLine := by have := r.un; omega
theorem _root_.L2.Room.u64 {k : Nat} {A : Around} (r : Room k A) : A.units + 64 < cLine := by have := r.un; omega
theorem _root_.L2.Room.u65 {k : Nat} {A : Around} (r : Room k A) : A.units + 65 < cLine := by have := r.un; omega
/-! what is raised -/
abbrev TkS (X : Cx) (E : XS) : Prop := Takes X fun cls d σ H => E σ cls d H
theorem pass_tk (tk : TkS X E) : My.PassX X E := fun pins σ H s e s' I c => tk e s' (XE.of_call I (fun cls d H' h => h) c)
theorem pass_s0 : My.PassX X ES0 := fun _ _ _ _ _ _ _ h => by
  obtain ⟨_, _, _, _, _, _, _, _, _, _, _, _, z⟩ := h
  exact z.elim
/-! try -/
/-- a clause: the class's name, the slot of its name, the suite's reading (by the error's place and its dict's) -/
abbrev HdD := Str × Nat × (Addr → Addr → Str → DTS)
def goneD (i : Nat) (A : DEnds) : DEnds := { nx := fun ρ => A.nx (ρ.set i none), rt := A.rt, bk := fun ρ => A.bk (ρ.set i none), ct := fun ρ => A.ct (ρ.set i none), ex := NoX }
def dHds (G : Gx) (A : DEnds) : List HdD → DEnv → Str → List (Str × D) → Mu → Prop
  | [], ρ, C, fs, μ => A.ex ρ (.own C fs) μ
  | (S, i, T) :: r, ρ, C, fs, μ => match G.mt C S with
    | some true => ∀ a dd, T a dd C (goneD i A) (ρ.set i (some (.exc a dd C fs))) μ
    | some false => dHds G A r ρ C fs μ
    | none => False
def tryX (G : Gx) (A : DEnds) (l : List HdD) : EXt := fun ρ x μ => match x with
  | .own C fs => dHds G A l ρ C fs μ
  | .bin _ => False
def dTry (G : Gx) (Tb : DTS) (l : List HdD) : DTS := fun A ρ μ => ∃ EX : EXt, (∀ ρ x μ, EX ρ x μ → tryX G A l ρ x μ) ∧ Tb { A with ex := EX } ρ μ
theorem mono_hds {A B : DEnds} {l : List HdD} (ml : ∀ h ∈ l, ∀ a dd C, MonoS (h.2.2 a dd C)) (le : DEnds.Le A B) : ∀ {ρ C fs μ}, dHds G A l ρ C fs μ → dHds G B l ρ C fs μ := by
  induction l with
  | nil =>
    intro ρ C fs μ h
    show B.ex ρ _ μ
    rw [← le.ex]
    exact h
  | cons h r ih =>
    intro ρ C fs μ q
    obtain ⟨S, i, T⟩ := h
    unfold dHds at q ⊢
    split at q
    · exact fun a dd => ml _ List.mem_cons_self a dd C (goneD i A) (goneD i B) _ _ ⟨fun ρ => le.nx _, le.rt, fun ρ => le.bk _, fun ρ => le.ct _, rfl⟩ (q a dd)
    · exact ih (fun h m => ml h (List.mem_cons_of_mem _ m)) q
    · exact q.elim
/-- one clause of the text -/
structure PDh1 (X : Cx) (G : Gx) (S : Str) (s : Value) (i : Nat) (suite : List Stmt) (T : Addr → Addr → Str → DTS) : Prop where
  mt : ∀ C c b, G.ct C = some c → G.mt C S = some b → PySem.W.exmOne X.K (.ref c) s = some b
  ex : ∀ (a dd : Addr) (C : Str) (c : Addr) (oe : Obj) (pn : List (Addr × Obj)), G.ct C = some c → Zc (.ref c) (some dd) oe → (∃ vs, oe.data = .fields vs) → PSDs (X.suite a ((a, oe) :: pn)) G ES0 suite (T a dd C)
  mono : ∀ a dd C, MonoS (T a dd C)
inductive PDhs (X : Cx) (G : Gx) : List ExceptHandler → List HdD → Prop
  | nil : PDhs X G [] []
  | cons {x n S : Str} {s : Value} {i : Nat} {T : Addr → Addr → Str → DTS} {b0 : Stmt} {su : List Stmt} {p1 p2 : Pos} {hds : List ExceptHandler} {l : List HdD} (hN : X.N.Nodup) (hi : X.N[i]? = some n) (hln : X.env.kindOf n = some .local) (hc : Names X x s) (h : PDh1 X G S s i (b0 :: su) T) (r : PDhs X G hds l) :
      PDhs X G (.ExceptHandler (some (.Name x p1)) (some n) (b0 :: su) p2 :: hds) ((S, i, T) :: l)
theorem PDhs.mono {hds : List ExceptHandler} {l : List HdD} (h : PDhs X G hds l) : ∀ h ∈ l, ∀ a dd C, MonoS (h.2.2 a dd C) := by
  induction h with
  | nil => intro h m; cases m
  | cons hN hi hln hc hh r ih =>
    intro h m
    rcases List.mem_cons.mp m with rfl | m
    · exact hh.mono
    · exact ih h m
/-- the clauses' readings by values: one for all places of the error -/
def clT (X : Cx) (G : Gx) (suite : List Stmt) : Addr → Value → Option Addr → TS := fun a cls d D σ H => ∀ (oe : Obj) (pn : List (Addr × Obj)), Zc cls d oe → (∃ vs, oe.data = .fields vs) → ∃ t, PSs (X.suite a ((a, oe) :: pn)) suite t ∧ t D σ H
theorem hds_of {hds : List ExceptHandler} {l : List HdD} (h : PDhs X G hds l) : ∃ cl : List My.Cl, My.HdsAs X hds cl ∧ ∀ (Wout : WX) (De : Ends) (A : DEnds) (w : Wd) (μ : Mu) (H : Hp), Okk X.K G w μ H → LnkS X.K G w μ H De A → Lk X.K G (fun σ cls d H => Wout cls d σ H) A.ex w μ H →
    ∀ (σ : L2.St) (ρ : DEnv) (C : Str) (fs : List (Str × D)) (c dd : Addr) (gs : List (Str × V)), G.ct C = some c → w.S dd = some (.xd gs) → Rpf X.K G w fs gs → Sl X.K G w σ ρ → dHds G A l ρ C fs μ → My.wManyAs X.K Wout De cl (.ref c) (some dd) σ H := by
  induction h with
  | nil =>
    refine ⟨[], .nil, fun Wout De A w μ H ok l lk σ ρ C fs c dd gs hc hd r sl q => ?_⟩
    exact lk.own σ ρ C fs w μ H c dd gs (.refl ok) hc hd r sl q
  | @cons x n S s i T b0 su p1 p2 hds l hN hi hln hc hh r ih =>
    obtain ⟨cl, hcl, run⟩ := ih
    refine ⟨(s, i, clT X G (b0 :: su)) :: cl, .cons hN hi hln hc (fun a oe cls d pn hz hf => ⟨fun pins s2 σ H D I q => ?_⟩) hcl, fun Wout De A w μ H ok l lk σ ρ C fs c dd gs hC hd rr sl q => ?_⟩
    · obtain ⟨t, pt, q⟩ := q oe pn hz hf
      exact pt.run pins s2 σ H D I q
    · unfold dHds at q
      split at q
      · rename_i em
        refine ⟨true, hh.mt C c true hC em, fun _ a na oe pn hz hf => ?_, fun z => by cases z⟩
        obtain ⟨⟨t, pt, rn⟩, _⟩ := hh.ex a dd C c oe pn hC hz hf
        refine ⟨t, pt, rn (σ.set i (some (.ref a))) (ρ.set i (some (.exc a dd C fs))) w μ H _ (goneD i A) (sl.set ⟨rfl, c, gs, hC, hd, rr⟩) ok lk0 ⟨fun σ' ρ' w' μ' H' t' sl' q' => ?_, l.rt, fun σ' ρ' w' μ' H' t' sl' q' => ?_, fun σ' ρ' w' μ' H' t' sl' q' => ?_⟩ (q a dd)⟩
        · exact l.nx _ _ w' μ' H' t' ⟨by simp [sl'.len], fun j y e => by
            rcases get_set e with ⟨_, e⟩ | ⟨ne, e⟩
            · cases e
            · rw [List.getElem?_set_ne (Ne.symm ne)]
              exact sl'.dat j y e⟩ q'
        · exact l.bk _ _ w' μ' H' t' ⟨by simp [sl'.len], fun j y e => by
            rcases get_set e with ⟨_, e⟩ | ⟨ne, e⟩
            · cases e
            · rw [List.getElem?_set_ne (Ne.symm ne)]
              exact sl'.dat j y e⟩ q'
        · exact l.ct _ _ w' μ' H' t' ⟨by simp [sl'.len], fun j y e => by
            rcases get_set e with ⟨_, e⟩ | ⟨ne, e⟩
            · cases e
            · rw [List.getElem?_set_ne (Ne.symm ne)]
              exact sl'.dat j y e⟩ q'
      · rename_i em
        exact ⟨false, hh.mt C c false hC em, fun z => (by cases z), fun _ => run Wout De A w μ H ok l lk σ ρ C fs c dd gs hC hd rr sl q⟩
      · exact q.elim
theorem psd_try {body : List Stmt} {h0 : ExceptHandler} {hds : List ExceptHandler} {l : List HdD} {Tb : DTS} (hs : X.stack = X.env :: X.outer) (hf : X.env.frame = some X.env.locals) (tk : TkS X E) (hp : PassesOwn (model X.prog X.w) X.A X.env X.xe)
    (hb : ∀ (E' : XS) (pn : List (Addr × Obj)) (xe : Value → Shared → Prop), TkS (X.tr pn xe) E' → PassesOwn (model X.prog X.w) X.A X.env xe → PSDs (X.tr pn xe) G E' body Tb) (hh : PDhs X G (h0 :: hds) l) : PSD X G E (.Try body (h0 :: hds) [] [] pos) (dTry G Tb l) := by
  obtain ⟨cl, hcl, run⟩ := hds_of hh
  have ms : MonoS Tb := (hb E X.pn X.xe tk hp).mono
  refine ⟨⟨_, My.ps_try_manyAs (tb := fun W D σ H => ∀ (pn : List (Addr × Obj)) (xe : Value → Shared → Prop), Takes (X.tr pn xe) W → PassesOwn (model X.prog X.w) X.A X.env xe → ∃ t, PSs (X.tr pn xe) body t ∧ t D σ H) (l := cl) hs hf tk (fun W pn xe tk' po => ⟨fun pins s σ H D I q => ?_⟩) hcl, fun σ ρ w μ H D A sl ok lk l' q pn xe tk' po => ?_⟩, fun A B ρ μ le ⟨EX, hle, q⟩ => ⟨EX, fun ρ x μ h => ?_, ms { A with ex := EX } { B with ex := EX } ρ μ ⟨le.nx, le.rt, le.bk, le.ct, rfl⟩ q⟩⟩
  · obtain ⟨t, pt, q⟩ := q pn xe tk' po
    exact pt.run pins s σ H D I q
  · obtain ⟨EX, hle, q⟩ := q
    obtain ⟨⟨t, pt, rn⟩, _⟩ := hb (fun σ cls d H => My.wManyAs X.K (fun cls d σ H => E σ cls d H) D cl cls d σ H) pn xe tk' po
    refine ⟨t, pt, rn σ ρ w μ H D { A with ex := EX } sl ok ⟨fun σ' ρ' C fs w' μ' H' c dd gs t' hC hd r sl' q' => ?_, fun σ' ρ' T w' μ' H' o t' sl' q' => (show False from hle ρ' (.bin T) μ' q').elim⟩ ⟨l'.nx, l'.rt, l'.bk, l'.ct⟩ q⟩
    exact run _ D A w' μ' H' t'.ok (l'.step t') (lk.step t') σ' ρ' C fs c dd gs hC hd r sl' (hle _ _ _ q')
  · have h := hle ρ x μ h
    cases x with
    | own C fs => exact mono_hds hh.mono le h
    | bin T => exact h.elim
/-- a clause that takes errors of one class alone -/
def oneT (nm : Str) (T : Addr → Addr → DTS) : Addr → Addr → Str → DTS := fun a dd C => if C = nm then T a dd else dNo
theorem PDh1.one {S nm : Str} {s : Value} {i : Nat} {suite : List Stmt} {T : Addr → Addr → DTS} {c : Addr} (hC : G.ct nm = some c) (mt : ∀ C c b, G.ct C = some c → G.mt C S = some b → PySem.W.exmOne X.K (.ref c) s = some b)
    (ex : ∀ (a dd : Addr) (oe : Obj) (pn : List (Addr × Obj)), Zc (.ref c) (some dd) oe → (∃ vs, oe.data = .fields vs) → PSDs (X.suite a ((a, oe) :: pn)) G ES0 suite (T a dd)) : PDh1 X G S s i suite (oneT nm T) := by
  refine ⟨mt, fun a dd C c' oe pn hc hz hf => ?_, fun a dd C => ?_⟩
  · unfold oneT
    by_cases e : C = nm
    · subst e
      rw [hC] at hc
      cases hc
      rw [if_pos rfl]
      exact ex a dd oe pn hz hf
    · rw [if_neg e]
      exact psds_no
  · unfold oneT
    by_cases e : C = nm
    · rw [if_pos e]
      exact (ex a dd { cls := .ref c, dict := some dd, data := .fields #[] } [] ⟨rfl, rfl⟩ ⟨_, rfl⟩).mono
    · rw [if_neg e]
      exact fun _ _ _ _ _ q => q
/-- e.f, e the error that the suite holds -/
def dExcF (a dd : Addr) (nm f : Str) (T : DTE) : DTE := fun ρ μ EX Q => T ρ μ EX fun x μ' => ∃ d, x = .exc a dd nm [(f, d)] ∧ Q d μ'
theorem pd_excF {a dd : Addr} {nm f : Str} {T : DTE} (mk : ∀ te, PE X e te → PE X (.Attribute e f pos) (fun σ H Q => te σ H fun x H1 => x = .ref a ∧ ∃ v, H1 dd = some (.xd [(f, v)]) ∧ Q v H1)) (h : PD X G E e T) : PD X G E (.Attribute e f pos) (dExcF a dd nm f T) := by
  obtain ⟨⟨t, p, r⟩, m⟩ := h
  refine ⟨⟨_, mk _ p, fun σ ρ w μ H EX Q sl ok lk q => r σ ρ w μ H EX _ sl ok lk (m _ _ _ _ _ (fun x μ' q1 v w1 H1 t1 r1 => ?_) q)⟩, fun ρ μ EX Q Q' i q => m _ _ _ _ _ (fun x μ' ⟨d, e, q⟩ => ⟨d, e, i _ _ q⟩) q⟩
  obtain ⟨d, rfl, q1⟩ := q1
  obtain ⟨rfl, c, gs, hc, hd, v, us, rfl, h1, h2⟩ := r1
  obtain rfl : us = [] := h2
  exact ⟨rfl, v, t1.ok.ex _ _ hd, q1 v w1 H1 t1 h1⟩
/-- isinstance(e, C), e that error -/
def isErrD (G : Gx) (a dd : Addr) (nm : Str) : List D → Option D
  | [.exc a' dd' nm' _, .fn C] => if a' = a ∧ dd' = dd ∧ nm' = nm then (G.ic nm C).map .bl else none
  | [.exc a' dd' nm' _, .val (.ty T)] => if a' = a ∧ dd' = dd ∧ nm' = nm then (G.ib nm T).map .bl else none
  | _ => none
theorem isErrD_ok {K : PySem.W.Frag} {a dd c : Addr} {nm : Str} (xc : L2.ExcC K c) (h1 : ∀ C p b, G.ft C = some p → G.ic nm C = some b → PySem.W.kitOne K (.ref c) (.ref p) = some b) (h2 : ∀ T b, G.ib nm T = some b → PySem.W.kitOne K (.ref c) (.type T) = some b) :
    CrD K G (My.rIsErr K a (.ref c) (some dd)) (isErrD G a dd nm) := by
  intro w μ H xs d vs Q ok r hg q
  unfold isErrD at hg
  split at hg
  · split at hg
    · rename_i k
      obtain ⟨b, eb, rfl⟩ := Option.map_eq_some_iff.mp hg
      obtain ⟨v, u, rfl, r1, r2⟩ := rts2 r
      obtain ⟨rfl, c', gs, _, hd, _⟩ := r1
      obtain ⟨p, hp, rfl⟩ := r2
      obtain ⟨rfl, rfl, rfl⟩ := k
      exact ⟨c, .ref p, b, rfl, ⟨rfl, xc, _, gs, rfl, ok.ex _ _ hd⟩, q _ w H (.refl ok) rfl, .inl ⟨.ref p, .own p, h1 _ _ _ hp eb⟩⟩
    · cases hg
  · split at hg
    · rename_i k
      obtain ⟨b, eb, rfl⟩ := Option.map_eq_some_iff.mp hg
      obtain ⟨v, u, rfl, r1, r2⟩ := rts2 r
      obtain ⟨rfl, c', gs, _, hd, _⟩ := r1
      obtain rfl : u = V.ty _ := r2
      obtain ⟨rfl, rfl, rfl⟩ := k
      exact ⟨c, _, b, rfl, ⟨rfl, xc, _, gs, rfl, ok.ex _ _ hd⟩, q _ w H (.refl ok) rfl, .inl ⟨.type _, .ty _, h2 _ _ eb⟩⟩
    · cases hg
  · cases hg
/-! a call of a def that a name holds -/
abbrev Tab := Str → Option (Nat × DFn)
/-- the defs that may be held -/
structure FDs (X : Cx) (G : Gx) (j : Nat) (tab : Tab) : Prop where
  get : ∀ x n W f, tab x = some (n, W) → G.ft x = some f → ∃ (k : Nat) (ps : List Str) (fd : FuncData), ps.length = n ∧ k ≤ j ∧ My.FnX X k f fd ps (spD X.K G ps.length W) ∧ PySem.W.keepIn X.K (.ref f) = true ∧ Binds X.K fd ps []
  mono : ∀ x n W, tab x = some (n, W) → MonoW W
def dCallV (tab : Tab) (i : Nat) (Ta : DTA) : DTE := fun ρ μ EX Q => ∃ x n W, ρ[i]? = some (some (.fn x)) ∧ tab x = some (n, W) ∧ Ta ρ μ EX fun ds μ' => ds.length = n ∧ W ds μ' (EX ρ) Q
theorem pd_callV {tab : Tab} {i j : Nat} {x : Str} {Ta : DTA} (T : FDs X G j tab) (gd : X.A.guards = some []) (hr : Room j X.A) (hN : X.N[i]? = some x) (hv : Vis X.env.scope x) (hx : My.PassX X E) (ha : PDa X G E (e :: es) Ta) (hdb : (x == ("__debug__" : Str)) = false := by decide +kernel) (hcd : (x == ("__classdict__" : Str)) = false := by decide +kernel)
    (he : starEach (e :: es) X.env = (false, eval e X.env) :: starEach es X.env := by rfl) (hpl : (backTo pos (starEach es X.env)).any (·.1) = false := by rfl) : PD X G E (.Call (.Name x p) (e :: es) [] pos) (dCallV tab i Ta) := by
  obtain ⟨⟨ta, pa, ra⟩, ma⟩ := ha
  refine ⟨⟨fun σ H Q => ∃ (f : Addr) (k : Nat) (ps : List Str) (fd : FuncData) (W : DFn), σ[i]? = some (some (.ref f)) ∧ k ≤ j ∧ My.FnX X k f fd ps (spD X.K G ps.length W) ∧ PySem.W.keepIn X.K (.ref f) = true ∧ Binds X.K fd ps [] ∧ ta σ H fun vs H1 => spD X.K G ps.length W (vs ++ []) H1 Q (E σ), ⟨fun pins s σ H Q I h => ?_⟩, fun σ ρ w μ H EX Q sl ok lk q => ?_⟩, fun ρ μ EX Q Q' i q => ?_⟩
  · obtain ⟨f, k, ps, fd, W, hs, hk, F, kp, hb, ht⟩ := h
    refine wpAny_Call_Name_kw (thn ((pe_var (pos := p) hN hv hdb hcd).run pins s σ H (fun v H1 => v = .ref f ∧ H1 = H) I ⟨.ref f, hs, rfl, rfl⟩) fun u s1 ⟨v, H1, I1, r1, q1⟩ => ?_)
    obtain ⟨rfl, rfl⟩ := q1
    cases r1
    refine PySem.W.callWith_K (h₀ := X.base) I.ok.mod.kin kp (thn (pa.run pos pins s1 σ _ _ I1 ht) fun us s2 ⟨vs, H2, I2, r, q⟩ => ⟨I2.kIn, ?_⟩) he hpl
    exact My.runS F gd (hr.mono hk) hb .nil hx I2 r q
  · obtain ⟨y, n, W, hy, ht, q⟩ := q
    obtain ⟨v, e1, f, hf, rfl⟩ := sl.dat i _ hy
    obtain ⟨k, ps, fd, rfl, hk, F, kp, hb⟩ := T.get y n W f ht hf
    refine ⟨f, k, ps, fd, W, e1, hk, F, kp, hb, ra σ ρ w μ H EX _ sl ok lk (ma _ _ _ _ _ (fun ds μ1 q1 vs w1 H1 t1 r1 => ?_) q)⟩
    exact ⟨ds, w1, μ1, EX ρ, _, q1.1, by rw [List.append_nil]; exact r1, t1.ok, q1.2, fun v d w2 μ2 H2 t2 r2 q2 => q2 v w2 H2 (t1.trans t2) r2, (lk.step t1).at (sl.le t1.le)⟩
  · obtain ⟨y, n, W, hy, ht, q⟩ := q
    exact ⟨y, n, W, hy, ht, ma _ _ _ _ _ (fun ds μ' ⟨l, h⟩ => ⟨l, T.mono y n W ht _ _ _ _ _ i h⟩) q⟩
end
end Dl
set_option Elab.async false
set_option linter.all false
set_option autoImplicit false
set_option maxRecDepth 100000
set_option maxHeartbeats 2000000
/-! B11: a def of the text by its place and its derivation -/
namespace Dl
open PySem PySem.Spec PyProof.Rows L2 Evl
/-- made monotone -/
def clW (W : DFn) : DFn := fun ds μ EX Q => ∃ Q0 : D → Mu → Prop, (∀ d μ', Q0 d μ' → Q d μ') ∧ W ds μ EX Q0
theorem mono_clW (W : DFn) : MonoW (clW W) := fun ds μ EX Q Q' i ⟨Q0, h, q⟩ => ⟨Q0, fun d μ' z => i _ _ (h d μ' z), q⟩
theorem clW_of {W : DFn} {ds : List D} {μ : Mu} {EX : Exn → Mu → Prop} {Q : D → Mu → Prop} (h : W ds μ EX Q) : clW W ds μ EX Q := ⟨Q, fun _ _ z => z, h⟩
/-- where a def stands -/
structure RawFn (K : PySem.W.Frag) (mg : Str → Option Value) (x : Str) (st : Stmt) (ps : List Str) where
  f : Addr
  fd : FuncData
  F : Fun K x x st f fd
  m : mg x = some (.ref f)
  kp : PySem.W.keepIn K (.ref f) = true
  b : Binds K fd ps []
section
variable {P : Program} {w : World} {K : PySem.W.Frag} {mg : Str → Option Value} {base : Heap} {G : Gx}
theorem spD_clW {n : Nat} {W : DFn} {vs : List V} {H : Hp} {Q : VK} {E : XK} (h : spD K G n (clW W) vs H Q E) : spD K G n W vs H Q E := by
  obtain ⟨ds, w', μ, EX, DQ, hl, r, ok, ⟨Q0, i, q⟩, hq, lk⟩ := h
  exact ⟨ds, w', μ, EX, Q0, hl, r, ok, q, fun v d w2 μ2 H2 t2 r2 q2 => hq v d w2 μ2 H2 t2 r2 (i _ _ q2), lk⟩
def FD.ofRaw {x : Str} {st : Stmt} {N ps : List Str} {k : Nat} {T : DTS} (R : RawFn K mg x st ps) (sc : FnScope N ps (defScope st)) (hn : ps.length ≤ N.length)
    (body : ∀ (cdv : Value) (A : Around) (outer : List Env) (s : Shared) (H : Hp) (E : XK), A.guards = some [] → Room k (A.deeper (envOfC x (defScope st) s.heap.objs.size R.f cdv)) →
      PSDs (cxOf (L2.CX P w) P w K mg base N x (defScope st) R.f cdv A outer s H E) G (fun _ => E) (defBody st) T) : FD P w K mg base G x (k + 1) ps (clW (dwp N.length T)) :=
  let F := fnD (base := base) (P := P) (w := w) R.F sc hn body
  ⟨R.f, R.fd, ⟨fun vs H Q E h => by obtain ⟨ds, w', μ, EX, DQ, hl, r, _⟩ := h; rw [rps_len r, hl], fun A outer s H args us vs Q E gd hr e0 hb r hsp => F.run A outer s H args us vs Q E gd hr e0 hb r (spD_clW hsp)⟩, R.m, R.kp, R.b, mono_clW _⟩
end
end Dl
set_option Elab.async false
set_option linter.all false
set_option autoImplicit false
set_option maxRecDepth 100000
set_option maxHeartbeats 2000000
/-! B12: comprehensions whose element may raise -/
namespace Dl
open PySem PySem.Spec PyProof.Rows L2 Evl
def uAddX (T : DTE) (EX : EXt) : DAct := fun ρ μ acc Q => T ρ μ EX fun y μ' => acc.length < sizeLine ∧ Q (acc ++ [y]) μ'
theorem mono_addX {T : DTE} {EX : EXt} (mt : Mono T) : MonoA (uAddX T EX) := fun ρ μ acc Q Q' i q => mt _ _ _ _ _ (fun y μ' ⟨l, h⟩ => ⟨l, i _ _ h⟩) q
def dLcX (I : DTI) (Tg : DTG) (C : DTT) (T : DTE) (vs : List Nat) : DTE := fun ρ μ EX Q => I ρ μ EX fun ds chk μ' => dActL Tg C (uAddX T fun _ => EX ρ) (wipeD ρ vs) chk ds μ' [] fun out μ2 => Q (.lst out) μ2
def dLcXC (I : DTI) (Tg : DTG) (C : DTT) (T : DTE) (vs : List Nat) : DTE := fun ρ μ EX Q => I ρ μ EX fun ds chk μ' => dActL Tg C (uAddX T fun _ => EX ρ) (wipeD ρ vs) chk ds μ' [] fun out μ2 => Q (.cel μ2.length) (μ2 ++ [some (.lst out)])
theorem mono_lcX {I : DTI} {Tg : DTG} {C : DTT} {T : DTE} {vs : List Nat} (mi : MonoI I) (mg : MonoG Tg) (mc : Mono C) (mt : Mono T) : Mono (dLcX I Tg C T vs) := fun ρ μ EX Q Q' i q => mi _ _ _ _ _ (fun ds c μ' h => mono_actL mg mc (mono_addX mt) (fun out => i _) ds _ [] h) q
theorem mono_lcXC {I : DTI} {Tg : DTG} {C : DTT} {T : DTE} {vs : List Nat} (mi : MonoI I) (mg : MonoG Tg) (mc : Mono C) (mt : Mono T) : Mono (dLcXC I Tg C T vs) := fun ρ μ EX Q Q' i q => mi _ _ _ _ _ (fun ds c μ' h => mono_actL mg mc (mono_addX mt) (fun out μ2 h => i _ _ h) ds _ [] h) q
theorem act_addX {K : PySem.W.Frag} {G : Gx} {L : Addr} {te : TE} {T : DTE} {E0 : XK} {EX : EXt} (ht : RunE K G (fun _ => E0) te T) (mt : Mono T) :
    ActP K G (Lk K G (fun _ => E0) EX) L (fun σ H N => te σ H fun y H4 => ∃ acc, H4 L = some (.lst acc) ∧ acc.length < sizeLine ∧ N (upd H4 L (.lst (acc ++ [y])))) (uAddX T EX) := fun σ ρ wp w μp μ Hq H acc Nx lk hL t sl l q => by
  refine ht σ ρ w μ H EX _ sl t.ok (lk.step t) (mt _ _ _ _ _ (fun y μ' q' v w' H' t' r' => ?_) q)
  obtain ⟨n, c, va, e, r⟩ := l.stp t'
  obtain ⟨hl, q'⟩ := q'
  refine ⟨va, e, by rw [rps_len r]; exact hl, q' w' _ ((t.trans t').rawset hL e n c) t'.le ⟨n, c, _, upd_same, rps_app r (rps_one r')⟩⟩
abbrev wxE (E : XS) : WX := fun cls d σ H => E σ cls d H
section
variable {X : Cx} {G : Gx} {E : XS} {pos : Pos}
theorem run_lcX {wi : TI} {g : TG} {tt : TT} {te : XK → TE} {vs is : List Nat} {I : DTI} {Tg : DTG} {C : DTT} {T : DTE} (hi : RunI X.K G E wi I) (mi : MonoI I) (hg : RunG X.K G is g Tg) (mg : MonoG Tg)
    (hc : RunT X.K G ES0 tt C) (mc : Mono C) (he : ∀ E0 : XK, RunE X.K G (fun _ => E0) (te E0) T) (mt : Mono T) (his : ∀ i ∈ is, i ∈ vs) :
    RunE X.K G E (My.tLcX wi g tt te vs (wxE E)) (dLcX I Tg C T vs) ∧ RunE X.K G E (My.tLcX wi g tt te vs (wxE E)) (dLcXC I Tg C T vs) := by
  constructor
  · intro σ ρ w μ H EX Q sl ok lk q
    refine hi σ ρ w μ H EX _ sl ok lk (mi _ _ _ _ _ (fun ds chk μ1 q1 J w1 H1 t1 wk L hD => ?_) q)
    have t2 := Stp.raw (o := .lst []) t1.ok hD
    have nn := t1.ok.none hD
    refine loop_act (acc0 := []) wk (.refl _) hg mg hc mc (act_addX (he (E σ)) mt) (mono_addX mt) his ((lk.at sl).step t1) hD t2 (sl.le t1.le) ⟨nn.1, nn.2, [], upd_same, rfl⟩ (mono_actL mg mc (mono_addX mt) (fun out μ2 h w' H' t' le' l' => ?_) _ _ _ q1)
    obtain ⟨n, c, va, e, r⟩ := l'
    obtain ⟨ok', le2⟩ := Stp.data t'.ok e n c
    refine h (.ref L) ⟨upd w'.S L (.lst va), w'.al⟩ H' (t1.trans ⟨t'.le.trans le2, ok', fun a o ea sa ca => ?_, t'.dom⟩) ⟨L, va, rfl, upd_same, rps_ex le2 r⟩
    obtain ⟨h1, h2, h3⟩ := t'.fr a o ea sa ca
    exact ⟨h1, by show upd w'.S L _ a = none; rw [upd_ne (ne_of_none ea hD)]; exact h2, h3⟩
  · intro σ ρ w μ H EX Q sl ok lk q
    refine hi σ ρ w μ H EX _ sl ok lk (mi _ _ _ _ _ (fun ds chk μ1 q1 J w1 H1 t1 wk L hD => ?_) q)
    have t2 := Stp.raw (o := .lst []) t1.ok hD
    have nn := t1.ok.none hD
    refine loop_act (acc0 := []) wk (.refl _) hg mg hc mc (act_addX (he (E σ)) mt) (mono_addX mt) his ((lk.at sl).step t1) hD t2 (sl.le t1.le) ⟨nn.1, nn.2, [], upd_same, rfl⟩ (mono_actL mg mc (mono_addX mt) (fun out μ2 h w' H' t' le' l' => ?_) _ _ _ q1)
    obtain ⟨n, c, va, e, r⟩ := l'
    obtain ⟨ok', le2⟩ := Stp.cell (x := .lst out) t'.ok n c ⟨va, e, r⟩
    refine h (.ref L) _ H' (t1.trans ⟨t'.le.trans le2, ok', fun a o ea sa ca => ?_, t'.dom⟩) ⟨L, if_pos rfl, rfl⟩
    obtain ⟨h1, h2, h3⟩ := t'.fr a o ea sa ca
    refine ⟨h1, h2, fun m z => ?_⟩
    have z : (if m = μ2.length then some L else w'.al m) = some a := z
    by_cases q : m = μ2.length
    · rw [if_pos q] at z
      cases z
      exact ne_of_none ea hD rfl
    · rw [if_neg q] at z
      exact h3 m z
abbrev blkEX (X : Cx) (scope : Scope) (i : BlkI) (E0 : XK) : Cx := My.blkE X i.1 i.2.1 scope (compEnvC scope i.2.2.2.1 i.2.2.1 X.env) i.2.2.2.2 E0
section
variable {elt tg iter : Expr} {ifs : List Expr} {scope : Scope} {own : List (Str × Nat)} {is : List Nat} {I : DTI} {Tg : DTG} {C : DTT} {T : DTE}
theorem lcX_parts (hi : PDi X G E tg iter I) (hg : ∀ i, PDg (blkX X scope i) G tg is Tg) (ht : ∀ i, PDts (blkX X scope i) G ES0 ifs C) (he : ∀ i E0, PD (blkEX X scope i E0) G (fun _ => E0) elt T) (his : ∀ i ∈ is, i ∈ own.map (·.2)) :
    ∃ wi g tt te, PI X tg iter wi ∧ (∀ i, PG (blkX X scope i) tg g) ∧ (∀ i, PTs (blkX X scope i) ifs tt) ∧ (∀ i E0, PE (blkEX X scope i E0) elt (te E0)) ∧ RunE X.K G E (My.tLcX wi g tt te (own.map (·.2)) (wxE E)) (dLcX I Tg C T (own.map (·.2))) ∧ RunE X.K G E (My.tLcX wi g tt te (own.map (·.2)) (wxE E)) (dLcXC I Tg C T (own.map (·.2))) ∧
      Mono (dLcX I Tg C T (own.map (·.2))) ∧ Mono (dLcXC I Tg C T (own.map (·.2))) := by
  obtain ⟨⟨wi, pi, ri⟩, mi⟩ := hi
  obtain ⟨g, pg, rg⟩ := uniG (Xf := blkX X scope) (K := X.K) (fun _ => rfl) hg
  obtain ⟨tt, pt, rt⟩ := uniT (Xf := blkX X scope) (K := X.K) (fun _ => rfl) ht
  have i0 : BlkI := (X.s_0, X.H_0, 0, [], [])
  have mt := (he i0 (fun _ _ _ => False)).mono
  have h := run_lcX (te := fun E0 σ H Q => ∀ i, ∃ t : TE, PE (blkEX X scope i E0) elt t ∧ t σ H Q) ri mi rg (hg i0).mono rt (ht i0).mono (fun E0 σ ρ w μ H EX Q sl ok lk q i => by
    obtain ⟨t, p, r⟩ := (he i E0).ex
    exact ⟨t, p, r σ ρ w μ H EX Q sl ok lk q⟩) mt his
  exact ⟨wi, g, tt, _, pi, pg, pt, fun i E0 => ⟨fun pins s σ H Q I q => by
    obtain ⟨t, p, q⟩ := q i
    exact p.run pins s σ H Q I q⟩, h.1, h.2, mono_lcX mi (hg i0).mono (ht i0).mono mt, mono_lcXC mi (hg i0).mono (ht i0).mono mt⟩
theorem pd_lcX (tk : TkS X E) (hst : X.stack = X.env :: X.outer) (hfm : X.env.frame = some X.env.locals) (hc : X.calm = true) (hN : X.N.Nodup) (ok : BlkOk X.N X.env.scope scope own) (hi : PDi X G E tg iter I) (hg : ∀ i, PDg (blkX X scope i) G tg is Tg) (ht : ∀ i, PDts (blkX X scope i) G ES0 ifs C) (he : ∀ i E0, PD (blkEX X scope i E0) G (fun _ => E0) elt T)
    (his : ∀ i ∈ is, i ∈ own.map (·.2) := by decide) (hs : ∀ x, foldedSetIterable iter X.env x = pure x := by intro _; rfl) : PD X G E (.ListComp elt [⟨tg, iter, ifs, 0⟩] scope pos) (dLcX I Tg C T (own.map (·.2))) := by
  obtain ⟨wi, g, tt, te, p1, p2, p3, p4, r, _, m, _⟩ := lcX_parts hi hg ht he his
  exact ⟨⟨_, My.pe_lcX tk hst hfm hc hN p1 ok (fun s H A cl fp => p2 (s, H, A, cl, fp)) (fun s H A cl fp => p3 (s, H, A, cl, fp)) (fun s H A cl fp E0 => p4 (s, H, A, cl, fp) E0) hs, r⟩, m⟩
theorem psd_setLcXG {i : Nat} {y : Str} {py spos : Pos} (tk : TkS X E) (hst : X.stack = X.env :: X.outer) (hfm : X.env.frame = some X.env.locals) (hc : X.calm = true) (hN : X.N.Nodup) (hy : X.N[i]? = some y) (hyl : X.env.scope.names.lookup y = some .local) (hsw : swapsWith (.ListComp elt [⟨tg, iter, ifs, 0⟩] scope pos) (some (.Name y py)) spos.line X.env = pure true)
    (ok : BlkOk X.N X.env.scope scope own) (hi : PDi X G E tg iter I) (hg : ∀ i, PDg (blkX X scope i) G tg is Tg) (ht : ∀ i, PDts (blkX X scope i) G ES0 ifs C) (he : ∀ i E0, PD (blkEX X scope i E0) G (fun _ => E0) elt T)
    (his : ∀ i ∈ is, i ∈ own.map (·.2)) (hs : ∀ x, foldedSetIterable iter X.env x = pure x) : PSD X G E (.Assign [.Name y py] (.ListComp elt [⟨tg, iter, ifs, 0⟩] scope pos) spos) (dSet i (dLcX I Tg C T (own.map (·.2)))) ∧
      PSD X G E (.Assign [.Name y py] (.ListComp elt [⟨tg, iter, ifs, 0⟩] scope pos) spos) (dSet i (dLcXC I Tg C T (own.map (·.2)))) := by
  obtain ⟨wi, g, tt, te, p1, p2, p3, p4, r, r', m, m'⟩ := lcX_parts hi hg ht he his
  have h := My.ps_setLcX tk hst hfm hc hN hy hyl hsw p1 ok (fun s H A cl fp => p2 (s, H, A, cl, fp)) (fun s H A cl fp => p3 (s, H, A, cl, fp)) (fun s H A cl fp E0 => p4 (s, H, A, cl, fp) E0) hs
  exact ⟨psd_setG h r m, psd_setG h r' m'⟩
theorem pass_blkE {s : Shared} {H : Hp} {ce : Env} {fp : List Addr} {E0 : XK} : My.PassX (My.blkE X s H scope ce fp E0) (fun _ => E0) := My.pass_blkE
end
end
end Dl
set_option Elab.async false
set_option linter.all false
set_option autoImplicit false
set_option maxRecDepth 100000
set_option maxHeartbeats 2000000
/-! B13: own errors with one field; defs that are held -/
namespace Dl
open PySem PySem.Spec PyProof.Rows L2 Evl
/-- NoLetter, as the text has it -/
structure ErrL (K : PySem.W.Frag) (mg : Str → Option Value) (G : Gx) where
  c : Addr
  fI : Addr
  T : PySem.OneXL.OneTxt K mg "NoLetter" PySem.OneXL.keyTail "LookupError.__new__" c fI
  ct : G.ct "NoLetter" = some c
  xc : L2.ExcC K c
  ic : ∀ C p b, G.ft C = some p → G.ic "NoLetter" C = some b → PySem.W.kitOne K (.ref c) (.ref p) = some b
  ib : ∀ T b, G.ib "NoLetter" T = some b → PySem.W.kitOne K (.ref c) (.type T) = some b
  mt : ∀ C c' b, G.ct C = some c' → G.mt C "NoLetter" = some b → PySem.W.exmOne K (.ref c') (.ref c) = some b
theorem pe_excL {X : Cx} {C fI a dd : Addr} {oe : Obj} {pn : List (Addr × Obj)} {e : Expr} {te : TE} {pos : Pos} {nm : Str} {bmB : List Value} {newId : String} (T : PySem.OneXL.OneTxt X.K X.mg nm bmB newId C fI) (hz : Zc (.ref C) (some dd) oe) (hf : ∃ vs, oe.data = .fields vs) (he : PE (X.suite a ((a, oe) :: pn)) e te)
    (hb : attributeBase e "letter" X.env (eval e X.env) = eval e X.env := by rfl) : PE (X.suite a ((a, oe) :: pn)) (.Attribute e "letter" pos) (fun σ H Q => te σ H fun x H1 => x = .ref a ∧ ∃ v, H1 dd = some (.xd [(("letter" : Str), v)]) ∧ Q v H1) := by
  have h := pe_byAtL (pos := pos) T hz hf he hb
  have eq : tByAtL C a (.ref C) (some dd) te = fun σ H Q => te σ H fun x H1 => x = .ref a ∧ ∃ v, H1 dd = some (.xd [(("letter" : Str), v)]) ∧ Q v H1 := by
    funext σ H Q
    unfold tByAtL
    congr 1
    funext x H1
    refine propext ⟨fun ⟨e1, _, dd', v, e2, e3, q⟩ => ?_, fun ⟨e1, v, e3, q⟩ => ⟨e1, rfl, dd, v, rfl, e3, q⟩⟩
    cases e2
    exact ⟨e1, v, e3, q⟩
  rw [← eq]
  exact h
/-- the defs that may be held, whatever runs -/
structure FDsB (P : Program) (w : World) (K : PySem.W.Frag) (mg : Str → Option Value) (base : Heap) (G : Gx) (j : Nat) (tab : Tab) : Prop where
  get : ∀ x n W f, tab x = some (n, W) → G.ft x = some f → ∃ (k : Nat) (ps : List Str) (fd : FuncData), ps.length = n ∧ k ≤ j ∧ My.FnG P w K mg base (L2.CX P w) k f fd ps (spD K G ps.length W) ∧ PySem.W.keepIn K (.ref f) = true ∧ Binds K fd ps []
  mono : ∀ x n W, tab x = some (n, W) → MonoW W
end Dl
set_option Elab.async false
set_option linter.all false
set_option autoImplicit false
set_option maxRecDepth 100000
set_option maxHeartbeats 2000000
/-! B14: combinations of a text, over data -/
namespace Dl
open PySem PySem.Spec PyProof.Rows L2 Evl Cmb
theorem pi_comb {X : Cx} {a b tg : Expr} {ta : TA} {p pos : Pos} (hg : Gl X "combinations") (hm : X.mg "combinations" = some (.type Cmb.T0)) (ha : PA X [a, b] ta) (hc : X.calm = true := by rfl) (hdb : (("combinations" : Str) == ("__debug__" : Str)) = false := by decide +kernel) (he : starEach [a, b] X.env = (false, eval a X.env) :: starEach [b] X.env := by rfl) (hpl : (backTo pos (starEach [b] X.env)).any (·.1) = false := by rfl) :
    PI X tg (.Call (.Name "combinations" p) [a, b] [] pos) (fun σ H R => ta σ H fun vs H1 => ∃ (z : Str) (r : Nat) (C : List (List Nat)), vs = [.str z, .int (r : Int)] ∧ z.cps.size ≤ 1000 ∧ r ≤ z.cps.size ∧ Chain z.cps.size r C ∧ R (Itc z C) H1) := by
  refine ⟨fun pins s σ H R I h => ?_⟩
  refine wpAny_Call_Name_kw (ld_glob I hg hm ?_ hdb)
  refine PyProof.Rows.callWith_type1 (thn (ha.run pos pins s σ H _ I h) fun us s1 ⟨vs, H1, I1, rv, z, r, C, ev, hz, hr, ch, q⟩ => ?_) he hpl
  subst ev
  cases rv with
  | cons r1 rr =>
    cases rr with
    | cons r2 rr =>
      cases rr
      obtain ⟨t1, rfl⟩ := r1
      obtain ⟨t2, rfl⟩ := r2
      refine call_c (I1.ok.hd hc) hz hr fun hm h' t' pool it items k1 k2 h1 h2 h3 h4 h5 h6 => iter_c h6 ?_
      have I2 : Inv X pins σ H1 { s1 with heap := hm, toks := s1.toks } := I1.kept (t' := s1.toks) k1
      have I3 : Inv X pins σ H1 { s1 with heap := h', toks := t' } := I1.kept (t' := t') fun b o e => k2 b o (k1 b o e)
      refine ⟨it, [it, pool], Tn z C it pool, Itc z C, H1, rfl, I3, turn_c ch it pool, ⟨h2, items, .none, _, h4, h5, .inl ⟨rfl, ch.first, h6⟩⟩, fun b hb => ?_, q⟩
      have hb2 : hm.objs.size ≤ b := by
        have e' : b = it ∨ b = pool := by simpa using hb
        rcases e' with e | e
        · rw [e]; exact h3
        · rw [e]; exact h1
      exact I2.fpOk hb2 (I2.hok.fresh hb2)
def signD (z : Str) (k : Nat) : D := match z.cps[k]? with
  | some c => .str ⟨#[c]⟩
  | none => .non
theorem rps_sign {K : PySem.W.Frag} {G : Gx} {w : Wd} {z : Str} : ∀ c : List Nat, Rps K G w (c.map (signD z)) (c.map (signV z))
  | [] => rfl
  | k :: c => by
    refine ⟨_, _, rfl, ?_, rps_sign c⟩
    unfold signD signV
    cases z.cps[k]? with
    | none => exact rfl
    | some ch => exact ⟨rfl, sign_short ch⟩
theorem walkD_comb {K : PySem.W.Frag} {G : Gx} {w : Wd} {z : Str} {C : List (List Nat)} : WalkD K G w noChk (Itc z C) (C.map fun c => .tup (c.map (signD z))) := by
  refine ⟨fun i w' μ H hi e ok c => ?_, fun w' μ H e ok c => ?_, fun i w' μ H x H' hi e ok c y => ?_⟩
  · show i < C.length
    simpa using hi
  · show C.length ≤ _
    simp
  · obtain ⟨T, cc, rfl, n, hC, rfl⟩ := y
    have t := Stp.new (o := .tup (cc.map (signV z))) ok n
    exact ⟨.tup (cc.map (signD z)), _, by rw [List.getElem?_map, hC]; rfl, t, T, _, rfl, upd_same, rps_sign cc⟩
def dComb (Ta Tb : DTE) : DTI := fun ρ μ EX Q => Ta ρ μ EX fun x μ1 => Tb ρ μ1 EX fun y μ2 => ∃ (z : Str) (r : Nat) (C : List (List Nat)), x = .str z ∧ y = .int (r : Int) ∧ z.cps.size ≤ 1000 ∧ r ≤ z.cps.size ∧ Chain z.cps.size r C ∧ Q (C.map fun c => .tup (c.map (signD z))) noChk μ2
theorem pdi_comb {X : Cx} {G : Gx} {E : XS} {a b tg : Expr} {p pos : Pos} {T U : DTE} (hg : Gl X "combinations") (hm : X.mg "combinations" = some (.type Cmb.T0)) (ha : PD X G E a T) (hb : PD X G E b U) (hc : X.calm = true := by rfl) (he : starEach [a, b] X.env = (false, eval a X.env) :: starEach [b] X.env := by rfl) (hs2 : starEach [b] X.env = [(false, eval b X.env)] := by rfl) (hpl : (backTo pos (starEach [b] X.env)).any (·.1) = false := by rfl) :
    PDi X G E tg (.Call (.Name "combinations" p) [a, b] [] pos) (dComb T U) := by
  obtain ⟨⟨t, pt, r⟩, m⟩ := pda_cons ha (pda_cons hb (pda_nil (X := X) (G := G) (E := E)) hs2) he
  refine ⟨⟨_, pi_comb hg hm pt hc (he := he) (hpl := hpl), fun σ ρ w μ H EX Q sl ok lk q => r σ ρ w μ H EX _ sl ok lk (ha.mono _ _ _ _ _ (fun x μ1 => hb.mono _ _ _ _ _ fun y μ' q1 vs w1 H1 t1 r1 => ?_) q)⟩, fun ρ μ EX Q Q' i q => ha.mono _ _ _ _ _ (fun x μ1 => hb.mono _ _ _ _ _ fun y μ2 ⟨z, r, C, e1, e2, h1, h2, h3, h⟩ => ⟨z, r, C, e1, e2, h1, h2, h3, i _ _ _ h⟩) q⟩
  obtain ⟨z, r, C, rfl, rfl, h1, h2, h3, q1⟩ := q1
  obtain ⟨v, u, rfl, ⟨rfl, _⟩, rfl⟩ := rps2 r1
  exact ⟨z, r, C, rfl, h1, h2, h3, q1 _ w1 H1 t1 walkD_comb⟩
def chainB (n r : Nat) (C : List (List Nat)) : Bool := decide (C[0]? = some (List.range r)) && C.all (fun c => decide (c.length ≤ 1000) && c.all fun k => decide (k < n)) && (List.range C.length).all fun i => decide (stC n (C.getD i []) = C[i + 1]?)
theorem chain_of {n r : Nat} {C : List (List Nat)} (h : chainB n r C = true) : Chain n r C := by
  unfold chainB at h
  rw [Bool.and_eq_true, Bool.and_eq_true, decide_eq_true_iff, List.all_eq_true, List.all_eq_true] at h
  obtain ⟨⟨h1, h2⟩, h3⟩ := h
  refine ⟨h1, fun c m => ?_, fun i c e => ?_⟩
  · have := h2 c m
    rw [Bool.and_eq_true, decide_eq_true_iff, List.all_eq_true] at this
    exact ⟨this.1, fun k mk => of_decide_eq_true (this.2 k mk)⟩
  · have hi := (List.getElem?_eq_some_iff.mp e).1
    have := of_decide_eq_true (h3 i (List.mem_range.mpr hi))
    rwa [List.getD_eq_getElem?_getD, e] at this
example : chainB 4 2 [[0, 1], [0, 2], [0, 3], [1, 2], [1, 3], [2, 3]] = true := by decide +kernel
end Dl
set_option Elab.async false
set_option linter.all false
set_option autoImplicit false
set_option maxRecDepth 100000
set_option maxHeartbeats 2000000
/-! B15: readings worked off -/
namespace Dl
open PySem PySem.Spec PyProof.Rows L2 Evl
theorem drf_non (μ : Mu) : drf μ .non = .non := rfl
theorem drf_bl (μ : Mu) (b : Bool) : drf μ (.bl b) = .bl b := rfl
theorem drf_int (μ : Mu) (b : Int) : drf μ (.int b) = .int b := rfl
theorem drf_str (μ : Mu) (b : Str) : drf μ (.str b) = .str b := rfl
theorem drf_lst (μ : Mu) (b : List D) : drf μ (.lst b) = .lst b := rfl
theorem drf_tup (μ : Mu) (b : List D) : drf μ (.tup b) = .tup b := rfl
theorem drf_scr (μ : Mu) (b : List Int) : drf μ (.scr b) = .scr b := rfl
theorem drf_val (μ : Mu) (b : V) : drf μ (.val b) = .val b := rfl
theorem drf_fn (μ : Mu) (b : Str) : drf μ (.fn b) = .fn b := rfl
theorem drf_exc (μ : Mu) (a dd : Addr) (C : Str) (fs : List (Str × D)) : drf μ (.exc a dd C fs) = .exc a dd C fs := rfl
theorem drf_cel {μ : Mu} {n : Nat} {x : D} (h : μ[n]? = some (some x)) : drf μ (.cel n) = x := by
  show (match μ[n]? with | some (some x) => x | _ => D.cel n) = x
  rw [h]
theorem modD_i (i j : Int) : modD (.int i) (.int j) = if 0 < j then some (.int (i % j)) else none := by
  unfold modD i2
  by_cases h : 0 < j <;> simp [h]
theorem fdivD_i (i j : Int) : fdivD (.int i) (.int j) = if 0 < j ∧ j < 1073741824 then some (.int (i / j)) else none := by
  unfold fdivD i2
  by_cases h : 0 < j ∧ j < 1073741824
  · simp [h]
  · rw [if_neg h]
    simp only [decide_eq_false h, Bool.false_eq_true, if_false]
theorem subD_i (i j : Int) : subD (.int i) (.int j) = some (.int (i - j)) := rfl
theorem addD_i (i j : Int) : addD (.int i) (.int j) = some (.int (i + j)) := rfl
theorem andD_i (i j : Int) : andD (.int i) (.int j) = some (.int (Builtin.bitAnd i j)) := rfl
theorem mulD_i (i j : Int) (h : ((decide (-(2 ^ 64) < i ∧ i < 2 ^ 64)) || decide (-(2 ^ 64) < j ∧ j < 2 ^ 64)) = true) : mulD (.int i) (.int j) = some (.int (i * j)) := by
  show (if _ then _ else _) = _
  rw [if_pos h]
theorem mul_ok {i j : Int} (h : -(2 ^ 64) < j ∧ j < 2 ^ 64) : ((decide (-(2 ^ 64) < i ∧ i < 2 ^ 64)) || decide (-(2 ^ 64) < j ∧ j < 2 ^ 64)) = true := by
  rw [decide_eq_true h, Bool.or_true]
theorem gtD_i (i j : Int) : gtD (.int i) (.int j) = some (.bl (decide (j < i))) := rfl
theorem ltD_i (i j : Int) : ltD (.int i) (.int j) = some (.bl (decide (i < j))) := rfl
theorem geD_i (i j : Int) : geD (.int i) (.int j) = some (.bl (decide (j ≤ i))) := rfl
theorem leD_i (i j : Int) : leD (.int i) (.int j) = some (.bl (decide (i ≤ j))) := rfl
theorem eqD_i (i j : Int) : eqD (.int i) (.int j) = some (.bl (decide (i = j))) := rfl
theorem neD_i (i j : Int) : neD (.int i) (.int j) = some (.bl (!decide (i = j))) := rfl
theorem eqD_s (i j : Str) : eqD (.str i) (.str j) = some (.bl (decide (i = j))) := rfl
theorem neD_s (i j : Str) : neD (.str i) (.str j) = some (.bl (!decide (i = j))) := rfl
theorem intD_i (i : Int) : intD [.int i] = some (.int i) := rfl
theorem absD_i (i : Int) : absD [.int i] = some (.int (if i < 0 then -i else i)) := rfl
theorem ixD_0 (x : D) (xs : List D) : ixD (.lst (x :: xs)) (.int 0) = some x := by
  simp [ixD, atI, ixN]
theorem atI_1 (x y : D) (xs : List D) : atI (x :: y :: xs) 1 = some y := by
  simp [atI, ixN]
  rw [if_pos (by omega)]
  rfl
theorem ixD_1 (x y : D) (xs : List D) : ixD (.lst (x :: y :: xs)) (.int 1) = some y := atI_1 x y xs
theorem ixD_t0 (x : D) (xs : List D) : ixD (.tup (x :: xs)) (.int 0) = some x := by
  simp [ixD, atI, ixN]
theorem ixD_t1 (x y : D) (xs : List D) : ixD (.tup (x :: y :: xs)) (.int 1) = some y := atI_1 x y xs
theorem ixD_nat {xs : List D} {i : Int} {d : D} (h0 : 0 ≤ i) (h : xs[i.toNat]? = some d) : ixD (.lst xs) (.int i) = some d := by
  have hl := (List.getElem?_eq_some_iff.mp h).1
  show atI xs i = some d
  unfold atI ixN
  rw [if_pos h0, if_pos (by omega)]
  exact h
theorem mu_self {μ : Mu} {n : Nat} {x y : Option D} (h : μ[n]? = some x) : (μ.set n y)[n]? = some y := by
  rw [List.getElem?_set_self (List.getElem?_eq_some_iff.mp h).1]
theorem drf_set {μ : Mu} {n : Nat} {x : D} {y : Option D} (h : μ[n]? = some y) : drf (μ.set n (some x)) (.cel n) = x := drf_cel (mu_self h)
theorem mulD_c (i : Int) (j : Int) (h : -(2 ^ 64) < j ∧ j < 2 ^ 64) : mulD (.int i) (.int j) = some (.int (i * j)) := mulD_i i j (mul_ok h)
end Dl
set_option Elab.async false
set_option linter.all false
set_option autoImplicit false
set_option maxRecDepth 100000
set_option maxHeartbeats 2000000
/-! B16: comprehensions and loops by invariants -/
namespace Dl
open PySem PySem.Spec PyProof.Rows L2 Evl
theorem actL_inv {Tg : DTG} {C : DTT} {U : DAct} {ρ0 : DEnv} {chk : Mu → Prop} {Q : List D → Mu → Prop} : ∀ (ds : List D) (I : Nat → List D → Mu → Prop) (acc : List D) (μ : Mu), I 0 acc μ → (∀ i acc μ, I i acc μ → chk μ) →
    (∀ (i : Nat) (d : D) (acc : List D) (μ : Mu) (Q' : List D → Mu → Prop), ds[i]? = some d → I i acc μ → (∀ acc' μ', I (i + 1) acc' μ' → Q' acc' μ') → Tg d ρ0 fun ρ1 => C ρ1 μ NoX fun b μ' => if b = true then U ρ1 μ' acc Q' else Q' acc μ') →
    (∀ acc μ, I ds.length acc μ → Q acc μ) → dActL Tg C U ρ0 chk ds μ acc Q
  | [], I, acc, μ, h0, hc, hs, hq => ⟨hc 0 acc μ h0, hq acc μ h0⟩
  | d :: ds, I, acc, μ, h0, hc, hs, hq => ⟨hc 0 acc μ h0, hs 0 d acc μ (fun acc' μ' => dActL Tg C U ρ0 chk ds μ' acc' Q) rfl h0 fun acc' μ' h =>
      actL_inv ds (fun i => I (i + 1)) acc' μ' h (fun i => hc (i + 1)) (fun i d2 a m Q' e => hs (i + 1) d2 a m Q' (by simpa using e)) hq⟩
/-- nothing changes but the list -/
theorem actL_fm {Tg : DTG} {C : DTT} {U : DAct} {ρ0 : DEnv} {chk : Mu → Prop} {Q : List D → Mu → Prop} {μ : Mu} (p : D → Bool) (f : D → D) : ∀ (ds : List D) (acc : List D), acc.length + ds.length ≤ sizeLine → chk μ →
    (∀ d ∈ ds, ∀ (acc : List D) (Q' : List D → Mu → Prop), acc.length < sizeLine → Q' (if p d = true then acc ++ [f d] else acc) μ → Tg d ρ0 fun ρ1 => C ρ1 μ NoX fun b μ' => if b = true then U ρ1 μ' acc Q' else Q' acc μ') →
    Q (acc ++ (ds.filter p).map f) μ → dActL Tg C U ρ0 chk ds μ acc Q
  | [], acc, hl, hc, hs, hq => ⟨hc, by simpa using hq⟩
  | d :: ds, acc, hl, hc, hs, hq => ⟨hc, hs d List.mem_cons_self acc (fun acc' μ' => dActL Tg C U ρ0 chk ds μ' acc' Q) (by simp at hl; omega) (by
      refine actL_fm p f ds _ ?_ hc (fun d2 m => hs d2 (List.mem_cons_of_mem _ m)) ?_
      · simp at hl
        by_cases q : p d = true
        · rw [if_pos q, List.length_append]
          simp only [List.length_cons, List.length_nil]
          omega
        · rw [if_neg q]
          omega
      · by_cases q : p d = true
        · rw [if_pos q]
          rw [List.filter_cons_of_pos q, List.map_cons] at hq
          simpa using hq
        · rw [if_neg q]
          rw [List.filter_cons_of_neg q] at hq
          exact hq)⟩
/-- .. over the images of a list -/
theorem actL_g {α : Type} {Tg : DTG} {C : DTT} {U : DAct} {ρ0 : DEnv} {chk : Mu → Prop} {Q : List D → Mu → Prop} {μ : Mu} (g : α → D) (p : α → Bool) (f : α → D) : ∀ (ds : List α) (acc : List D), acc.length + ds.length ≤ sizeLine → chk μ →
    (∀ d ∈ ds, ∀ (acc : List D) (Q' : List D → Mu → Prop), acc.length < sizeLine → Q' (if p d = true then acc ++ [f d] else acc) μ → Tg (g d) ρ0 fun ρ1 => C ρ1 μ NoX fun b μ' => if b = true then U ρ1 μ' acc Q' else Q' acc μ') →
    Q (acc ++ (ds.filter p).map f) μ → dActL Tg C U ρ0 chk (ds.map g) μ acc Q
  | [], acc, hl, hc, hs, hq => ⟨hc, by simpa using hq⟩
  | d :: ds, acc, hl, hc, hs, hq => ⟨hc, hs d List.mem_cons_self acc (fun acc' μ' => dActL Tg C U ρ0 chk (ds.map g) μ' acc' Q) (by simp at hl; omega) (by
      refine actL_g g p f ds _ ?_ hc (fun d2 m => hs d2 (List.mem_cons_of_mem _ m)) ?_
      · simp at hl
        by_cases q : p d = true
        · rw [if_pos q, List.length_append]
          simp only [List.length_cons, List.length_nil]
          omega
        · rw [if_neg q]
          omega
      · by_cases q : p d = true
        · rw [if_pos q]
          rw [List.filter_cons_of_pos q, List.map_cons] at hq
          simpa using hq
        · rw [if_neg q]
          rw [List.filter_cons_of_neg q] at hq
          exact hq)⟩
/-- .. and then the rest -/
theorem actL_gr {α : Type} {Tg : DTG} {C : DTT} {U : DAct} {ρ0 : DEnv} {chk : Mu → Prop} {Q : List D → Mu → Prop} {μ : Mu} {rest : List D} (g : α → D) (p : α → Bool) (f : α → D) : ∀ (ds : List α) (acc : List D), acc.length + ds.length ≤ sizeLine → chk μ →
    (∀ d ∈ ds, ∀ (acc : List D) (Q' : List D → Mu → Prop), acc.length < sizeLine → Q' (if p d = true then acc ++ [f d] else acc) μ → Tg (g d) ρ0 fun ρ1 => C ρ1 μ NoX fun b μ' => if b = true then U ρ1 μ' acc Q' else Q' acc μ') →
    dActL Tg C U ρ0 chk rest μ (acc ++ (ds.filter p).map f) Q → dActL Tg C U ρ0 chk (ds.map g ++ rest) μ acc Q
  | [], acc, hl, hc, hs, hq => by simpa using hq
  | d :: ds, acc, hl, hc, hs, hq => ⟨hc, hs d List.mem_cons_self acc (fun acc' μ' => dActL Tg C U ρ0 chk (ds.map g ++ rest) μ' acc' Q) (by simp at hl; omega) (by
      refine actL_gr g p f ds _ ?_ hc (fun d2 m => hs d2 (List.mem_cons_of_mem _ m)) ?_
      · simp at hl
        by_cases q : p d = true
        · rw [if_pos q, List.length_append]
          simp only [List.length_cons, List.length_nil]
          omega
        · rw [if_neg q]
          omega
      · by_cases q : p d = true
        · rw [if_pos q]
          rw [List.filter_cons_of_pos q, List.map_cons] at hq
          simpa using hq
        · rw [if_neg q]
          rw [List.filter_cons_of_neg q] at hq
          exact hq)⟩
theorem loop_inv {Tg : DTG} {B : DTS} {chk : Mu → Prop} {A : DEnds} : ∀ (ds : List D) (I : Nat → DEnv → Mu → Prop) (ρ : DEnv) (μ : Mu), I 0 ρ μ → (∀ i ρ μ, I i ρ μ → chk μ) →
    (∀ (i : Nat) (d : D) (ρ : DEnv) (μ : Mu) (K : DEnv → Mu → Prop), ds[i]? = some d → I i ρ μ → (∀ ρ μ, I (i + 1) ρ μ → K ρ μ) → Tg d ρ fun ρ' => B { A with nx := K, ct := K, bk := A.nx } ρ' μ) →
    (∀ ρ μ, I ds.length ρ μ → A.nx ρ μ) → dLoop Tg B chk A ds ρ μ
  | [], I, ρ, μ, h0, hc, hs, hq => ⟨hc 0 ρ μ h0, hq ρ μ h0⟩
  | d :: ds, I, ρ, μ, h0, hc, hs, hq => ⟨hc 0 ρ μ h0, hs 0 d ρ μ (dLoop Tg B chk A ds) rfl h0 fun ρ' μ' h =>
      loop_inv ds (fun i => I (i + 1)) ρ' μ' h (fun i => hc (i + 1)) (fun i d2 a m K e => hs (i + 1) d2 a m K (by simpa using e)) hq⟩
theorem for_var {i : Nat} {d : D} {ρ : DEnv} {Tg : DTG} {B : DTS} {A : DEnds} {μ : Mu} (h : ρ[i]? = some (some d)) : dFor (dIter (dVar i)) Tg B A ρ μ = dSrc d μ fun ds chk μ' => dLoop Tg B chk A ds ρ μ' := by
  unfold dFor dIter dVar
  rw [h]
theorem lcX_src {i : Nat} {d : D} {xs : List D} {ρ : DEnv} {Tg : DTG} {C : DTT} {T : DTE} {vs : List Nat} {μ : Mu} {EX : EXt} {Q : D → Mu → Prop} (h : ρ[i]? = some (some d)) (hs : ∀ (μ : Mu) (Q : List D → (Mu → Prop) → Mu → Prop), dSrc d μ Q = Q xs noChk μ) :
    dLcX (dIter (dVar i)) Tg C T vs ρ μ EX Q = dActL Tg C (uAddX T fun _ => EX ρ) (wipeD ρ vs) noChk xs μ [] fun out μ2 => Q (.lst out) μ2 := by
  unfold dLcX dIter dVar
  rw [h]
  exact hs μ _
theorem lc_src {i : Nat} {d : D} {xs : List D} {ρ : DEnv} {Tg : DTG} {C : DTT} {T : DTE} {vs : List Nat} {μ : Mu} {EX : EXt} {Q : D → Mu → Prop} (h : ρ[i]? = some (some d)) (hs : ∀ (μ : Mu) (Q : List D → (Mu → Prop) → Mu → Prop), dSrc d μ Q = Q xs noChk μ) :
    dLc (dIter (dVar i)) Tg C T vs ρ μ EX Q = dActL Tg C (uAdd T) (wipeD ρ vs) noChk xs μ [] fun out μ2 => Q (.lst out) μ2 := by
  unfold dLc dLcA dIter dVar
  rw [h]
  exact hs μ _
/-- the signs of a text, as texts -/
def sg (z : Str) : List Str := z.cps.toList.map fun c => ⟨#[c]⟩
theorem signs_sg (z : Str) : signs z = (sg z).map D.str := by
  unfold signs sg
  rw [List.map_map]
  rfl
theorem sg_len (z : Str) : (sg z).length = z.length := by
  unfold sg
  rw [List.length_map, Array.length_toList]
  rfl
theorem dSrc_str (z : Str) (μ : Mu) (Q : List D → (Mu → Prop) → Mu → Prop) : dSrc (.str z) μ Q = Q ((sg z).map D.str) noChk μ := by
  show Q (signs z) noChk μ = _
  rw [signs_sg]
theorem dSrc_lst (z : List D) (μ : Mu) (Q : List D → (Mu → Prop) → Mu → Prop) : dSrc (.lst z) μ Q = Q z noChk μ := rfl
theorem dSrc_tup (z : List D) (μ : Mu) (Q : List D → (Mu → Prop) → Mu → Prop) : dSrc (.tup z) μ Q = Q z noChk μ := rfl
theorem filter_map_str (p : D → Bool) (l : List Str) : (l.map D.str).filter p = (l.filter fun s => p (.str s)).map D.str := by
  rw [List.filter_map]
  rfl
theorem bls_map {α : Type} (h : α → Bool) : ∀ l : List α, bls (l.map fun s => D.bl (h s)) = some (l.map h)
  | [] => rfl
  | a :: l => by
    show (bls (l.map fun s => D.bl (h s))).map (fun t => h a :: t) = _
    rw [bls_map h l]
    rfl
theorem allD_map {α : Type} (h : α → Bool) (l : List α) : allD [.lst (l.map fun s => D.bl (h s))] = some (.bl (l.all h)) := by
  show (bls _).map _ = _
  rw [bls_map]
  simp
theorem anyD_map {α : Type} (h : α → Bool) (l : List α) : anyD [.lst (l.map fun s => D.bl (h s))] = some (.bl (l.any h)) := by
  show (bls _).map _ = _
  rw [bls_map]
  simp
theorem txts_map : ∀ l : List Str, txts (l.map D.str) = some l
  | [] => rfl
  | a :: l => by
    show (txts (l.map D.str)).map (fun t => a :: t) = _
    rw [txts_map l]
    rfl
theorem inD_s (a b : Str) : inD (.str a) (.str b) = some (.bl (hasS a b)) := rfl
theorem notInD_s (a b : Str) : notInD (.str a) (.str b) = some (.bl (!hasS a b)) := rfl
theorem lenD_s (a : Str) : lenD [.str a] = some (.int a.length) := rfl
theorem lenD_l (a : List D) : lenD [.lst a] = some (.int a.length) := rfl
theorem fT {α : Type} (l : List α) : l.filter (fun _ => true) = l := List.filter_eq_self.mpr fun _ _ => rfl
end Dl
set_option Elab.async false
set_option linter.all false
set_option autoImplicit false
set_option maxRecDepth 100000
set_option maxHeartbeats 2000000
/-! B17: text.join(a text) -/
namespace Dl
open PySem PySem.Spec PyProof.Rows L2 Evl
def rJoinS : V → List V → Hp → VK → Prop := fun x xs H Q => ∃ a b : Str, x = .str a ∧ xs = [.str b] ∧ JoinOk a (PyProof.Rows.signs b) = true ∧ Q (.str (Txt.join a (PyProof.Rows.signs b))) H
theorem mt_joinS {X : Cx} (hc : X.calm = true) : MtR X "str.join" rJoinS := by
  intro pins s σ H x xs v us Q I rx rs h
  obtain ⟨a, b, rfl, rfl, hok, h⟩ := h
  obtain ⟨t, rfl⟩ := rx
  cases rs with
  | cons r1 rs =>
    cases rs
    obtain ⟨u, rfl⟩ := r1
    exact PySem.SC.joinStr (I.ok.hd hc) hok fun h' k t' kp => ⟨.str _, H, I.kept (t' := k) kp, ⟨t', rfl⟩, h⟩
def dJoinS (Ta Tb : DTE) : DTE := fun ρ μ EX Q => Ta ρ μ EX fun x μ1 => ∃ a, x = .str a ∧ Tb ρ μ1 EX fun y μ2 => ∃ b, y = .str b ∧ JoinOk a (PyProof.Rows.signs b) = true ∧ (Txt.join a (PyProof.Rows.signs b)).length ≤ sizeLine ∧ Q (.str (Txt.join a (PyProof.Rows.signs b))) μ2
theorem pd_joinS {X : Cx} {G : Gx} {E : XS} {o e : Expr} {apos cpos : Pos} {Ta Tb : DTE} (ha : PD X G E o Ta) (hb : PD X G E e Tb) (hc : X.calm = true := by rfl) (hs : starEach [e] X.env = [(false, eval e X.env)] := by rfl) (hbase : attributeBase o "join" X.env (eval o X.env) = eval o X.env := by rfl) (hline : (apos.endLine == cpos.line) = true := by rfl) :
    PD X G E (.Call (.Attribute o "join" apos) [e] [] cpos) (dJoinS Ta Tb) := by
  obtain ⟨⟨ta, pa, ra⟩, ma⟩ := ha
  obtain ⟨⟨tb, pb, rb⟩, mb⟩ := hb
  refine ⟨⟨_, pe_m1 F.slot_str_join F.type_str_join (mt_joinS hc) pa pb hs hbase hline, fun σ ρ w μ H EX Q sl ok lk q => ?_⟩, fun ρ μ EX Q Q' i q => ma _ _ _ _ _ (fun x μ1 ⟨z, e, h⟩ => ⟨z, e, mb _ _ _ _ _ (fun y μ2 ⟨b, e2, h2, h3, q⟩ => ⟨b, e2, h2, h3, i _ _ q⟩) h⟩) q⟩
  refine ra σ ρ w μ H EX _ sl ok lk (ma _ _ _ _ _ (fun x μ1 q1 v w1 H1 t1 r1 => ?_) q)
  obtain ⟨a, rfl, q1⟩ := q1
  obtain ⟨rfl, _⟩ := r1
  refine ⟨⟨a, rfl⟩, rb σ ρ w1 μ1 H1 EX _ (sl.le t1.le) t1.ok (lk.step t1) (mb _ _ _ _ _ (fun y μ2 q2 u w2 H2 t2 r2 => ?_) q1)⟩
  obtain ⟨b, rfl, h2, h3, q2⟩ := q2
  obtain ⟨rfl, _⟩ := r2
  exact ⟨a, b, rfl, rfl, h2, q2 _ w2 H2 (t1.trans t2) ⟨rfl, h3⟩⟩
end Dl
set_option Elab.async false
set_option linter.all false
set_option autoImplicit false
set_option maxRecDepth 100000
set_option maxHeartbeats 4000000
namespace K65
open PySem PySem.Spec PyProof.Rows L2 Evl Dl
def top (i : Nat) : Stmt := PySem.Challenge.pw_rueless_k65_least_sets_that_meet.main.body.getD i (.Pass ⟨0, 0, 0, 0⟩)
structure Txt (K : PySem.W.Frag) (mg : Str → Option Value) (G : Gx) : Prop where
  b_abs : mg "abs" = none
  b_all : mg "all" = none
  b_any : mg "any" = none
  b_int : mg "int" = none
  b_isinstance : mg "isinstance" = none
  b_len : mg "len" = none
  b_list : mg "list" = none
  b_range : mg "range" = none
  b_repr : mg "repr" = none
  b_sorted : mg "sorted" = none
  b_str : mg "str" = none
  b_tuple : mg "tuple" = none
  g_KINDS : ∃ u, mg "KINDS" = some u ∧ RelV (.str "abcd") u
  c_combinations : mg "combinations" = some (.type Cmb.T0)
structure At (mg : Str → Option Value) (G : Gx) (x : Str) where
  a : Addr
  m : mg x = some (.ref a)
  f : G.ft x = some a
section
variable {P : Program} {w : World} {K : PySem.W.Frag} {mg : Str → Option Value} {base : Heap} {G : Gx}

/-! is_sequence -/
abbrev s_isSeq : Stmt := (top 5)
abbrev n_isSeq : List Str := ["value"]
abbrev p_isSeq : List Str := ["value"]
theorem sc_isSeq : FnScope n_isSeq p_isSeq (defScope s_isSeq) := ⟨rfl, rfl, rfl, by decide +kernel, rfl, by decide +kernel, by decide +kernel⟩
def T_isSeq  : DTS := (dRet (dCB isiD (dCons (dVar 0) (dCons (dTup (dCons (dC (.val (.ty "list"))) (dCons (dC (.val (.ty "tuple"))) dNil))) dNil))))
theorem der_isSeq (Fa : Txt K mg G)   {f : Addr} (cdv : Value) (A : Around) (outer : List Env) (s : Shared) (H : Hp) (E : XK) (gd0 : A.guards = some []) (hr : Room 0 (A.deeper (envOfC "is_sequence" (defScope s_isSeq) s.heap.objs.size f cdv))) :
    PSDs (cxOf (L2.CX P w) P w K mg base n_isSeq "is_sequence" (defScope s_isSeq) f cdv A outer s H E) G (fun _ => E) (defBody s_isSeq) (T_isSeq ) := by
  have gd : (cxOf (L2.CX P w) P w K mg base n_isSeq "is_sequence" (defScope s_isSeq) f cdv A outer s H E).A.guards = some [] := gd0
  have tk : TkS (cxOf (L2.CX P w) P w K mg base n_isSeq "is_sequence" (defScope s_isSeq) f cdv A outer s H E) (fun _ => E) := takes_of rfl rfl rfl rfl
  exact (psd_one (psd_ret (pd_cb (fun ta pa => pe_callB cr_isiA (by rfl) Fa.b_isinstance (by decide +kernel) pa) isiD_ok (pda_cons (pd_var (pv 0)) (pda_cons (pd_tup (pda_cons (pd_ty (by rfl) Fa.b_list (by decide +kernel)) (pda_cons (pd_ty (by rfl) Fa.b_tuple (by decide +kernel)) pda_nil))) pda_nil)))))
def raw_isSeq (Fa : Txt K mg G) (R : RawFn K mg "is_sequence" s_isSeq p_isSeq)   : FD P w K mg base G "is_sequence" 1 p_isSeq (clW (dwp n_isSeq.length (T_isSeq ))) :=
  FD.ofRaw R sc_isSeq (by decide) fun cdv A outer s H E gd hr => der_isSeq Fa  cdv A outer s H E gd hr
/-! lies_in -/
abbrev s_liesIn : Stmt := (top 6)
abbrev n_liesIn : List Str := ["some", "others", "one"]
abbrev p_liesIn : List Str := ["some", "others"]
theorem sc_liesIn : FnScope n_liesIn p_liesIn (defScope s_liesIn) := ⟨rfl, rfl, rfl, by decide +kernel, rfl, by decide +kernel, by decide +kernel⟩
def T_liesIn  : DTS := (dRet (dCB allD (dCons (dLc (dIter (dVar 0)) (gN 2) dYes (dOp2 inD (dVar 2) (dVar 1)) [2]) dNil)))
theorem der_liesIn (Fa : Txt K mg G)   {f : Addr} (cdv : Value) (A : Around) (outer : List Env) (s : Shared) (H : Hp) (E : XK) (gd0 : A.guards = some []) (hr : Room 0 (A.deeper (envOfC "lies_in" (defScope s_liesIn) s.heap.objs.size f cdv))) :
    PSDs (cxOf (L2.CX P w) P w K mg base n_liesIn "lies_in" (defScope s_liesIn) f cdv A outer s H E) G (fun _ => E) (defBody s_liesIn) (T_liesIn ) := by
  have gd : (cxOf (L2.CX P w) P w K mg base n_liesIn "lies_in" (defScope s_liesIn) f cdv A outer s H E).A.guards = some [] := gd0
  have tk : TkS (cxOf (L2.CX P w) P w K mg base n_liesIn "lies_in" (defScope s_liesIn) f cdv A outer s H E) (fun _ => E) := takes_of rfl rfl rfl rfl
  exact (psd_one (psd_ret (pd_cb (fun ta pa => pe_callB (cr_all rfl) (by rfl) Fa.b_all (by decide +kernel) pa) allD_ok (pda_cons (pd_lc (own := [("one", 2)]) rfl sc_liesIn.nd (blkOk_by (N := n_liesIn) (sc := defScope s_liesIn) (by decide +kernel)) (pdi (pd_var (pv 0))) (fun i1 => (pdg_name (i := 2) sc_liesIn.nd rfl (by first | exact Or.inl rfl | exact Or.inr rfl))) (fun i1 => pdts_nil) (fun i1 => (pd_cmp (opr_in hr.u65) inD_ok (pd_var (pv 2)) (pd_var (pv 1)) (by with_unfolding_all rfl)))) pda_nil))))
def raw_liesIn (Fa : Txt K mg G) (R : RawFn K mg "lies_in" s_liesIn p_liesIn)   : FD P w K mg base G "lies_in" 1 p_liesIn (clW (dwp n_liesIn.length (T_liesIn ))) :=
  FD.ofRaw R sc_liesIn (by decide) fun cdv A outer s H E gd hr => der_liesIn Fa  cdv A outer s H E gd hr
/-! is_sign -/
abbrev s_isSign : Stmt := (top 7)
abbrev n_isSign : List Str := ["value", "signs"]
abbrev p_isSign : List Str := ["value", "signs"]
theorem sc_isSign : FnScope n_isSign p_isSign (defScope s_isSign) := ⟨rfl, rfl, rfl, by decide +kernel, rfl, by decide +kernel, by decide +kernel⟩
def T_isSign  : DTS := (dRet (dAndV (dCB isiD (dCons (dVar 0) (dCons (dC (.val (.ty "str"))) dNil))) (dAndV (dOp2 eqD (dCB lenD (dCons (dVar 0) dNil)) (dC (.int 1))) (dOp2 inD (dVar 0) (dVar 1)))))
theorem der_isSign (Fa : Txt K mg G)   {f : Addr} (cdv : Value) (A : Around) (outer : List Env) (s : Shared) (H : Hp) (E : XK) (gd0 : A.guards = some []) (hr : Room 0 (A.deeper (envOfC "is_sign" (defScope s_isSign) s.heap.objs.size f cdv))) :
    PSDs (cxOf (L2.CX P w) P w K mg base n_isSign "is_sign" (defScope s_isSign) f cdv A outer s H E) G (fun _ => E) (defBody s_isSign) (T_isSign ) := by
  have gd : (cxOf (L2.CX P w) P w K mg base n_isSign "is_sign" (defScope s_isSign) f cdv A outer s H E).A.guards = some [] := gd0
  have tk : TkS (cxOf (L2.CX P w) P w K mg base n_isSign "is_sign" (defScope s_isSign) f cdv A outer s H E) (fun _ => E) := takes_of rfl rfl rfl rfl
  exact (psd_one (psd_ret (pd_and (pd_cb (fun ta pa => pe_callB cr_isiA (by rfl) Fa.b_isinstance (by decide +kernel) pa) isiD_ok (pda_cons (pd_var (pv 0)) (pda_cons (pd_ty (by rfl) Fa.b_str (by decide +kernel)) pda_nil))) (pd_and (pd_cmp (OpR.or op_eq (op_eqD hr.u64)) eqD_ok (pd_cb (fun ta pa => pe_callB call_len (by rfl) Fa.b_len (by decide +kernel) pa) lenD_ok (pda_cons (pd_var (pv 0)) pda_nil)) pd_int (by with_unfolding_all rfl)) (pd_one (pd_cmp (opr_in hr.u65) inD_ok (pd_var (pv 0)) (pd_var (pv 1)) (by with_unfolding_all rfl)))))))
def raw_isSign (Fa : Txt K mg G) (R : RawFn K mg "is_sign" s_isSign p_isSign)   : FD P w K mg base G "is_sign" 1 p_isSign (clW (dwp n_isSign.length (T_isSign ))) :=
  FD.ofRaw R sc_isSign (by decide) fun cdv A outer s H E gd hr => der_isSign Fa  cdv A outer s H E gd hr
/-! _have_common -/
abbrev s_haveCom : Stmt := (top 16)
abbrev n_haveCom : List Str := ["one", "other", "kind"]
abbrev p_haveCom : List Str := ["one", "other"]
theorem sc_haveCom : FnScope n_haveCom p_haveCom (defScope s_haveCom) := ⟨rfl, rfl, rfl, by decide +kernel, rfl, by decide +kernel, by decide +kernel⟩
def T_haveCom  : DTS := (dRet (dCB anyD (dCons (dLc (dIter (dVar 0)) (gN 2) dYes (dOp2 inD (dVar 2) (dVar 1)) [2]) dNil)))
theorem der_haveCom (Fa : Txt K mg G)   {f : Addr} (cdv : Value) (A : Around) (outer : List Env) (s : Shared) (H : Hp) (E : XK) (gd0 : A.guards = some []) (hr : Room 0 (A.deeper (envOfC "_have_common" (defScope s_haveCom) s.heap.objs.size f cdv))) :
    PSDs (cxOf (L2.CX P w) P w K mg base n_haveCom "_have_common" (defScope s_haveCom) f cdv A outer s H E) G (fun _ => E) (defBody s_haveCom) (T_haveCom ) := by
  have gd : (cxOf (L2.CX P w) P w K mg base n_haveCom "_have_common" (defScope s_haveCom) f cdv A outer s H E).A.guards = some [] := gd0
  have tk : TkS (cxOf (L2.CX P w) P w K mg base n_haveCom "_have_common" (defScope s_haveCom) f cdv A outer s H E) (fun _ => E) := takes_of rfl rfl rfl rfl
  exact (psd_one (psd_ret (pd_cb (fun ta pa => pe_callB (cr_any rfl) (by rfl) Fa.b_any (by decide +kernel) pa) anyD_ok (pda_cons (pd_lc (own := [("kind", 2)]) rfl sc_haveCom.nd (blkOk_by (N := n_haveCom) (sc := defScope s_haveCom) (by decide +kernel)) (pdi (pd_var (pv 0))) (fun i1 => (pdg_name (i := 2) sc_haveCom.nd rfl (by first | exact Or.inl rfl | exact Or.inr rfl))) (fun i1 => pdts_nil) (fun i1 => (pd_cmp (opr_in hr.u65) inD_ok (pd_var (pv 2)) (pd_var (pv 1)) (by with_unfolding_all rfl)))) pda_nil))))
def raw_haveCom (Fa : Txt K mg G) (R : RawFn K mg "_have_common" s_haveCom p_haveCom)   : FD P w K mg base G "_have_common" 1 p_haveCom (clW (dwp n_haveCom.length (T_haveCom ))) :=
  FD.ofRaw R sc_haveCom (by decide) fun cdv A outer s H E gd hr => der_haveCom Fa  cdv A outer s H E gd hr
/-! _law_draw -/
abbrev s_lDraw : Stmt := (top 19)
abbrev n_lDraw : List Str := ["well", "many", "figure", "mixed"]
abbrev p_lDraw : List Str := ["well", "many"]
theorem sc_lDraw : FnScope n_lDraw p_lDraw (defScope s_lDraw) := ⟨rfl, rfl, rfl, by decide +kernel, rfl, by decide +kernel, by decide +kernel⟩
def T_lDraw  : DTS := (dSeq (dIfS (dTst (dOp2 gtD (dOp2 ixD (dVar 0) (dC (.int 0))) (dC (.int 0)))) (dSeq (dSet 2 (dOp2 modD (dCB intD (dCons (dOp2 ixD (dVar 0) (dC (.int 0))) dNil)) (dVar 1)))
  (dSeq (dSetI (dOp2 fdivD (dOp2 ixD (dVar 0) (dC (.int 0))) (dVar 1)) (dVar 0) (dC (.int 0)))
  (dRet (dVar 2)))) dNx)
  (dSeq (dSetI (dOp2 modD (dCB intD (dCons (dOp2 addD (dOp2 mulD (dOp2 ixD (dVar 0) (dC (.int 1))) (dC (.int 48271))) (dC (.int 11))) dNil)) (dC (.int 2147483647))) (dVar 0) (dC (.int 1)))
  (dSeq (dSet 3 (dOp2 modD (dCB intD (dCons (dOp2 mulD (dOp2 addD (dOp2 fdivD (dOp2 ixD (dVar 0) (dC (.int 1))) (dC (.int 7))) (dOp2 ixD (dVar 0) (dC (.int 1)))) (dC (.int 69621))) dNil)) (dC (.int 2147483563))))
  (dRet (dOp2 modD (dCB intD (dCons (dOp2 fdivD (dVar 3) (dC (.int 1021))) dNil)) (dVar 1))))))
theorem der_lDraw (Fa : Txt K mg G)   {f : Addr} (cdv : Value) (A : Around) (outer : List Env) (s : Shared) (H : Hp) (E : XK) (gd0 : A.guards = some []) (hr : Room 0 (A.deeper (envOfC "_law_draw" (defScope s_lDraw) s.heap.objs.size f cdv))) :
    PSDs (cxOf (L2.CX P w) P w K mg base n_lDraw "_law_draw" (defScope s_lDraw) f cdv A outer s H E) G (fun _ => E) (defBody s_lDraw) (T_lDraw ) := by
  have gd : (cxOf (L2.CX P w) P w K mg base n_lDraw "_law_draw" (defScope s_lDraw) f cdv A outer s H E).A.guards = some [] := gd0
  have tk : TkS (cxOf (L2.CX P w) P w K mg base n_lDraw "_law_draw" (defScope s_lDraw) f cdv A outer s H E) (fun _ => E) := takes_of rfl rfl rfl rfl
  exact (psd_cons (psd_if (pdt_cmp (OpR.or op_gt (op_gtD hr.u64)) gtD_ok (pd_ix (pd_var (pv 0)) pd_int) pd_int (by with_unfolding_all rfl)) (psd_cons (psd_set (i := 2) sc_lDraw.nd rfl (by first | exact Or.inl rfl | exact Or.inr rfl) (pd_op op_mod modD_ok (pd_cb (fun ta pa => pe_callTy call_int1 (by rfl) Fa.b_int (by decide +kernel) pa) intD_ok (pda_cons (pd_ix (pd_var (pv 0)) pd_int) pda_nil)) (pd_var (pv 1))))
  (psd_cons (psd_setI (pd_op op_fdiv fdivD_ok (pd_ix (pd_var (pv 0)) pd_int) (pd_var (pv 1))) (pd_var (pv 0)) pd_int (fun te to ti pe po pi => ps_asg pe (pg_sub po pi set_list)))
  (psd_one (psd_ret (pd_var (pv 2)))))) psd_nil)
  (psd_cons (psd_setI (pd_op op_mod modD_ok (pd_cb (fun ta pa => pe_callTy call_int1 (by rfl) Fa.b_int (by decide +kernel) pa) intD_ok (pda_cons (pd_op opr_add addD_ok (pd_op opr_mul mulD_ok (pd_ix (pd_var (pv 0)) pd_int) pd_int) pd_int) pda_nil)) pd_int) (pd_var (pv 0)) pd_int (fun te to ti pe po pi => ps_asg pe (pg_sub po pi set_list)))
  (psd_cons (psd_set (i := 3) sc_lDraw.nd rfl (by first | exact Or.inl rfl | exact Or.inr rfl) (pd_op op_mod modD_ok (pd_cb (fun ta pa => pe_callTy call_int1 (by rfl) Fa.b_int (by decide +kernel) pa) intD_ok (pda_cons (pd_op opr_mul mulD_ok (pd_op opr_add addD_ok (pd_op op_fdiv fdivD_ok (pd_ix (pd_var (pv 0)) pd_int) pd_int) (pd_ix (pd_var (pv 0)) pd_int)) pd_int) pda_nil)) pd_int))
  (psd_one (psd_ret (pd_op op_mod modD_ok (pd_cb (fun ta pa => pe_callTy call_int1 (by rfl) Fa.b_int (by decide +kernel) pa) intD_ok (pda_cons (pd_op op_fdiv fdivD_ok (pd_var (pv 3)) pd_int) pda_nil)) (pd_var (pv 1))))))))
def raw_lDraw (Fa : Txt K mg G) (R : RawFn K mg "_law_draw" s_lDraw p_lDraw)   : FD P w K mg base G "_law_draw" 1 p_lDraw (clW (dwp n_lDraw.length (T_lDraw ))) :=
  FD.ofRaw R sc_lDraw (by decide) fun cdv A outer s H E gd hr => der_lDraw Fa  cdv A outer s H E gd hr
/-! _law_well -/
abbrev s_lWell : Stmt := (top 18)
abbrev n_lWell : List Str := ["script", "k", "seed", "cell"]
abbrev p_lWell : List Str := ["script", "k"]
theorem sc_lWell : FnScope n_lWell p_lWell (defScope s_lWell) := ⟨rfl, rfl, rfl, by decide +kernel, rfl, by decide +kernel, by decide +kernel⟩
def T_lWell  : DTS := (dSeq (dIfS (dAnd (dTst (dOp2 ltD (dVar 1) (dCB lenD (dCons (dVar 0) dNil)))) (dTst (dOp2 geD (dCB absD (dCons (dCB intD (dCons (dOp2 ixD (dVar 0) (dVar 1)) dNil)) dNil)) (dOp2 powD (dC (.int 10)) (dC (.int 18)))))) (dRet (dLstC (dCons (dCB absD (dCons (dCB intD (dCons (dOp2 ixD (dVar 0) (dVar 1)) dNil)) dNil)) (dCons (dOp2 addD (dOp2 mulD (dC (.int 7)) (dVar 1)) (dC (.int 3))) dNil)))) dNx)
  (dSeq (dSet 2 (dOp2 addD (dOp2 mulD (dC (.int 977)) (dVar 1)) (dC (.int 41))))
  (dSeq (dFor (dIter (dSl (dVar 0) dNoPart (dPart (dC (.int 40))))) (gN 3) (dSet 2 (dOp2 addD (dOp2 modD (dCB intD (dCons (dOp2 addD (dOp2 mulD (dVar 2) (dC (.int 16807))) (dOp2 modD (dCB intD (dCons (dCB absD (dCons (dCB intD (dCons (dVar 3) dNil)) dNil)) dNil)) (dC (.int 1000003)))) dNil)) (dC (.int 2147483629))) (dC (.int 1)))))
  (dRet (dLstC (dCons (dC (.int 0)) (dCons (dVar 2) dNil)))))))
theorem der_lWell (Fa : Txt K mg G)   {f : Addr} (cdv : Value) (A : Around) (outer : List Env) (s : Shared) (H : Hp) (E : XK) (gd0 : A.guards = some []) (hr : Room 0 (A.deeper (envOfC "_law_well" (defScope s_lWell) s.heap.objs.size f cdv))) :
    PSDs (cxOf (L2.CX P w) P w K mg base n_lWell "_law_well" (defScope s_lWell) f cdv A outer s H E) G (fun _ => E) (defBody s_lWell) (T_lWell ) := by
  have gd : (cxOf (L2.CX P w) P w K mg base n_lWell "_law_well" (defScope s_lWell) f cdv A outer s H E).A.guards = some [] := gd0
  have hp : PassesOwn (model P w) (cxOf (L2.CX P w) P w K mg base n_lWell "_law_well" (defScope s_lWell) f cdv A outer s H E).A (cxOf (L2.CX P w) P w K mg base n_lWell "_law_well" (defScope s_lWell) f cdv A outer s H E).env (cxOf (L2.CX P w) P w K mg base n_lWell "_law_well" (defScope s_lWell) f cdv A outer s H E).xe := passes_of rfl
  have tk : TkS (cxOf (L2.CX P w) P w K mg base n_lWell "_law_well" (defScope s_lWell) f cdv A outer s H E) (fun _ => E) := takes_of rfl rfl rfl rfl
  exact (psd_cons (psd_if (pdt_w (pdw_and (pdt_cmp (OpR.or op_lt (op_ltD hr.u64)) ltD_ok (pd_var (pv 1)) (pd_cb (fun ta pa => pe_callB call_len (by rfl) Fa.b_len (by decide +kernel) pa) lenD_ok (pda_cons (pd_var (pv 0)) pda_nil)) (by with_unfolding_all rfl)) (pdw_and1 (pdt_cmp (OpR.or op_ge (op_geD hr.u64)) geD_ok (pd_cb (fun ta pa => pe_callB call_abs (by rfl) Fa.b_abs (by decide +kernel) pa) absD_ok (pda_cons (pd_cb (fun ta pa => pe_callTy call_int1 (by rfl) Fa.b_int (by decide +kernel) pa) intD_ok (pda_cons (pd_ix (pd_var (pv 0)) (pd_var (pv 1))) pda_nil)) pda_nil)) (pd_op op_pow powD_ok pd_int pd_int) (by with_unfolding_all rfl))))) (psd_one (psd_ret (pd_lstC (pda_cons (pd_cb (fun ta pa => pe_callB call_abs (by rfl) Fa.b_abs (by decide +kernel) pa) absD_ok (pda_cons (pd_cb (fun ta pa => pe_callTy call_int1 (by rfl) Fa.b_int (by decide +kernel) pa) intD_ok (pda_cons (pd_ix (pd_var (pv 0)) (pd_var (pv 1))) pda_nil)) pda_nil)) (pda_cons (pd_op opr_add addD_ok (pd_op opr_mul mulD_ok pd_int (pd_var (pv 1))) pd_int) pda_nil))))) psd_nil)
  (psd_cons (psd_set (i := 2) sc_lWell.nd rfl (by first | exact Or.inl rfl | exact Or.inr rfl) (pd_op opr_add addD_ok (pd_op opr_mul mulD_ok pd_int (pd_var (pv 1))) pd_int))
  (psd_cons (psd_for hp rfl (pdi (pd_slice (pd_var (pv 0)) pdo_none (pdo_some pd_int))) (pdg_name (i := 3) sc_lWell.nd rfl (by first | exact Or.inl rfl | exact Or.inr rfl)) (psd_one (psd_set (i := 2) sc_lWell.nd rfl (by first | exact Or.inl rfl | exact Or.inr rfl) (pd_op opr_add addD_ok (pd_op op_mod modD_ok (pd_cb (fun ta pa => pe_callTy call_int1 (by rfl) Fa.b_int (by decide +kernel) pa) intD_ok (pda_cons (pd_op opr_add addD_ok (pd_op opr_mul mulD_ok (pd_var (pv 2)) pd_int) (pd_op op_mod modD_ok (pd_cb (fun ta pa => pe_callTy call_int1 (by rfl) Fa.b_int (by decide +kernel) pa) intD_ok (pda_cons (pd_cb (fun ta pa => pe_callB call_abs (by rfl) Fa.b_abs (by decide +kernel) pa) absD_ok (pda_cons (pd_cb (fun ta pa => pe_callTy call_int1 (by rfl) Fa.b_int (by decide +kernel) pa) intD_ok (pda_cons (pd_var (pv 3)) pda_nil)) pda_nil)) pda_nil)) pd_int)) pda_nil)) pd_int) pd_int))))
  (psd_one (psd_ret (pd_lstC (pda_cons pd_int (pda_cons (pd_var (pv 2)) pda_nil))))))))
def raw_lWell (Fa : Txt K mg G) (R : RawFn K mg "_law_well" s_lWell p_lWell)   : FD P w K mg base G "_law_well" 1 p_lWell (clW (dwp n_lWell.length (T_lWell ))) :=
  FD.ofRaw R sc_lWell (by decide) fun cdv A outer s H E gd hr => der_lWell Fa  cdv A outer s H E gd hr
/-! _law_one -/
abbrev s_lOne : Stmt := (top 20)
abbrev n_lOne : List Str := ["well", "some"]
abbrev p_lOne : List Str := ["well", "some"]
theorem sc_lOne : FnScope n_lOne p_lOne (defScope s_lOne) := ⟨rfl, rfl, rfl, by decide +kernel, rfl, by decide +kernel, by decide +kernel⟩
def T_lOne (WlDraw : DFn) : DTS := (dRet (dOp2 ixD (dVar 1) (dCall 2 WlDraw [] (dCons (dVar 0) (dCons (dCB lenD (dCons (dVar 1) dNil)) dNil)))))
theorem der_lOne (Fa : Txt K mg G) {WlDraw : DFn} (FlDraw : FD P w K mg base G "_law_draw" 1 p_lDraw WlDraw)  {f : Addr} (cdv : Value) (A : Around) (outer : List Env) (s : Shared) (H : Hp) (E : XK) (gd0 : A.guards = some []) (hr : Room 1 (A.deeper (envOfC "_law_one" (defScope s_lOne) s.heap.objs.size f cdv))) :
    PSDs (cxOf (L2.CX P w) P w K mg base n_lOne "_law_one" (defScope s_lOne) f cdv A outer s H E) G (fun _ => E) (defBody s_lOne) (T_lOne WlDraw) := by
  have gd : (cxOf (L2.CX P w) P w K mg base n_lOne "_law_one" (defScope s_lOne) f cdv A outer s H E).A.guards = some [] := gd0
  have tk : TkS (cxOf (L2.CX P w) P w K mg base n_lOne "_law_one" (defScope s_lOne) f cdv A outer s H E) (fun _ => E) := takes_of rfl rfl rfl rfl
  exact (psd_one (psd_ret (pd_ix (pd_var (pv 1)) (pd_call (ps := p_lDraw) FlDraw FlDraw.dfl gd (hr.mono (by decide)) (Nat.le_refl _) (pass_tk tk) (pda_cons (pd_var (pv 0)) (pda_cons (pd_cb (fun ta pa => pe_callB call_len (by rfl) Fa.b_len (by decide +kernel) pa) lenD_ok (pda_cons (pd_var (pv 1)) pda_nil)) pda_nil))))))
def raw_lOne (Fa : Txt K mg G) (R : RawFn K mg "_law_one" s_lOne p_lOne) {WlDraw : DFn} (FlDraw : FD P w K mg base G "_law_draw" 1 p_lDraw WlDraw)  : FD P w K mg base G "_law_one" 2 p_lOne (clW (dwp n_lOne.length (T_lOne WlDraw))) :=
  FD.ofRaw R sc_lOne (by decide) fun cdv A outer s H E gd hr => der_lOne Fa FlDraw cdv A outer s H E gd hr
/-! _law_sets -/
abbrev s_lSets : Stmt := (top 21)
abbrev n_lSets : List Str := ["kinds", "found", "number", "one", "at", "pair"]
abbrev p_lSets : List Str := ["kinds"]
theorem sc_lSets : FnScope n_lSets p_lSets (defScope s_lSets) := ⟨rfl, rfl, rfl, by decide +kernel, rfl, by decide +kernel, by decide +kernel⟩
def T_lSets  : DTS := (dSeq (dSet 1 (dLstC dNil))
  (dSeq (dFor (dRange (dCons (dOp2 shlD (dC (.int 1)) (dCB lenD (dCons (dVar 0) dNil))) dNil)) (gN 2) (dSeq (dSet 3 (dLc (dRange (dCons (dCB lenD (dCons (dVar 0) dNil)) dNil)) (gN 4) (dTst (dOp2 eqD (dOp2 andD (dOp2 shrD (dVar 2) (dVar 4)) (dC (.int 1))) (dC (.int 1)))) (dOp2 ixD (dVar 0) (dVar 4)) [4]))
  (dDrop (dLm appendG (dVar 1) (dCons (dTup (dCons (dCB lenD (dCons (dVar 3) dNil)) (dCons (dJoin (dC (.str "")) (dVar 3)) dNil))) dNil)))))
  (dFrz 1 (dRet (dLc (dIter (dCB sortedD (dCons (dVar 1) dNil))) (gN 5) dYes (dOp2 ixD (dVar 5) (dC (.int 1))) [5])))))
theorem der_lSets (Fa : Txt K mg G)   {f : Addr} (cdv : Value) (A : Around) (outer : List Env) (s : Shared) (H : Hp) (E : XK) (gd0 : A.guards = some []) (hr : Room 0 (A.deeper (envOfC "_law_sets" (defScope s_lSets) s.heap.objs.size f cdv))) :
    PSDs (cxOf (L2.CX P w) P w K mg base n_lSets "_law_sets" (defScope s_lSets) f cdv A outer s H E) G (fun _ => E) (defBody s_lSets) (T_lSets ) := by
  have gd : (cxOf (L2.CX P w) P w K mg base n_lSets "_law_sets" (defScope s_lSets) f cdv A outer s H E).A.guards = some [] := gd0
  have hp : PassesOwn (model P w) (cxOf (L2.CX P w) P w K mg base n_lSets "_law_sets" (defScope s_lSets) f cdv A outer s H E).A (cxOf (L2.CX P w) P w K mg base n_lSets "_law_sets" (defScope s_lSets) f cdv A outer s H E).env (cxOf (L2.CX P w) P w K mg base n_lSets "_law_sets" (defScope s_lSets) f cdv A outer s H E).xe := passes_of rfl
  have tk : TkS (cxOf (L2.CX P w) P w K mg base n_lSets "_law_sets" (defScope s_lSets) f cdv A outer s H E) (fun _ => E) := takes_of rfl rfl rfl rfl
  exact (psd_cons (psd_set (i := 1) sc_lSets.nd rfl (by first | exact Or.inl rfl | exact Or.inr rfl) (pd_lstC pda_nil))
  (psd_cons (psd_for hp rfl (pdi_range1 (by rfl) Fa.b_range (pd_op op_shl shlD_ok pd_int (pd_cb (fun ta pa => pe_callB call_len (by rfl) Fa.b_len (by decide +kernel) pa) lenD_ok (pda_cons (pd_var (pv 0)) pda_nil)))) (pdg_name (i := 2) sc_lSets.nd rfl (by first | exact Or.inl rfl | exact Or.inr rfl)) (psd_cons (psd_setLcG (i := 3) (own := [("at", 4)]) rfl sc_lSets.nd rfl rfl (sw_true rfl rfl rfl (by decide +kernel)) (blkOk_by (N := n_lSets) (sc := defScope s_lSets) (by decide +kernel)) (pdi_range1 (by rfl) Fa.b_range (pd_cb (fun ta pa => pe_callB call_len (by rfl) Fa.b_len (by decide +kernel) pa) lenD_ok (pda_cons (pd_var (pv 0)) pda_nil))) (fun i1 => (pdg_name (i := 4) sc_lSets.nd rfl (by first | exact Or.inl rfl | exact Or.inr rfl))) (fun i1 => (pdts_one (pdt_cmp (OpR.or op_eq (op_eqD hr.u64)) eqD_ok (pd_op opr_and andD_ok (pd_op op_shr shrD_ok (pd_var (pv 2)) (pd_var (pv 4))) pd_int) pd_int (by with_unfolding_all rfl)))) (fun i1 => (pd_ix (pd_var (pv 0)) (pd_var (pv 4)))) (by decide) (by intro _; rfl)).1
  (psd_one (psd_expr (pd_append (pd_var (pv 1)) (pd_tup (pda_cons (pd_cb (fun ta pa => pe_callB call_len (by rfl) Fa.b_len (by decide +kernel) pa) lenD_ok (pda_cons (pd_var (pv 3)) pda_nil)) (pda_cons (pd_join pd_str (pd_var (pv 3)) (fun ta tb pa pb => pe_join pa pb)) pda_nil))))))))
  (psds_frz 1 (psd_one (psd_ret (pd_lc (own := [("pair", 5)]) rfl sc_lSets.nd (blkOk_by (N := n_lSets) (sc := defScope s_lSets) (by decide +kernel)) (pdi (pd_cb (fun ta pa => pe_callB (cr_sortA hr.u70) (by rfl) Fa.b_sorted (by decide +kernel) pa) sortedD_ok (pda_cons (pd_var (pv 1)) pda_nil))) (fun i1 => (pdg_name (i := 5) sc_lSets.nd rfl (by first | exact Or.inl rfl | exact Or.inr rfl))) (fun i1 => pdts_nil) (fun i1 => (pd_ix (pd_var (pv 5)) pd_int))))))))
def raw_lSets (Fa : Txt K mg G) (R : RawFn K mg "_law_sets" s_lSets p_lSets)   : FD P w K mg base G "_law_sets" 1 p_lSets (clW (dwp n_lSets.length (T_lSets ))) :=
  FD.ofRaw R sc_lSets (by decide) fun cdv A outer s H E gd hr => der_lSets Fa  cdv A outer s H E gd hr
/-! _law_in -/
abbrev s_lIn : Stmt := (top 22)
abbrev n_lIn : List Str := ["one", "other", "kind"]
abbrev p_lIn : List Str := ["one", "other"]
theorem sc_lIn : FnScope n_lIn p_lIn (defScope s_lIn) := ⟨rfl, rfl, rfl, by decide +kernel, rfl, by decide +kernel, by decide +kernel⟩
def T_lIn  : DTS := (dRet (dOp2 eqD (dLc (dIter (dVar 0)) (gN 2) (dTst (dOp2 notInD (dVar 2) (dVar 1))) (dVar 2) [2]) (dLst dNil)))
theorem der_lIn (Fa : Txt K mg G)   {f : Addr} (cdv : Value) (A : Around) (outer : List Env) (s : Shared) (H : Hp) (E : XK) (gd0 : A.guards = some []) (hr : Room 0 (A.deeper (envOfC "_law_in" (defScope s_lIn) s.heap.objs.size f cdv))) :
    PSDs (cxOf (L2.CX P w) P w K mg base n_lIn "_law_in" (defScope s_lIn) f cdv A outer s H E) G (fun _ => E) (defBody s_lIn) (T_lIn ) := by
  have gd : (cxOf (L2.CX P w) P w K mg base n_lIn "_law_in" (defScope s_lIn) f cdv A outer s H E).A.guards = some [] := gd0
  have tk : TkS (cxOf (L2.CX P w) P w K mg base n_lIn "_law_in" (defScope s_lIn) f cdv A outer s H E) (fun _ => E) := takes_of rfl rfl rfl rfl
  exact (psd_one (psd_ret (pd_cmp (OpR.or op_eq (op_eqD hr.u64)) eqD_ok (pd_lc (own := [("kind", 2)]) rfl sc_lIn.nd (blkOk_by (N := n_lIn) (sc := defScope s_lIn) (by decide +kernel)) (pdi (pd_var (pv 0))) (fun i1 => (pdg_name (i := 2) sc_lIn.nd rfl (by first | exact Or.inl rfl | exact Or.inr rfl))) (fun i1 => (pdts_one (pdt_cmp (opr_notIn hr.u65) notInD_ok (pd_var (pv 2)) (pd_var (pv 1)) (by with_unfolding_all rfl)))) (fun i1 => (pd_var (pv 2)))) (pd_lst pda_nil) (by with_unfolding_all rfl))))
def raw_lIn (Fa : Txt K mg G) (R : RawFn K mg "_law_in" s_lIn p_lIn)   : FD P w K mg base G "_law_in" 1 p_lIn (clW (dwp n_lIn.length (T_lIn ))) :=
  FD.ofRaw R sc_lIn (by decide) fun cdv A outer s H E gd hr => der_lIn Fa  cdv A outer s H E gd hr
/-! _law_told -/
abbrev s_lTold : Stmt := (top 23)
abbrev n_lTold : List Str := ["well", "one", "row", "kind", "turn"]
abbrev p_lTold : List Str := ["well", "one"]
theorem sc_lTold : FnScope n_lTold p_lTold (defScope s_lTold) := ⟨rfl, rfl, rfl, by decide +kernel, rfl, by decide +kernel, by decide +kernel⟩
def T_lTold (WlOne : DFn) (WlDraw : DFn) : DTS := (dSeq (dSet 2 (dLcC (dIter (dVar 1)) (gN 3) dYes (dVar 3) [3]))
  (dSeq (dFor (dRange (dCons (dCall 2 WlDraw [] (dCons (dVar 0) (dCons (dC (.int 3)) dNil))) dNil)) (gN 4) (dIfS (dTst (dOp2 neD (dVar 2) (dLst dNil))) (dDrop (dLm appendG (dVar 2) (dCons (dCall 2 WlOne [] (dCons (dVar 0) (dCons (dVar 2) dNil))) dNil))) dNx))
  (dSeq (dIfS (dTst (dOp2 eqD (dCall 2 WlDraw [] (dCons (dVar 0) (dCons (dC (.int 2)) dNil))) (dC (.int 0)))) (dSet 2 (dOp1 revD (dVar 2))) dNx)
  (dFrz 2 (dRet (dCall 2 WlOne [] (dCons (dVar 0) (dCons (dLst (dCons (dJoin (dC (.str "")) (dVar 2)) (dCons (dVar 2) (dCons (dCB tupleD (dCons (dVar 2) dNil)) dNil)))) dNil))))))))
theorem der_lTold (Fa : Txt K mg G) {WlOne : DFn} (FlOne : FD P w K mg base G "_law_one" 2 p_lOne WlOne) {WlDraw : DFn} (FlDraw : FD P w K mg base G "_law_draw" 1 p_lDraw WlDraw)  {f : Addr} (cdv : Value) (A : Around) (outer : List Env) (s : Shared) (H : Hp) (E : XK) (gd0 : A.guards = some []) (hr : Room 2 (A.deeper (envOfC "_law_told" (defScope s_lTold) s.heap.objs.size f cdv))) :
    PSDs (cxOf (L2.CX P w) P w K mg base n_lTold "_law_told" (defScope s_lTold) f cdv A outer s H E) G (fun _ => E) (defBody s_lTold) (T_lTold WlOne WlDraw) := by
  have gd : (cxOf (L2.CX P w) P w K mg base n_lTold "_law_told" (defScope s_lTold) f cdv A outer s H E).A.guards = some [] := gd0
  have hp : PassesOwn (model P w) (cxOf (L2.CX P w) P w K mg base n_lTold "_law_told" (defScope s_lTold) f cdv A outer s H E).A (cxOf (L2.CX P w) P w K mg base n_lTold "_law_told" (defScope s_lTold) f cdv A outer s H E).env (cxOf (L2.CX P w) P w K mg base n_lTold "_law_told" (defScope s_lTold) f cdv A outer s H E).xe := passes_of rfl
  have tk : TkS (cxOf (L2.CX P w) P w K mg base n_lTold "_law_told" (defScope s_lTold) f cdv A outer s H E) (fun _ => E) := takes_of rfl rfl rfl rfl
  exact (psd_cons (psd_setLcG (i := 2) (own := [("kind", 3)]) rfl sc_lTold.nd rfl rfl (sw_true rfl rfl rfl (by decide +kernel)) (blkOk_by (N := n_lTold) (sc := defScope s_lTold) (by decide +kernel)) (pdi (pd_var (pv 1))) (fun i1 => (pdg_name (i := 3) sc_lTold.nd rfl (by first | exact Or.inl rfl | exact Or.inr rfl))) (fun i1 => pdts_nil) (fun i1 => (pd_var (pv 3))) (by decide) (by intro _; rfl)).2
  (psd_cons (psd_for hp rfl (pdi_range1 (by rfl) Fa.b_range (pd_call (ps := p_lDraw) FlDraw FlDraw.dfl gd (hr.mono (by decide)) (Nat.le_refl _) (pass_tk tk) (pda_cons (pd_var (pv 0)) (pda_cons pd_int pda_nil)))) (pdg_name (i := 4) sc_lTold.nd rfl (by first | exact Or.inl rfl | exact Or.inr rfl)) (psd_one (psd_if (pdt_cmp (OpR.or op_ne (op_neD hr.u64)) neD_ok (pd_var (pv 2)) (pd_lst pda_nil) (by with_unfolding_all rfl)) (psd_one (psd_expr (pd_append (pd_var (pv 2)) (pd_call (ps := p_lOne) FlOne FlOne.dfl gd (hr.mono (by decide)) (Nat.le_refl _) (pass_tk tk) (pda_cons (pd_var (pv 0)) (pda_cons (pd_var (pv 2)) pda_nil)))))) psd_nil)))
  (psd_cons (psd_if (pdt_cmp (OpR.or op_eq (op_eqD hr.u64)) eqD_ok (pd_call (ps := p_lDraw) FlDraw FlDraw.dfl gd (hr.mono (by decide)) (Nat.le_refl _) (pass_tk tk) (pda_cons (pd_var (pv 0)) (pda_cons pd_int pda_nil))) pd_int (by with_unfolding_all rfl)) (psd_one (psd_set (i := 2) sc_lTold.nd rfl (by first | exact Or.inl rfl | exact Or.inr rfl) (pd_rev (pd_var (pv 2))))) psd_nil)
  (psds_frz 2 (psd_one (psd_ret (pd_call (ps := p_lOne) FlOne FlOne.dfl gd (hr.mono (by decide)) (Nat.le_refl _) (pass_tk tk) (pda_cons (pd_var (pv 0)) (pda_cons (pd_lst (pda_cons (pd_join pd_str (pd_var (pv 2)) (fun ta tb pa pb => pe_join pa pb)) (pda_cons (pd_var (pv 2)) (pda_cons (pd_cb (fun ta pa => pe_callTy call_tuple_of (by rfl) Fa.b_tuple (by decide +kernel) pa) tupleD_ok (pda_cons (pd_var (pv 2)) pda_nil)) pda_nil)))) pda_nil)))))))))
def raw_lTold (Fa : Txt K mg G) (R : RawFn K mg "_law_told" s_lTold p_lTold) {WlOne : DFn} (FlOne : FD P w K mg base G "_law_one" 2 p_lOne WlOne) {WlDraw : DFn} (FlDraw : FD P w K mg base G "_law_draw" 1 p_lDraw WlDraw)  : FD P w K mg base G "_law_told" 3 p_lTold (clW (dwp n_lTold.length (T_lTold WlOne WlDraw))) :=
  FD.ofRaw R sc_lTold (by decide) fun cdv A outer s H E gd hr => der_lTold Fa FlOne FlDraw cdv A outer s H E gd hr
/-! _law_meets -/
abbrev s_lMeets : Stmt := (top 24)
abbrev n_lMeets : List Str := ["one", "others", "other", "kind"]
abbrev p_lMeets : List Str := ["one", "others"]
theorem sc_lMeets : FnScope n_lMeets p_lMeets (defScope s_lMeets) := ⟨rfl, rfl, rfl, by decide +kernel, rfl, by decide +kernel, by decide +kernel⟩
def T_lMeets  : DTS := (dRet (dOp2 eqD (dLc (dIter (dVar 1)) (gN 2) (dTst (dOp2 eqD (dLc (dIter (dVar 2)) (gN 3) (dTst (dOp2 inD (dVar 3) (dVar 0))) (dVar 3) [3]) (dLst dNil))) (dVar 2) [2]) (dLst dNil)))
theorem der_lMeets (Fa : Txt K mg G)   {f : Addr} (cdv : Value) (A : Around) (outer : List Env) (s : Shared) (H : Hp) (E : XK) (gd0 : A.guards = some []) (hr : Room 0 (A.deeper (envOfC "_law_meets" (defScope s_lMeets) s.heap.objs.size f cdv))) :
    PSDs (cxOf (L2.CX P w) P w K mg base n_lMeets "_law_meets" (defScope s_lMeets) f cdv A outer s H E) G (fun _ => E) (defBody s_lMeets) (T_lMeets ) := by
  have gd : (cxOf (L2.CX P w) P w K mg base n_lMeets "_law_meets" (defScope s_lMeets) f cdv A outer s H E).A.guards = some [] := gd0
  have tk : TkS (cxOf (L2.CX P w) P w K mg base n_lMeets "_law_meets" (defScope s_lMeets) f cdv A outer s H E) (fun _ => E) := takes_of rfl rfl rfl rfl
  exact (psd_one (psd_ret (pd_cmp (OpR.or op_eq (op_eqD hr.u64)) eqD_ok (pd_lc (own := [("other", 2)]) rfl sc_lMeets.nd (blkOk_by (N := n_lMeets) (sc := defScope s_lMeets) (by decide +kernel)) (pdi (pd_var (pv 1))) (fun i1 => (pdg_name (i := 2) sc_lMeets.nd rfl (by first | exact Or.inl rfl | exact Or.inr rfl))) (fun i1 => (pdts_one (pdt_cmp (OpR.or op_eq (op_eqD hr.u64)) eqD_ok (pd_lc (own := [("kind", 3)]) rfl sc_lMeets.nd (by apply blkOk_by; show blkC n_lMeets (relS _ (defScope s_lMeets)) _ _ = true; decide +kernel) (pdi (pd_var (pv 2))) (fun i2 => (pdg_name (i := 3) sc_lMeets.nd rfl (by first | exact Or.inl rfl | exact Or.inr rfl))) (fun i2 => (pdts_one (pdt_cmp (opr_in hr.u65) inD_ok (pd_var (pv 3)) (pd_var (pv 0)) (by with_unfolding_all rfl)))) (fun i2 => (pd_var (pv 3)))) (pd_lst pda_nil) (by with_unfolding_all rfl)))) (fun i1 => (pd_var (pv 2)))) (pd_lst pda_nil) (by with_unfolding_all rfl))))
def raw_lMeets (Fa : Txt K mg G) (R : RawFn K mg "_law_meets" s_lMeets p_lMeets)   : FD P w K mg base G "_law_meets" 1 p_lMeets (clW (dwp n_lMeets.length (T_lMeets ))) :=
  FD.ofRaw R sc_lMeets (by decide) fun cdv A outer s H E gd hr => der_lMeets Fa  cdv A outer s H E gd hr
end
end K65
set_option Elab.async false
set_option linter.all false
set_option autoImplicit false
set_option maxRecDepth 100000
set_option maxHeartbeats 4000000
namespace K65
open PySem PySem.Spec PyProof.Rows L2 Evl Dl
section
variable {P : Program} {w : World} {K : PySem.W.Frag} {mg : Str → Option Value} {base : Heap} {G : Gx}

/-! _set_of -/
abbrev s_setOf : Stmt := (top 10)
abbrev n_setOf : List Str := ["letters", "value", "kind"]
abbrev p_setOf : List Str := ["letters", "value"]
theorem sc_setOf : FnScope n_setOf p_setOf (defScope s_setOf) := ⟨rfl, rfl, rfl, by decide +kernel, rfl, by decide +kernel, by decide +kernel⟩
def T_setOf (WisSign : DFn) : DTS := (dSeq (dIfS (dNot (dTru (dCB isiD (dCons (dVar 1) (dCons (dTup (dCons (dC (.val (.ty "str"))) (dCons (dC (.val (.ty "list"))) (dCons (dC (.val (.ty "tuple"))) dNil)))) dNil))))) (dRz "NoLetter" "letter" (dCons (dVar 1) dNil)) dNx)
  (dSeq (dFor (dIter (dVar 1)) (gN 2) (dIfS (dNot (dTru (dCall 2 WisSign [] (dCons (dVar 2) (dCons (dVar 0) dNil))))) (dRz "NoLetter" "letter" (dCons (dVar 2) dNil)) dNx))
  (dRet (dJoin (dC (.str "")) (dLc (dIter (dVar 0)) (gN 2) (dTst (dOp2 inD (dVar 2) (dVar 1))) (dVar 2) [2])))))
theorem der_setOf (Fa : Txt K mg G) {WisSign : DFn} (FisSign : FD P w K mg base G "is_sign" 1 p_isSign WisSign) (EL : ErrL K mg G) {f : Addr} (cdv : Value) (A : Around) (outer : List Env) (s : Shared) (H : Hp) (E : XK) (gd0 : A.guards = some []) (hr : Room 1 (A.deeper (envOfC "_set_of" (defScope s_setOf) s.heap.objs.size f cdv))) :
    PSDs (cxOf (L2.CX P w) P w K mg base n_setOf "_set_of" (defScope s_setOf) f cdv A outer s H E) G (fun _ => E) (defBody s_setOf) (T_setOf WisSign) := by
  have gd : (cxOf (L2.CX P w) P w K mg base n_setOf "_set_of" (defScope s_setOf) f cdv A outer s H E).A.guards = some [] := gd0
  have hp : PassesOwn (model P w) (cxOf (L2.CX P w) P w K mg base n_setOf "_set_of" (defScope s_setOf) f cdv A outer s H E).A (cxOf (L2.CX P w) P w K mg base n_setOf "_set_of" (defScope s_setOf) f cdv A outer s H E).env (cxOf (L2.CX P w) P w K mg base n_setOf "_set_of" (defScope s_setOf) f cdv A outer s H E).xe := passes_of rfl
  have tk : TkS (cxOf (L2.CX P w) P w K mg base n_setOf "_set_of" (defScope s_setOf) f cdv A outer s H E) (fun _ => E) := takes_of rfl rfl rfl rfl
  exact (psd_cons (psd_if (pdt_not (pdt (pd_cb (fun ta pa => pe_callB cr_isiA (by rfl) Fa.b_isinstance (by decide +kernel) pa) isiD_ok (pda_cons (pd_var (pv 1)) (pda_cons (pd_tup (pda_cons (pd_ty (by rfl) Fa.b_str (by decide +kernel)) (pda_cons (pd_ty (by rfl) Fa.b_list (by decide +kernel)) (pda_cons (pd_ty (by rfl) Fa.b_tuple (by decide +kernel)) pda_nil)))) pda_nil))))) (psd_one (psd_rz EL.ct (fun ta pa => ⟨_, ps_raiseAtL rfl EL.T PySem.OneXL.tail_key PySem.F.excBase_LookupError PySem.OneXL.line_key hr tk pa, fun D σ H h => h⟩) (pda_cons (pd_var (pv 1)) pda_nil))) psd_nil)
  (psd_cons (psd_for hp rfl (pdi (pd_var (pv 1))) (pdg_name (i := 2) sc_setOf.nd rfl (by first | exact Or.inl rfl | exact Or.inr rfl)) (psd_one (psd_if (pdt_not (pdt (pd_call (ps := p_isSign) FisSign FisSign.dfl gd (hr.mono (by decide)) (Nat.le_refl _) (pass_tk tk) (pda_cons (pd_var (pv 2)) (pda_cons (pd_var (pv 0)) pda_nil))))) (psd_one (psd_rz EL.ct (fun ta pa => ⟨_, ps_raiseAtL rfl EL.T PySem.OneXL.tail_key PySem.F.excBase_LookupError PySem.OneXL.line_key hr tk pa, fun D σ H h => h⟩) (pda_cons (pd_var (pv 2)) pda_nil))) psd_nil)))
  (psd_one (psd_ret (pd_join pd_str (pd_lc (own := [("kind", 2)]) rfl sc_setOf.nd (blkOk_by (N := n_setOf) (sc := defScope s_setOf) (by decide +kernel)) (pdi (pd_var (pv 0))) (fun i1 => (pdg_name (i := 2) sc_setOf.nd rfl (by first | exact Or.inl rfl | exact Or.inr rfl))) (fun i1 => (pdts_one (pdt_cmp (opr_in hr.u65) inD_ok (pd_var (pv 2)) (pd_var (pv 1)) (by with_unfolding_all rfl)))) (fun i1 => (pd_var (pv 2)))) (fun ta tb pa pb => pe_join pa pb))))))
def raw_setOf (Fa : Txt K mg G) (R : RawFn K mg "_set_of" s_setOf p_setOf) {WisSign : DFn} (FisSign : FD P w K mg base G "is_sign" 1 p_isSign WisSign) (EL : ErrL K mg G) : FD P w K mg base G "_set_of" 2 p_setOf (clW (dwp n_setOf.length (T_setOf WisSign))) :=
  FD.ofRaw R sc_setOf (by decide) fun cdv A outer s H E gd hr => der_setOf Fa FisSign EL cdv A outer s H E gd hr
/-! _sets_of -/
abbrev s_setsOf : Stmt := (top 11)
abbrev n_setsOf : List Str := ["letters", "sets", "one"]
abbrev p_setsOf : List Str := ["letters", "sets"]
theorem sc_setsOf : FnScope n_setsOf p_setsOf (defScope s_setsOf) := ⟨rfl, rfl, rfl, by decide +kernel, rfl, by decide +kernel, by decide +kernel⟩
def T_setsOf (WisSeq : DFn) (WsetOf : DFn) : DTS := (dSeq (dIfS (dNot (dTru (dCall 1 WisSeq [] (dCons (dVar 1) dNil)))) (dRz "NoLetter" "letter" (dCons (dVar 1) dNil)) dNx)
  (dRet (dLcX (dIter (dVar 1)) (gN 2) dYes (dCall 2 WsetOf [] (dCons (dVar 0) (dCons (dVar 2) dNil))) [2])))
theorem der_setsOf (Fa : Txt K mg G) {WisSeq : DFn} (FisSeq : FD P w K mg base G "is_sequence" 1 p_isSeq WisSeq) {WsetOf : DFn} (FsetOf : FD P w K mg base G "_set_of" 2 p_setOf WsetOf) (EL : ErrL K mg G) {f : Addr} (cdv : Value) (A : Around) (outer : List Env) (s : Shared) (H : Hp) (E : XK) (gd0 : A.guards = some []) (hr : Room 2 (A.deeper (envOfC "_sets_of" (defScope s_setsOf) s.heap.objs.size f cdv))) :
    PSDs (cxOf (L2.CX P w) P w K mg base n_setsOf "_sets_of" (defScope s_setsOf) f cdv A outer s H E) G (fun _ => E) (defBody s_setsOf) (T_setsOf WisSeq WsetOf) := by
  have gd : (cxOf (L2.CX P w) P w K mg base n_setsOf "_sets_of" (defScope s_setsOf) f cdv A outer s H E).A.guards = some [] := gd0
  have tk : TkS (cxOf (L2.CX P w) P w K mg base n_setsOf "_sets_of" (defScope s_setsOf) f cdv A outer s H E) (fun _ => E) := takes_of rfl rfl rfl rfl
  exact (psd_cons (psd_if (pdt_not (pdt (pd_call (ps := p_isSeq) FisSeq FisSeq.dfl gd (hr.mono (by decide)) (Nat.le_refl _) (pass_tk tk) (pda_cons (pd_var (pv 1)) pda_nil)))) (psd_one (psd_rz EL.ct (fun ta pa => ⟨_, ps_raiseAtL rfl EL.T PySem.OneXL.tail_key PySem.F.excBase_LookupError PySem.OneXL.line_key hr tk pa, fun D σ H h => h⟩) (pda_cons (pd_var (pv 1)) pda_nil))) psd_nil)
  (psd_one (psd_ret (pd_lcX tk rfl rfl (own := [("one", 2)]) rfl sc_setsOf.nd (blkOk_by (N := n_setsOf) (sc := defScope s_setsOf) (by decide +kernel)) (pdi (pd_var (pv 1))) (fun i1 => (pdg_name (i := 2) sc_setsOf.nd rfl (by first | exact Or.inl rfl | exact Or.inr rfl))) (fun i1 => pdts_nil) (fun i1 E1 => (pd_call (ps := p_setOf) FsetOf FsetOf.dfl (by exact gd) (by exact hr.mono (by decide)) (Nat.le_refl _) (by exact pass_blkE) (pda_cons (pd_var (pv 0)) (pda_cons (pd_var (pv 2)) pda_nil))))))))
def raw_setsOf (Fa : Txt K mg G) (R : RawFn K mg "_sets_of" s_setsOf p_setsOf) {WisSeq : DFn} (FisSeq : FD P w K mg base G "is_sequence" 1 p_isSeq WisSeq) {WsetOf : DFn} (FsetOf : FD P w K mg base G "_set_of" 2 p_setOf WsetOf) (EL : ErrL K mg G) : FD P w K mg base G "_sets_of" 3 p_setsOf (clW (dwp n_setsOf.length (T_setsOf WisSeq WsetOf))) :=
  FD.ofRaw R sc_setsOf (by decide) fun cdv A outer s H E gd hr => der_setsOf Fa FisSeq FsetOf EL cdv A outer s H E gd hr
/-! _lacking -/
abbrev s_lacking : Stmt := (top 13)
abbrev n_lacking : List Str := ["kinds", "sets", "kind", "one"]
abbrev p_lacking : List Str := ["kinds", "sets"]
theorem sc_lacking : FnScope n_lacking p_lacking (defScope s_lacking) := ⟨rfl, rfl, rfl, by decide +kernel, rfl, by decide +kernel, by decide +kernel⟩
def T_lacking (WsetOf : DFn) : DTS := (dRet (dLcX (dIter (dVar 1)) (gN 3) dYes (dCall 2 WsetOf [] (dCons (dVar 0) (dCons (dLc (dIter (dVar 0)) (gN 2) (dTst (dOp2 notInD (dVar 2) (dVar 3))) (dVar 2) [2]) dNil))) [3]))
theorem der_lacking (Fa : Txt K mg G) {WsetOf : DFn} (FsetOf : FD P w K mg base G "_set_of" 2 p_setOf WsetOf)  {f : Addr} (cdv : Value) (A : Around) (outer : List Env) (s : Shared) (H : Hp) (E : XK) (gd0 : A.guards = some []) (hr : Room 2 (A.deeper (envOfC "_lacking" (defScope s_lacking) s.heap.objs.size f cdv))) :
    PSDs (cxOf (L2.CX P w) P w K mg base n_lacking "_lacking" (defScope s_lacking) f cdv A outer s H E) G (fun _ => E) (defBody s_lacking) (T_lacking WsetOf) := by
  have gd : (cxOf (L2.CX P w) P w K mg base n_lacking "_lacking" (defScope s_lacking) f cdv A outer s H E).A.guards = some [] := gd0
  have tk : TkS (cxOf (L2.CX P w) P w K mg base n_lacking "_lacking" (defScope s_lacking) f cdv A outer s H E) (fun _ => E) := takes_of rfl rfl rfl rfl
  exact (psd_one (psd_ret (pd_lcX tk rfl rfl (own := [("one", 3)]) rfl sc_lacking.nd (blkOk_by (N := n_lacking) (sc := defScope s_lacking) (by decide +kernel)) (pdi (pd_var (pv 1))) (fun i1 => (pdg_name (i := 3) sc_lacking.nd rfl (by first | exact Or.inl rfl | exact Or.inr rfl))) (fun i1 => pdts_nil) (fun i1 E1 => (pd_call (ps := p_setOf) FsetOf FsetOf.dfl (by exact gd) (by exact hr.mono (by decide)) (Nat.le_refl _) (by exact pass_blkE) (pda_cons (pd_var (pv 0)) (pda_cons (pd_lc (own := [("kind", 2)]) rfl sc_lacking.nd (by apply blkOk_by; show blkC n_lacking (relS _ (defScope s_lacking)) _ _ = true; decide +kernel) (pdi (pd_var (pv 0))) (fun i2 => (pdg_name (i := 2) sc_lacking.nd rfl (by first | exact Or.inl rfl | exact Or.inr rfl))) (fun i2 => (pdts_one (pdt_cmp (opr_notIn hr.u65) notInD_ok (pd_var (pv 2)) (pd_var (pv 3)) (by with_unfolding_all rfl)))) (fun i2 => (pd_var (pv 2)))) pda_nil)))))))
def raw_lacking (Fa : Txt K mg G) (R : RawFn K mg "_lacking" s_lacking p_lacking) {WsetOf : DFn} (FsetOf : FD P w K mg base G "_set_of" 2 p_setOf WsetOf)  : FD P w K mg base G "_lacking" 3 p_lacking (clW (dwp n_lacking.length (T_lacking WsetOf))) :=
  FD.ofRaw R sc_lacking (by decide) fun cdv A outer s H E gd hr => der_lacking Fa FsetOf cdv A outer s H E gd hr
/-! complement_sets -/
abbrev s_compl : Stmt := (top 14)
abbrev n_compl : List Str := ["kinds", "sets"]
abbrev p_compl : List Str := ["kinds", "sets"]
theorem sc_compl : FnScope n_compl p_compl (defScope s_compl) := ⟨rfl, rfl, rfl, by decide +kernel, rfl, by decide +kernel, by decide +kernel⟩
def T_compl (WsetOf : DFn) (Wlacking : DFn) (WsetsOf : DFn) : DTS := (dSeq (dSet 0 (dCall 2 WsetOf [] (dCons (dC (.str "abcd")) (dCons (dVar 0) dNil))))
  (dRet (dCB tupleD (dCons (dCall 2 Wlacking [] (dCons (dVar 0) (dCons (dCall 2 WsetsOf [] (dCons (dVar 0) (dCons (dVar 1) dNil))) dNil))) dNil))))
theorem der_compl (Fa : Txt K mg G) {WsetOf : DFn} (FsetOf : FD P w K mg base G "_set_of" 2 p_setOf WsetOf) {Wlacking : DFn} (Flacking : FD P w K mg base G "_lacking" 3 p_lacking Wlacking) {WsetsOf : DFn} (FsetsOf : FD P w K mg base G "_sets_of" 3 p_setsOf WsetsOf)  {f : Addr} (cdv : Value) (A : Around) (outer : List Env) (s : Shared) (H : Hp) (E : XK) (gd0 : A.guards = some []) (hr : Room 3 (A.deeper (envOfC "complement_sets" (defScope s_compl) s.heap.objs.size f cdv))) :
    PSDs (cxOf (L2.CX P w) P w K mg base n_compl "complement_sets" (defScope s_compl) f cdv A outer s H E) G (fun _ => E) (defBody s_compl) (T_compl WsetOf Wlacking WsetsOf) := by
  have gd : (cxOf (L2.CX P w) P w K mg base n_compl "complement_sets" (defScope s_compl) f cdv A outer s H E).A.guards = some [] := gd0
  have tk : TkS (cxOf (L2.CX P w) P w K mg base n_compl "complement_sets" (defScope s_compl) f cdv A outer s H E) (fun _ => E) := takes_of rfl rfl rfl rfl
  exact (psd_cons (psd_set (i := 0) sc_compl.nd rfl (by first | exact Or.inl rfl | exact Or.inr rfl) (pd_call (ps := p_setOf) FsetOf FsetOf.dfl gd (hr.mono (by decide)) (Nat.le_refl _) (pass_tk tk) (pda_cons (pd_glob (by rfl) Fa.g_KINDS.choose_spec.1 Fa.g_KINDS.choose_spec.2) (pda_cons (pd_var (pv 0)) pda_nil))))
  (psd_one (psd_ret (pd_cb (fun ta pa => pe_callTy call_tuple_of (by rfl) Fa.b_tuple (by decide +kernel) pa) tupleD_ok (pda_cons (pd_call (ps := p_lacking) Flacking Flacking.dfl gd (hr.mono (by decide)) (Nat.le_refl _) (pass_tk tk) (pda_cons (pd_var (pv 0)) (pda_cons (pd_call (ps := p_setsOf) FsetsOf FsetsOf.dfl gd (hr.mono (by decide)) (Nat.le_refl _) (pass_tk tk) (pda_cons (pd_var (pv 0)) (pda_cons (pd_var (pv 1)) pda_nil))) pda_nil))) pda_nil)))))
def raw_compl (Fa : Txt K mg G) (R : RawFn K mg "complement_sets" s_compl p_compl) {WsetOf : DFn} (FsetOf : FD P w K mg base G "_set_of" 2 p_setOf WsetOf) {Wlacking : DFn} (Flacking : FD P w K mg base G "_lacking" 3 p_lacking Wlacking) {WsetsOf : DFn} (FsetsOf : FD P w K mg base G "_sets_of" 3 p_setsOf WsetsOf)  : FD P w K mg base G "complement_sets" 4 p_compl (clW (dwp n_compl.length (T_compl WsetOf Wlacking WsetsOf))) :=
  FD.ofRaw R sc_compl (by decide) fun cdv A outer s H E gd hr => der_compl Fa FsetOf Flacking FsetsOf cdv A outer s H E gd hr
/-! _law_answer -/
abbrev s_lAns : Stmt := (top 25)
abbrev n_lAns : List Str := ["call", "kinds", "told", "fault"]
abbrev p_lAns : List Str := ["call", "kinds", "told"]
theorem sc_lAns : FnScope n_lAns p_lAns (defScope s_lAns) := ⟨rfl, rfl, rfl, by decide +kernel, rfl, by decide +kernel, by decide +kernel⟩
def T_lAns  (G : Gx) (tab : Tab) : DTS := (dTry G (dRet (dTup (dCons (dC (.str "told")) (dCons (dCallV tab 0 (dCons (dVar 1) (dCons (dVar 2) dNil))) dNil)))) (("NoLetter", 3, oneT "NoLetter" fun a dd => (dRet (dTup (dCons (dC (.str "none")) (dCons (dExcF a dd "NoLetter" "letter" (dVar 3)) (dCons (dCB (isErrD G a dd "NoLetter") (dCons (dVar 3) (dCons (dC (.fn "RuelessError")) dNil))) dNil)))))) :: []))
theorem der_lAns (Fa : Txt K mg G)  {tab : Tab} (Ft : FDsB P w K mg base G 8 tab) (EL : ErrL K mg G) (ARuelessError : At mg G "RuelessError") {f : Addr} (cdv : Value) (A : Around) (outer : List Env) (s : Shared) (H : Hp) (E : XK) (gd0 : A.guards = some []) (hr : Room 8 (A.deeper (envOfC "_law_answer" (defScope s_lAns) s.heap.objs.size f cdv))) :
    PSDs (cxOf (L2.CX P w) P w K mg base n_lAns "_law_answer" (defScope s_lAns) f cdv A outer s H E) G (fun _ => E) (defBody s_lAns) (T_lAns  G tab) := by
  have gd : (cxOf (L2.CX P w) P w K mg base n_lAns "_law_answer" (defScope s_lAns) f cdv A outer s H E).A.guards = some [] := gd0
  have hp : PassesOwn (model P w) (cxOf (L2.CX P w) P w K mg base n_lAns "_law_answer" (defScope s_lAns) f cdv A outer s H E).A (cxOf (L2.CX P w) P w K mg base n_lAns "_law_answer" (defScope s_lAns) f cdv A outer s H E).env (cxOf (L2.CX P w) P w K mg base n_lAns "_law_answer" (defScope s_lAns) f cdv A outer s H E).xe := passes_of rfl
  have tk : TkS (cxOf (L2.CX P w) P w K mg base n_lAns "_law_answer" (defScope s_lAns) f cdv A outer s H E) (fun _ => E) := takes_of rfl rfl rfl rfl
  exact (psd_one (psd_try rfl rfl tk hp (fun E2 pn xe tk2 hp2 => (psd_one (psd_ret (pd_tup (pda_cons pd_str (pda_cons (pd_callV (FDs.mk Ft.get Ft.mono) gd (hr.mono (by decide)) (by rfl) (by first | exact Or.inl rfl | exact Or.inr (Or.inl rfl) | exact Or.inr (Or.inr rfl)) (pass_tk tk2) (pda_cons (pd_var (pv 1)) (pda_cons (pd_var (pv 2)) pda_nil))) pda_nil)))))) (.cons (i := 3) sc_lAns.nd rfl rfl ⟨rfl, rfl, .inl EL.T.gC⟩ (.one EL.ct EL.mt (fun a dd oe pn hz hf => (psd_one (psd_ret (pd_tup (pda_cons pd_str (pda_cons (pd_excF (fun te pe => pe_excL EL.T hz hf pe) (pd_var (pv 3))) (pda_cons (pd_cb (fun ta pa => pe_callB (My.call_isErr hz hf) (by rfl) Fa.b_isinstance (by decide +kernel) pa) (isErrD_ok EL.xc EL.ic EL.ib) (pda_cons (pd_var (pv 3)) (pda_cons (pd_fn (by rfl) ARuelessError.m ARuelessError.f) pda_nil))) pda_nil)))))))) .nil)))
def raw_lAns (Fa : Txt K mg G) (R : RawFn K mg "_law_answer" s_lAns p_lAns)  {tab : Tab} (Ft : FDsB P w K mg base G 8 tab) (EL : ErrL K mg G) (ARuelessError : At mg G "RuelessError") : FD P w K mg base G "_law_answer" 9 p_lAns (clW (dwp n_lAns.length (T_lAns  G tab))) :=
  FD.ofRaw R sc_lAns (by decide) fun cdv A outer s H E gd hr => der_lAns Fa  Ft EL ARuelessError cdv A outer s H E gd hr
/-! _law_bad -/
abbrev s_lBad : Stmt := (top 26)
abbrev n_lBad : List Str := ["well", "kinds", "told", "wrong", "place", "kind", "other"]
abbrev p_lBad : List Str := ["well", "kinds", "told"]
theorem sc_lBad : FnScope n_lBad p_lBad (defScope s_lBad) := ⟨rfl, rfl, rfl, by decide +kernel, rfl, by decide +kernel, by decide +kernel⟩
def T_lBad (WlOne : DFn) (WlDraw : DFn) : DTS := (dSeq (dSet 3 (dCall 2 WlOne [] (dCons (dVar 0) (dCons (dLst (dCons (dC (.str "e")) (dCons (dC (.str "0")) (dCons (dC (.int 5)) (dCons (dC .non) (dCons (dC (.str "aa")) (dCons (dC (.str "")) (dCons (dLst (dCons (dC (.str "a")) dNil)) (dCons (dC (.bl false)) dNil))))))))) dNil))))
  (dSeq (dSet 4 (dCall 2 WlDraw [] (dCons (dVar 0) (dCons (dC (.int 4)) dNil))))
  (dSeq (dIfS (dTst (dOp2 eqD (dVar 4) (dC (.int 0)))) (dRet (dTup (dCons (dIfE (dNot (dTru (dCB isiD (dCons (dVar 3) (dCons (dTup (dCons (dC (.val (.ty "str"))) (dCons (dC (.val (.ty "list"))) dNil))) dNil))))) (dVar 3) (dC (.int 9))) (dCons (dVar 2) (dCons (dIfE (dNot (dTru (dCB isiD (dCons (dVar 3) (dCons (dTup (dCons (dC (.val (.ty "str"))) (dCons (dC (.val (.ty "list"))) dNil))) dNil))))) (dVar 3) (dC (.int 9))) dNil))))) dNx)
  (dSeq (dIfS (dTst (dOp2 eqD (dVar 4) (dC (.int 1)))) (dRet (dTup (dCons (dOp2 addD (dLc (dIter (dVar 1)) (gN 5) dYes (dVar 5) [5]) (dLst (dCons (dVar 3) (dCons (dC (.int 77)) dNil)))) (dCons (dVar 2) (dCons (dVar 3) dNil))))) dNx)
  (dSeq (dIfS (dTst (dOp2 eqD (dVar 4) (dC (.int 2)))) (dRet (dTup (dCons (dVar 1) (dCons (dOp2 addD (dCB listD (dCons (dVar 2) dNil)) (dLst (dCons (dLst (dCons (dVar 3) dNil)) dNil))) (dCons (dVar 3) dNil))))) dNx)
  (dSeq (dSet 6 (dLc (dIter (dC (.str "abcd"))) (gN 5) (dTst (dOp2 notInD (dVar 5) (dVar 1))) (dVar 5) [5]))
  (dSeq (dIfS (dTst (dOp2 eqD (dVar 6) (dLst dNil))) (dRet (dTup (dCons (dVar 1) (dCons (dC (.int 8)) (dCons (dC (.int 8)) dNil))))) dNx)
  (dRet (dTup (dCons (dVar 1) (dCons (dOp2 addD (dLst (dCons (dOp2 addD (dOp2 ixD (dVar 6) (dC (.int 0))) (dJoinS (dC (.str "")) (dVar 1))) dNil)) (dCB listD (dCons (dVar 2) dNil))) (dCons (dOp2 ixD (dVar 6) (dC (.int 0))) dNil))))))))))))
theorem der_lBad (Fa : Txt K mg G) {WlOne : DFn} (FlOne : FD P w K mg base G "_law_one" 2 p_lOne WlOne) {WlDraw : DFn} (FlDraw : FD P w K mg base G "_law_draw" 1 p_lDraw WlDraw)  {f : Addr} (cdv : Value) (A : Around) (outer : List Env) (s : Shared) (H : Hp) (E : XK) (gd0 : A.guards = some []) (hr : Room 2 (A.deeper (envOfC "_law_bad" (defScope s_lBad) s.heap.objs.size f cdv))) :
    PSDs (cxOf (L2.CX P w) P w K mg base n_lBad "_law_bad" (defScope s_lBad) f cdv A outer s H E) G (fun _ => E) (defBody s_lBad) (T_lBad WlOne WlDraw) := by
  have gd : (cxOf (L2.CX P w) P w K mg base n_lBad "_law_bad" (defScope s_lBad) f cdv A outer s H E).A.guards = some [] := gd0
  have tk : TkS (cxOf (L2.CX P w) P w K mg base n_lBad "_law_bad" (defScope s_lBad) f cdv A outer s H E) (fun _ => E) := takes_of rfl rfl rfl rfl
  exact (psd_cons (psd_set (i := 3) sc_lBad.nd rfl (by first | exact Or.inl rfl | exact Or.inr rfl) (pd_call (ps := p_lOne) FlOne FlOne.dfl gd (hr.mono (by decide)) (Nat.le_refl _) (pass_tk tk) (pda_cons (pd_var (pv 0)) (pda_cons (pd_lst (pda_cons pd_str (pda_cons pd_str (pda_cons pd_int (pda_cons pd_non (pda_cons pd_str (pda_cons pd_str (pda_cons (pd_lst (pda_cons pd_str pda_nil)) (pda_cons pd_bl pda_nil))))))))) pda_nil))))
  (psd_cons (psd_set (i := 4) sc_lBad.nd rfl (by first | exact Or.inl rfl | exact Or.inr rfl) (pd_call (ps := p_lDraw) FlDraw FlDraw.dfl gd (hr.mono (by decide)) (Nat.le_refl _) (pass_tk tk) (pda_cons (pd_var (pv 0)) (pda_cons pd_int pda_nil))))
  (psd_cons (psd_if (pdt_cmp (OpR.or op_eq (op_eqD hr.u64)) eqD_ok (pd_var (pv 4)) pd_int (by with_unfolding_all rfl)) (psd_one (psd_ret (pd_tup (pda_cons (pd_ifE (pdt_not (pdt (pd_cb (fun ta pa => pe_callB cr_isiA (by rfl) Fa.b_isinstance (by decide +kernel) pa) isiD_ok (pda_cons (pd_var (pv 3)) (pda_cons (pd_tup (pda_cons (pd_ty (by rfl) Fa.b_str (by decide +kernel)) (pda_cons (pd_ty (by rfl) Fa.b_list (by decide +kernel)) pda_nil))) pda_nil))))) (pd_var (pv 3)) pd_int) (pda_cons (pd_var (pv 2)) (pda_cons (pd_ifE (pdt_not (pdt (pd_cb (fun ta pa => pe_callB cr_isiA (by rfl) Fa.b_isinstance (by decide +kernel) pa) isiD_ok (pda_cons (pd_var (pv 3)) (pda_cons (pd_tup (pda_cons (pd_ty (by rfl) Fa.b_str (by decide +kernel)) (pda_cons (pd_ty (by rfl) Fa.b_list (by decide +kernel)) pda_nil))) pda_nil))))) (pd_var (pv 3)) pd_int) pda_nil)))))) psd_nil)
  (psd_cons (psd_if (pdt_cmp (OpR.or op_eq (op_eqD hr.u64)) eqD_ok (pd_var (pv 4)) pd_int (by with_unfolding_all rfl)) (psd_one (psd_ret (pd_tup (pda_cons (pd_op opr_add addD_ok (pd_lc (own := [("kind", 5)]) rfl sc_lBad.nd (blkOk_by (N := n_lBad) (sc := defScope s_lBad) (by decide +kernel)) (pdi (pd_var (pv 1))) (fun i1 => (pdg_name (i := 5) sc_lBad.nd rfl (by first | exact Or.inl rfl | exact Or.inr rfl))) (fun i1 => pdts_nil) (fun i1 => (pd_var (pv 5)))) (pd_lst (pda_cons (pd_var (pv 3)) (pda_cons pd_int pda_nil)))) (pda_cons (pd_var (pv 2)) (pda_cons (pd_var (pv 3)) pda_nil)))))) psd_nil)
  (psd_cons (psd_if (pdt_cmp (OpR.or op_eq (op_eqD hr.u64)) eqD_ok (pd_var (pv 4)) pd_int (by with_unfolding_all rfl)) (psd_one (psd_ret (pd_tup (pda_cons (pd_var (pv 1)) (pda_cons (pd_op opr_add addD_ok (pd_cb (fun ta pa => pe_callTy call_list_of (by rfl) Fa.b_list (by decide +kernel) pa) listD_ok (pda_cons (pd_var (pv 2)) pda_nil)) (pd_lst (pda_cons (pd_lst (pda_cons (pd_var (pv 3)) pda_nil)) pda_nil))) (pda_cons (pd_var (pv 3)) pda_nil)))))) psd_nil)
  (psd_cons (psd_setLcG (i := 6) (own := [("kind", 5)]) rfl sc_lBad.nd rfl rfl (sw_true rfl rfl rfl (by decide +kernel)) (blkOk_by (N := n_lBad) (sc := defScope s_lBad) (by decide +kernel)) (pdi pd_str) (fun i1 => (pdg_name (i := 5) sc_lBad.nd rfl (by first | exact Or.inl rfl | exact Or.inr rfl))) (fun i1 => (pdts_one (pdt_cmp (opr_notIn hr.u65) notInD_ok (pd_var (pv 5)) (pd_var (pv 1)) (by with_unfolding_all rfl)))) (fun i1 => (pd_var (pv 5))) (by decide) (by intro _; rfl)).1
  (psd_cons (psd_if (pdt_cmp (OpR.or op_eq (op_eqD hr.u64)) eqD_ok (pd_var (pv 6)) (pd_lst pda_nil) (by with_unfolding_all rfl)) (psd_one (psd_ret (pd_tup (pda_cons (pd_var (pv 1)) (pda_cons pd_int (pda_cons pd_int pda_nil)))))) psd_nil)
  (psd_one (psd_ret (pd_tup (pda_cons (pd_var (pv 1)) (pda_cons (pd_op opr_add addD_ok (pd_lst (pda_cons (pd_op opr_add addD_ok (pd_ix (pd_var (pv 6)) pd_int) (pd_joinS pd_str (pd_var (pv 1)))) pda_nil)) (pd_cb (fun ta pa => pe_callTy call_list_of (by rfl) Fa.b_list (by decide +kernel) pa) listD_ok (pda_cons (pd_var (pv 2)) pda_nil))) (pda_cons (pd_ix (pd_var (pv 6)) pd_int) pda_nil)))))))))))))
def raw_lBad (Fa : Txt K mg G) (R : RawFn K mg "_law_bad" s_lBad p_lBad) {WlOne : DFn} (FlOne : FD P w K mg base G "_law_one" 2 p_lOne WlOne) {WlDraw : DFn} (FlDraw : FD P w K mg base G "_law_draw" 1 p_lDraw WlDraw)  : FD P w K mg base G "_law_bad" 3 p_lBad (clW (dwp n_lBad.length (T_lBad WlOne WlDraw))) :=
  FD.ofRaw R sc_lBad (by decide) fun cdv A outer s H E gd hr => der_lBad Fa FlOne FlDraw cdv A outer s H E gd hr
end
end K65
set_option Elab.async false
set_option linter.all false
set_option autoImplicit false
set_option maxRecDepth 100000
set_option maxHeartbeats 4000000
namespace K65
open PySem PySem.Spec PyProof.Rows L2 Evl Dl
section
variable {P : Program} {w : World} {K : PySem.W.Frag} {mg : Str → Option Value} {base : Heap} {G : Gx}

/-! _all_sets -/
abbrev s_allSets : Stmt := (top 12)
abbrev n_allSets : List Str := ["kinds", "many", "chosen"]
abbrev p_allSets : List Str := ["kinds"]
theorem sc_allSets : FnScope n_allSets p_allSets (defScope s_allSets) := ⟨rfl, rfl, rfl, by decide +kernel, rfl, by decide +kernel, by decide +kernel⟩
def T_allSets  : DTS := (dRet (dLc2 (dRange (dCons (dOp2 addD (dCB lenD (dCons (dVar 0) dNil)) (dC (.int 1))) dNil)) (gN 1) dYes (dComb (dVar 0) (dVar 1)) (gN 2) dYes (dJoin (dC (.str "")) (dVar 2)) [1, 2] [2]))
theorem der_allSets (Fa : Txt K mg G)   {f : Addr} (cdv : Value) (A : Around) (outer : List Env) (s : Shared) (H : Hp) (E : XK) (gd0 : A.guards = some []) (hr : Room 0 (A.deeper (envOfC "_all_sets" (defScope s_allSets) s.heap.objs.size f cdv))) :
    PSDs (cxOf (L2.CX P w) P w K mg base n_allSets "_all_sets" (defScope s_allSets) f cdv A outer s H E) G (fun _ => E) (defBody s_allSets) (T_allSets ) := by
  have gd : (cxOf (L2.CX P w) P w K mg base n_allSets "_all_sets" (defScope s_allSets) f cdv A outer s H E).A.guards = some [] := gd0
  have tk : TkS (cxOf (L2.CX P w) P w K mg base n_allSets "_all_sets" (defScope s_allSets) f cdv A outer s H E) (fun _ => E) := takes_of rfl rfl rfl rfl
  exact (psd_one (psd_ret (pd_lc2 (own := [("many", 1), ("chosen", 2)]) (vs1 := [2]) rfl sc_allSets.nd (blkOk_by (N := n_allSets) (sc := defScope s_allSets) (by decide +kernel)) (by decide) (pdi_range1 (by rfl) Fa.b_range (pd_op opr_add addD_ok (pd_cb (fun ta pa => pe_callB call_len (by rfl) Fa.b_len (by decide +kernel) pa) lenD_ok (pda_cons (pd_var (pv 0)) pda_nil)) pd_int)) (fun i1 => (pdg_name (i := 1) sc_allSets.nd rfl (by first | exact Or.inl rfl | exact Or.inr rfl))) (fun i1 => pdts_nil) (fun i1 => (pdi_comb (by rfl) Fa.c_combinations (pd_var (pv 0)) (pd_var (pv 1)))) (fun i1 => (pdg_name (i := 2) sc_allSets.nd rfl (by first | exact Or.inl rfl | exact Or.inr rfl))) (fun i1 => pdts_nil) (fun i1 => (pd_join pd_str (pd_var (pv 2)) (fun ta tb pa pb => pe_join pa pb))))))
def raw_allSets (Fa : Txt K mg G) (R : RawFn K mg "_all_sets" s_allSets p_allSets)   : FD P w K mg base G "_all_sets" 1 p_allSets (clW (dwp n_allSets.length (T_allSets ))) :=
  FD.ofRaw R sc_allSets (by decide) fun cdv A outer s H E gd hr => der_allSets Fa  cdv A outer s H E gd hr
/-! meeting_sets -/
abbrev s_meeting : Stmt := (top 15)
abbrev n_meeting : List Str := ["kinds", "sets", "meeting", "one", "other"]
abbrev p_meeting : List Str := ["kinds", "sets"]
theorem sc_meeting : FnScope n_meeting p_meeting (defScope s_meeting) := ⟨rfl, rfl, rfl, by decide +kernel, rfl, by decide +kernel, by decide +kernel⟩
def T_meeting (WsetOf : DFn) (WsetsOf : DFn) (WallSets : DFn) (WhaveCom : DFn) (WliesIn : DFn) : DTS := (dSeq (dSet 0 (dCall 2 WsetOf [] (dCons (dC (.str "abcd")) (dCons (dVar 0) dNil))))
  (dSeq (dSet 1 (dCall 2 WsetsOf [] (dCons (dVar 0) (dCons (dVar 1) dNil))))
  (dSeq (dSet 2 (dLc (dIter (dCall 1 WallSets [] (dCons (dVar 0) dNil))) (gN 3) (dTru (dCB allD (dCons (dLc (dIter (dVar 1)) (gN 4) dYes (dCall 2 WhaveCom [] (dCons (dVar 3) (dCons (dVar 4) dNil))) [4]) dNil))) (dVar 3) [3]))
  (dRet (dCB tupleD (dCons (dLc (dIter (dVar 2)) (gN 3) (dNot (dTru (dCB anyD (dCons (dLc (dIter (dVar 2)) (gN 4) (dTst (dOp2 neD (dVar 4) (dVar 3))) (dCall 2 WliesIn [] (dCons (dVar 4) (dCons (dVar 3) dNil))) [4]) dNil)))) (dVar 3) [3]) dNil))))))
theorem der_meeting (Fa : Txt K mg G) {WsetOf : DFn} (FsetOf : FD P w K mg base G "_set_of" 2 p_setOf WsetOf) {WsetsOf : DFn} (FsetsOf : FD P w K mg base G "_sets_of" 3 p_setsOf WsetsOf) {WallSets : DFn} (FallSets : FD P w K mg base G "_all_sets" 1 p_allSets WallSets) {WhaveCom : DFn} (FhaveCom : FD P w K mg base G "_have_common" 1 p_haveCom WhaveCom) {WliesIn : DFn} (FliesIn : FD P w K mg base G "lies_in" 1 p_liesIn WliesIn)  {f : Addr} (cdv : Value) (A : Around) (outer : List Env) (s : Shared) (H : Hp) (E : XK) (gd0 : A.guards = some []) (hr : Room 3 (A.deeper (envOfC "meeting_sets" (defScope s_meeting) s.heap.objs.size f cdv))) :
    PSDs (cxOf (L2.CX P w) P w K mg base n_meeting "meeting_sets" (defScope s_meeting) f cdv A outer s H E) G (fun _ => E) (defBody s_meeting) (T_meeting WsetOf WsetsOf WallSets WhaveCom WliesIn) := by
  have gd : (cxOf (L2.CX P w) P w K mg base n_meeting "meeting_sets" (defScope s_meeting) f cdv A outer s H E).A.guards = some [] := gd0
  have tk : TkS (cxOf (L2.CX P w) P w K mg base n_meeting "meeting_sets" (defScope s_meeting) f cdv A outer s H E) (fun _ => E) := takes_of rfl rfl rfl rfl
  exact (psd_cons (psd_set (i := 0) sc_meeting.nd rfl (by first | exact Or.inl rfl | exact Or.inr rfl) (pd_call (ps := p_setOf) FsetOf FsetOf.dfl gd (hr.mono (by decide)) (Nat.le_refl _) (pass_tk tk) (pda_cons (pd_glob (by rfl) Fa.g_KINDS.choose_spec.1 Fa.g_KINDS.choose_spec.2) (pda_cons (pd_var (pv 0)) pda_nil))))
  (psd_cons (psd_set (i := 1) sc_meeting.nd rfl (by first | exact Or.inl rfl | exact Or.inr rfl) (pd_call (ps := p_setsOf) FsetsOf FsetsOf.dfl gd (hr.mono (by decide)) (Nat.le_refl _) (pass_tk tk) (pda_cons (pd_var (pv 0)) (pda_cons (pd_var (pv 1)) pda_nil))))
  (psd_cons (psd_set (i := 2) sc_meeting.nd rfl (by first | exact Or.inl rfl | exact Or.inr rfl) (pd_lc (own := [("one", 3)]) rfl sc_meeting.nd (blkOk_by (N := n_meeting) (sc := defScope s_meeting) (by decide +kernel)) (pdi (pd_call (ps := p_allSets) FallSets FallSets.dfl gd (hr.mono (by decide)) (Nat.le_refl _) (pass_tk tk) (pda_cons (pd_var (pv 0)) pda_nil))) (fun i1 => (pdg_name (i := 3) sc_meeting.nd rfl (by first | exact Or.inl rfl | exact Or.inr rfl))) (fun i1 => (pdts_one (pdt (pd_cb (fun ta pa => pe_callB (cr_all rfl) (by rfl) Fa.b_all (by decide +kernel) pa) allD_ok (pda_cons (pd_lc (own := [("other", 4)]) rfl sc_meeting.nd (by apply blkOk_by; show blkC n_meeting (relS _ (defScope s_meeting)) _ _ = true; decide +kernel) (pdi (pd_var (pv 1))) (fun i2 => (pdg_name (i := 4) sc_meeting.nd rfl (by first | exact Or.inl rfl | exact Or.inr rfl))) (fun i2 => pdts_nil) (fun i2 => (pd_call (ps := p_haveCom) FhaveCom FhaveCom.dfl (by exact gd) (by exact hr.mono (by decide)) (Nat.le_refl _) (by exact pass_s0) (pda_cons (pd_var (pv 3)) (pda_cons (pd_var (pv 4)) pda_nil))))) pda_nil))))) (fun i1 => (pd_var (pv 3)))))
  (psd_one (psd_ret (pd_cb (fun ta pa => pe_callTy call_tuple_of (by rfl) Fa.b_tuple (by decide +kernel) pa) tupleD_ok (pda_cons (pd_lc (own := [("one", 3)]) rfl sc_meeting.nd (blkOk_by (N := n_meeting) (sc := defScope s_meeting) (by decide +kernel)) (pdi (pd_var (pv 2))) (fun i1 => (pdg_name (i := 3) sc_meeting.nd rfl (by first | exact Or.inl rfl | exact Or.inr rfl))) (fun i1 => (pdts_one (pdt_not (pdt (pd_cb (fun ta pa => pe_callB (cr_any rfl) (by rfl) Fa.b_any (by decide +kernel) pa) anyD_ok (pda_cons (pd_lc (own := [("other", 4)]) rfl sc_meeting.nd (by apply blkOk_by; show blkC n_meeting (relS _ (defScope s_meeting)) _ _ = true; decide +kernel) (pdi (pd_var (pv 2))) (fun i2 => (pdg_name (i := 4) sc_meeting.nd rfl (by first | exact Or.inl rfl | exact Or.inr rfl))) (fun i2 => (pdts_one (pdt_cmp (OpR.or op_ne (op_neD hr.u64)) neD_ok (pd_var (pv 4)) (pd_var (pv 3)) (by with_unfolding_all rfl)))) (fun i2 => (pd_call (ps := p_liesIn) FliesIn FliesIn.dfl (by exact gd) (by exact hr.mono (by decide)) (Nat.le_refl _) (by exact pass_s0) (pda_cons (pd_var (pv 4)) (pda_cons (pd_var (pv 3)) pda_nil))))) pda_nil)))))) (fun i1 => (pd_var (pv 3)))) pda_nil)))))))
def raw_meeting (Fa : Txt K mg G) (R : RawFn K mg "meeting_sets" s_meeting p_meeting) {WsetOf : DFn} (FsetOf : FD P w K mg base G "_set_of" 2 p_setOf WsetOf) {WsetsOf : DFn} (FsetsOf : FD P w K mg base G "_sets_of" 3 p_setsOf WsetsOf) {WallSets : DFn} (FallSets : FD P w K mg base G "_all_sets" 1 p_allSets WallSets) {WhaveCom : DFn} (FhaveCom : FD P w K mg base G "_have_common" 1 p_haveCom WhaveCom) {WliesIn : DFn} (FliesIn : FD P w K mg base G "lies_in" 1 p_liesIn WliesIn)  : FD P w K mg base G "meeting_sets" 4 p_meeting (clW (dwp n_meeting.length (T_meeting WsetOf WsetsOf WallSets WhaveCom WliesIn))) :=
  FD.ofRaw R sc_meeting (by decide) fun cdv A outer s H E gd hr => der_meeting Fa FsetOf FsetsOf FallSets FhaveCom FliesIn cdv A outer s H E gd hr
/-! law -/
abbrev s_lLaw : Stmt := (top 27)
abbrev n_lLaw : List Str := ["script", "well", "kinds", "every", "sets", "turn", "one", "told", "kept", "asked", "met", "least", "less", "lacks", "kind", "row", "lots", "wrong", "due"]
abbrev p_lLaw : List Str := ["script"]
theorem sc_lLaw : FnScope n_lLaw p_lLaw (defScope s_lLaw) := ⟨rfl, rfl, rfl, by decide +kernel, rfl, by decide +kernel, by decide +kernel⟩
def T_lLaw (WlWell : DFn) (WlOne : DFn) (WlSets : DFn) (WlBad : DFn) (WlDraw : DFn) (WlTold : DFn) (WlMeets : DFn) (Wmeeting : DFn) (WlAns : DFn) (Wcompl : DFn) (WlIn : DFn) : DTS := (dSeq (dSet 1 (dCall 2 WlWell [] (dCons (dVar 0) (dCons (dC (.int 0)) dNil))))
  (dSeq (dSet 2 (dCall 2 WlOne [] (dCons (dVar 1) (dCons (dLst (dCons (dC (.str "abcd")) (dCons (dC (.str "abcd")) (dCons (dC (.str "abc")) (dCons (dC (.str "abd")) (dCons (dC (.str "bd")) (dCons (dC (.str "c")) (dCons (dC (.str "")) dNil)))))))) dNil))))
  (dSeq (dSet 3 (dCall 1 WlSets [] (dCons (dVar 2) dNil)))
  (dSeq (dSet 4 (dLc (dRange (dCons (dCall 2 WlDraw [] (dCons (dVar 1) (dCons (dC (.int 6)) dNil))) dNil)) (gN 5) dYes (dCall 2 WlOne [] (dCons (dVar 1) (dCons (dVar 3) dNil))) [5]))
  (dSeq (dIfS (dTst (dOp2 gtD (dCall 2 WlDraw [] (dCons (dVar 1) (dCons (dC (.int 3)) dNil))) (dC (.int 0)))) (dSet 4 (dLc (dIter (dVar 4)) (gN 6) (dTst (dOp2 neD (dVar 6) (dC (.str "")))) (dVar 6) [6])) dNx)
  (dSeq (dSet 7 (dLc (dIter (dVar 4)) (gN 6) dYes (dCall 2 WlTold [] (dCons (dVar 1) (dCons (dVar 6) dNil))) [6]))
  (dSeq (dPar 8 9 (dCons (dCB reprD (dCons (dVar 7) dNil)) (dCons (dCall 2 WlTold [] (dCons (dVar 1) (dCons (dVar 2) dNil))) dNil)))
  (dSeq (dSet 10 (dLc (dIter (dVar 3)) (gN 6) (dTru (dCall 2 WlMeets [] (dCons (dVar 6) (dCons (dVar 4) dNil)))) (dVar 6) [6]))
  (dSeq (dSet 11 (dLc (dIter (dVar 10)) (gN 6) (dTst (dOp2 eqD (dLc (dIter (dVar 10)) (gN 12) (dAnd (dTst (dOp2 neD (dVar 12) (dVar 6))) (dTru (dCall 2 WlIn [] (dCons (dVar 12) (dCons (dVar 6) dNil))))) (dVar 12) [12]) (dLst dNil))) (dVar 6) [6]))
  (dSeq (dSet 13 (dLc (dIter (dVar 4)) (gN 6) dYes (dJoin (dC (.str "")) (dLc (dIter (dVar 2)) (gN 14) (dTst (dOp2 notInD (dVar 14) (dVar 6))) (dVar 14) [14])) [6]))
  (dSeq (dFor (dRange (dCons (dC (.int 2)) dNil)) (gN 5) (dSeq (dIfS (dOr (dTst (dOp2 neD (dCB reprD (dCons (dCall 2 Wmeeting [] (dCons (dVar 9) (dCons (dVar 7) dNil))) dNil)) (dCB reprD (dCons (dCB tupleD (dCons (dVar 11) dNil)) dNil)))) (dTst (dOp2 neD (dCB reprD (dCons (dCall 2 Wcompl [] (dCons (dVar 9) (dCons (dVar 7) dNil))) dNil)) (dCB reprD (dCons (dCB tupleD (dCons (dVar 13) dNil)) dNil))))) (dRet (dC (.bl false))) dNx)
  (dIfS (dTst (dOp2 neD (dCB reprD (dCons (dCallK 0 2 [1, 0] Wmeeting [] dNil (dCons (dCB tupleD (dCons (dVar 7) dNil)) (dCons (dVar 2) dNil))) dNil)) (dCB reprD (dCons (dCB tupleD (dCons (dVar 11) dNil)) dNil)))) (dRet (dC (.bl false))) dNx)))
  (dSeq (dIfS (dTst (dOp2 neD (dCB reprD (dCons (dVar 7) dNil)) (dVar 8))) (dRet (dC (.bl false))) dNx)
  (dSeq (dAsg (dCall 3 WlBad [] (dCons (dVar 1) (dCons (dVar 2) (dCons (dVar 7) dNil)))) (gTp 3 (gCn (gN 15) (gCn (gN 16) (gCn (gN 17) gNl)))))
  (dSeq (dSet 18 (dCB reprD (dCons (dTup (dCons (dC (.str "none")) (dCons (dVar 17) (dCons (dC (.bl false)) dNil)))) dNil)))
  (dRet (dAndV (dOp2 eqD (dCB reprD (dCons (dCall 3 WlAns [] (dCons (dC (.fn "meeting_sets")) (dCons (dVar 15) (dCons (dVar 16) dNil)))) dNil)) (dVar 18)) (dOp2 eqD (dCB reprD (dCons (dCall 3 WlAns [] (dCons (dC (.fn "complement_sets")) (dCons (dVar 15) (dCons (dVar 16) dNil)))) dNil)) (dVar 18))))))))))))))))))
theorem der_lLaw (Fa : Txt K mg G) {WlWell : DFn} (FlWell : FD P w K mg base G "_law_well" 1 p_lWell WlWell) {WlOne : DFn} (FlOne : FD P w K mg base G "_law_one" 2 p_lOne WlOne) {WlSets : DFn} (FlSets : FD P w K mg base G "_law_sets" 1 p_lSets WlSets) {WlBad : DFn} (FlBad : FD P w K mg base G "_law_bad" 3 p_lBad WlBad) {WlDraw : DFn} (FlDraw : FD P w K mg base G "_law_draw" 1 p_lDraw WlDraw) {WlTold : DFn} (FlTold : FD P w K mg base G "_law_told" 3 p_lTold WlTold) {WlMeets : DFn} (FlMeets : FD P w K mg base G "_law_meets" 1 p_lMeets WlMeets) {Wmeeting : DFn} (Fmeeting : FD P w K mg base G "meeting_sets" 4 p_meeting Wmeeting) {WlAns : DFn} (FlAns : FD P w K mg base G "_law_answer" 9 p_lAns WlAns) {Wcompl : DFn} (Fcompl : FD P w K mg base G "complement_sets" 4 p_compl Wcompl) {WlIn : DFn} (FlIn : FD P w K mg base G "_law_in" 1 p_lIn WlIn) (KBm : Kwb K G Fmeeting.fd p_meeting ["sets", "kinds"] 0 [1, 0] []) (Ameeting_sets : At mg G "meeting_sets") (Acomplement_sets : At mg G "complement_sets") {f : Addr} (cdv : Value) (A : Around) (outer : List Env) (s : Shared) (H : Hp) (E : XK) (gd0 : A.guards = some []) (hr : Room 9 (A.deeper (envOfC "law" (defScope s_lLaw) s.heap.objs.size f cdv))) :
    PSDs (cxOf (L2.CX P w) P w K mg base n_lLaw "law" (defScope s_lLaw) f cdv A outer s H E) G (fun _ => E) (defBody s_lLaw) (T_lLaw WlWell WlOne WlSets WlBad WlDraw WlTold WlMeets Wmeeting WlAns Wcompl WlIn) := by
  have gd : (cxOf (L2.CX P w) P w K mg base n_lLaw "law" (defScope s_lLaw) f cdv A outer s H E).A.guards = some [] := gd0
  have hp : PassesOwn (model P w) (cxOf (L2.CX P w) P w K mg base n_lLaw "law" (defScope s_lLaw) f cdv A outer s H E).A (cxOf (L2.CX P w) P w K mg base n_lLaw "law" (defScope s_lLaw) f cdv A outer s H E).env (cxOf (L2.CX P w) P w K mg base n_lLaw "law" (defScope s_lLaw) f cdv A outer s H E).xe := passes_of rfl
  have tk : TkS (cxOf (L2.CX P w) P w K mg base n_lLaw "law" (defScope s_lLaw) f cdv A outer s H E) (fun _ => E) := takes_of rfl rfl rfl rfl
  exact (psd_cons (psd_set (i := 1) sc_lLaw.nd rfl (by first | exact Or.inl rfl | exact Or.inr rfl) (pd_call (ps := p_lWell) FlWell FlWell.dfl gd (hr.mono (by decide)) (Nat.le_refl _) (pass_tk tk) (pda_cons (pd_var (pv 0)) (pda_cons pd_int pda_nil))))
  (psd_cons (psd_set (i := 2) sc_lLaw.nd rfl (by first | exact Or.inl rfl | exact Or.inr rfl) (pd_call (ps := p_lOne) FlOne FlOne.dfl gd (hr.mono (by decide)) (Nat.le_refl _) (pass_tk tk) (pda_cons (pd_var (pv 1)) (pda_cons (pd_lst (pda_cons pd_str (pda_cons pd_str (pda_cons pd_str (pda_cons pd_str (pda_cons pd_str (pda_cons pd_str (pda_cons pd_str pda_nil)))))))) pda_nil))))
  (psd_cons (psd_set (i := 3) sc_lLaw.nd rfl (by first | exact Or.inl rfl | exact Or.inr rfl) (pd_call (ps := p_lSets) FlSets FlSets.dfl gd (hr.mono (by decide)) (Nat.le_refl _) (pass_tk tk) (pda_cons (pd_var (pv 2)) pda_nil)))
  (psd_cons (psd_set (i := 4) sc_lLaw.nd rfl (by first | exact Or.inl rfl | exact Or.inr rfl) (pd_lc (own := [("turn", 5)]) rfl sc_lLaw.nd (blkOk_by (N := n_lLaw) (sc := defScope s_lLaw) (by decide +kernel)) (pdi_range1 (by rfl) Fa.b_range (pd_call (ps := p_lDraw) FlDraw FlDraw.dfl gd (hr.mono (by decide)) (Nat.le_refl _) (pass_tk tk) (pda_cons (pd_var (pv 1)) (pda_cons pd_int pda_nil)))) (fun i1 => (pdg_name (i := 5) sc_lLaw.nd rfl (by first | exact Or.inl rfl | exact Or.inr rfl))) (fun i1 => pdts_nil) (fun i1 => (pd_call (ps := p_lOne) FlOne FlOne.dfl (by exact gd) (by exact hr.mono (by decide)) (Nat.le_refl _) (by exact pass_s0) (pda_cons (pd_var (pv 1)) (pda_cons (pd_var (pv 3)) pda_nil))))))
  (psd_cons (psd_if (pdt_cmp (OpR.or op_gt (op_gtD hr.u64)) gtD_ok (pd_call (ps := p_lDraw) FlDraw FlDraw.dfl gd (hr.mono (by decide)) (Nat.le_refl _) (pass_tk tk) (pda_cons (pd_var (pv 1)) (pda_cons pd_int pda_nil))) pd_int (by with_unfolding_all rfl)) (psd_one (psd_set (i := 4) sc_lLaw.nd rfl (by first | exact Or.inl rfl | exact Or.inr rfl) (pd_lc (own := [("one", 6)]) rfl sc_lLaw.nd (blkOk_by (N := n_lLaw) (sc := defScope s_lLaw) (by decide +kernel)) (pdi (pd_var (pv 4))) (fun i1 => (pdg_name (i := 6) sc_lLaw.nd rfl (by first | exact Or.inl rfl | exact Or.inr rfl))) (fun i1 => (pdts_one (pdt_cmp (OpR.or op_ne (op_neD hr.u64)) neD_ok (pd_var (pv 6)) pd_str (by with_unfolding_all rfl)))) (fun i1 => (pd_var (pv 6)))))) psd_nil)
  (psd_cons (psd_setLcG (i := 7) (own := [("one", 6)]) rfl sc_lLaw.nd rfl rfl (sw_true rfl rfl rfl (by decide +kernel)) (blkOk_by (N := n_lLaw) (sc := defScope s_lLaw) (by decide +kernel)) (pdi (pd_var (pv 4))) (fun i1 => (pdg_name (i := 6) sc_lLaw.nd rfl (by first | exact Or.inl rfl | exact Or.inr rfl))) (fun i1 => pdts_nil) (fun i1 => (pd_call (ps := p_lTold) FlTold FlTold.dfl (by exact gd) (by exact hr.mono (by decide)) (Nat.le_refl _) (by exact pass_s0) (pda_cons (pd_var (pv 1)) (pda_cons (pd_var (pv 6)) pda_nil)))) (by decide) (by intro _; rfl)).1
  (psd_cons (psd_par rfl sc_lLaw.nd (fun ta pa => ps_par (i := 8) (j := 9) (by rfl) sc_lLaw.nd rfl rfl (by decide) rfl rfl pa (by rfl)) (pda_cons (pd_cb (fun ta pa => pe_callB (My.cr_repr gd hr.u64) (by rfl) Fa.b_repr (by decide +kernel) pa) reprD_ok (pda_cons (pd_var (pv 7)) pda_nil)) (pda_cons (pd_call (ps := p_lTold) FlTold FlTold.dfl gd (hr.mono (by decide)) (Nat.le_refl _) (pass_tk tk) (pda_cons (pd_var (pv 1)) (pda_cons (pd_var (pv 2)) pda_nil))) pda_nil)))
  (psd_cons (psd_set (i := 10) sc_lLaw.nd rfl (by first | exact Or.inl rfl | exact Or.inr rfl) (pd_lc (own := [("one", 6)]) rfl sc_lLaw.nd (blkOk_by (N := n_lLaw) (sc := defScope s_lLaw) (by decide +kernel)) (pdi (pd_var (pv 3))) (fun i1 => (pdg_name (i := 6) sc_lLaw.nd rfl (by first | exact Or.inl rfl | exact Or.inr rfl))) (fun i1 => (pdts_one (pdt (pd_call (ps := p_lMeets) FlMeets FlMeets.dfl (by exact gd) (by exact hr.mono (by decide)) (Nat.le_refl _) (by exact pass_s0) (pda_cons (pd_var (pv 6)) (pda_cons (pd_var (pv 4)) pda_nil)))))) (fun i1 => (pd_var (pv 6)))))
  (psd_cons (psd_setLcG (i := 11) (own := [("one", 6)]) rfl sc_lLaw.nd rfl rfl (sw_true rfl rfl rfl (by decide +kernel)) (blkOk_by (N := n_lLaw) (sc := defScope s_lLaw) (by decide +kernel)) (pdi (pd_var (pv 10))) (fun i1 => (pdg_name (i := 6) sc_lLaw.nd rfl (by first | exact Or.inl rfl | exact Or.inr rfl))) (fun i1 => (pdts_one (pdt_cmp (OpR.or op_eq (op_eqD hr.u64)) eqD_ok (pd_lc (own := [("less", 12)]) rfl sc_lLaw.nd (by apply blkOk_by; show blkC n_lLaw (relS _ (defScope s_lLaw)) _ _ = true; decide +kernel) (pdi (pd_var (pv 10))) (fun i2 => (pdg_name (i := 12) sc_lLaw.nd rfl (by first | exact Or.inl rfl | exact Or.inr rfl))) (fun i2 => (pdts_one (pdt_w (pdw_and (pdt_cmp (OpR.or op_ne (op_neD hr.u64)) neD_ok (pd_var (pv 12)) (pd_var (pv 6)) (by with_unfolding_all rfl)) (pdw_and1 (pdt (pd_call (ps := p_lIn) FlIn FlIn.dfl (by exact gd) (by exact hr.mono (by decide)) (Nat.le_refl _) (by exact pass_s0) (pda_cons (pd_var (pv 12)) (pda_cons (pd_var (pv 6)) pda_nil))))))))) (fun i2 => (pd_var (pv 12)))) (pd_lst pda_nil) (by with_unfolding_all rfl)))) (fun i1 => (pd_var (pv 6))) (by decide) (by intro _; rfl)).1
  (psd_cons (psd_setLcG (i := 13) (own := [("one", 6)]) rfl sc_lLaw.nd rfl rfl (sw_true rfl rfl rfl (by decide +kernel)) (blkOk_by (N := n_lLaw) (sc := defScope s_lLaw) (by decide +kernel)) (pdi (pd_var (pv 4))) (fun i1 => (pdg_name (i := 6) sc_lLaw.nd rfl (by first | exact Or.inl rfl | exact Or.inr rfl))) (fun i1 => pdts_nil) (fun i1 => (pd_join pd_str (pd_lc (own := [("kind", 14)]) rfl sc_lLaw.nd (by apply blkOk_by; show blkC n_lLaw (relS _ (defScope s_lLaw)) _ _ = true; decide +kernel) (pdi (pd_var (pv 2))) (fun i2 => (pdg_name (i := 14) sc_lLaw.nd rfl (by first | exact Or.inl rfl | exact Or.inr rfl))) (fun i2 => (pdts_one (pdt_cmp (opr_notIn hr.u65) notInD_ok (pd_var (pv 14)) (pd_var (pv 6)) (by with_unfolding_all rfl)))) (fun i2 => (pd_var (pv 14)))) (fun ta tb pa pb => pe_join pa pb))) (by decide) (by intro _; rfl)).1
  (psd_cons (psd_for hp rfl (pdi_range1 (by rfl) Fa.b_range pd_int) (pdg_name (i := 5) sc_lLaw.nd rfl (by first | exact Or.inl rfl | exact Or.inr rfl)) (psd_cons (psd_if (pdt_w (pdw_or (pdt_cmp (OpR.or op_ne (op_neD hr.u64)) neD_ok (pd_cb (fun ta pa => pe_callB (My.cr_repr gd hr.u64) (by rfl) Fa.b_repr (by decide +kernel) pa) reprD_ok (pda_cons (pd_call (ps := p_meeting) Fmeeting Fmeeting.dfl gd (hr.mono (by decide)) (Nat.le_refl _) (pass_tk tk) (pda_cons (pd_var (pv 9)) (pda_cons (pd_var (pv 7)) pda_nil))) pda_nil)) (pd_cb (fun ta pa => pe_callB (My.cr_repr gd hr.u64) (by rfl) Fa.b_repr (by decide +kernel) pa) reprD_ok (pda_cons (pd_cb (fun ta pa => pe_callTy call_tuple_of (by rfl) Fa.b_tuple (by decide +kernel) pa) tupleD_ok (pda_cons (pd_var (pv 11)) pda_nil)) pda_nil)) (by with_unfolding_all rfl)) (pdw_or1 (pdt_cmp (OpR.or op_ne (op_neD hr.u64)) neD_ok (pd_cb (fun ta pa => pe_callB (My.cr_repr gd hr.u64) (by rfl) Fa.b_repr (by decide +kernel) pa) reprD_ok (pda_cons (pd_call (ps := p_compl) Fcompl Fcompl.dfl gd (hr.mono (by decide)) (Nat.le_refl _) (pass_tk tk) (pda_cons (pd_var (pv 9)) (pda_cons (pd_var (pv 7)) pda_nil))) pda_nil)) (pd_cb (fun ta pa => pe_callB (My.cr_repr gd hr.u64) (by rfl) Fa.b_repr (by decide +kernel) pa) reprD_ok (pda_cons (pd_cb (fun ta pa => pe_callTy call_tuple_of (by rfl) Fa.b_tuple (by decide +kernel) pa) tupleD_ok (pda_cons (pd_var (pv 13)) pda_nil)) pda_nil)) (by with_unfolding_all rfl))))) (psd_one (psd_ret pd_bl)) psd_nil)
  (psd_one (psd_if (pdt_cmp (OpR.or op_ne (op_neD hr.u64)) neD_ok (pd_cb (fun ta pa => pe_callB (My.cr_repr gd hr.u64) (by rfl) Fa.b_repr (by decide +kernel) pa) reprD_ok (pda_cons (pd_callK0 (ps := p_meeting) Fmeeting KBm gd (hr.mono (by decide)) (Nat.le_refl _) (pass_tk tk) (pdk_cons (pd_cb (fun ta pa => pe_callTy call_tuple_of (by rfl) Fa.b_tuple (by decide +kernel) pa) tupleD_ok (pda_cons (pd_var (pv 7)) pda_nil)) (pdk_cons (pd_var (pv 2)) pdk_nil))) pda_nil)) (pd_cb (fun ta pa => pe_callB (My.cr_repr gd hr.u64) (by rfl) Fa.b_repr (by decide +kernel) pa) reprD_ok (pda_cons (pd_cb (fun ta pa => pe_callTy call_tuple_of (by rfl) Fa.b_tuple (by decide +kernel) pa) tupleD_ok (pda_cons (pd_var (pv 11)) pda_nil)) pda_nil)) (by with_unfolding_all rfl)) (psd_one (psd_ret pd_bl)) psd_nil))))
  (psd_cons (psd_if (pdt_cmp (OpR.or op_ne (op_neD hr.u64)) neD_ok (pd_cb (fun ta pa => pe_callB (My.cr_repr gd hr.u64) (by rfl) Fa.b_repr (by decide +kernel) pa) reprD_ok (pda_cons (pd_var (pv 7)) pda_nil)) (pd_var (pv 8)) (by with_unfolding_all rfl)) (psd_one (psd_ret pd_bl)) psd_nil)
  (psd_cons (psd_asg (pd_call (ps := p_lBad) FlBad FlBad.dfl gd (hr.mono (by decide)) (Nat.le_refl _) (pass_tk tk) (pda_cons (pd_var (pv 1)) (pda_cons (pd_var (pv 2)) (pda_cons (pd_var (pv 7)) pda_nil)))) (pdg_tup rfl (pdgs_cons (pdg_name (i := 15) sc_lLaw.nd rfl (by first | exact Or.inl rfl | exact Or.inr rfl)) (pdgs_cons (pdg_name (i := 16) sc_lLaw.nd rfl (by first | exact Or.inl rfl | exact Or.inr rfl)) (pdgs_cons (pdg_name (i := 17) sc_lLaw.nd rfl (by first | exact Or.inl rfl | exact Or.inr rfl)) pdgs_nil)))))
  (psd_cons (psd_set (i := 18) sc_lLaw.nd rfl (by first | exact Or.inl rfl | exact Or.inr rfl) (pd_cb (fun ta pa => pe_callB (My.cr_repr gd hr.u64) (by rfl) Fa.b_repr (by decide +kernel) pa) reprD_ok (pda_cons (pd_tup (pda_cons pd_str (pda_cons (pd_var (pv 17)) (pda_cons pd_bl pda_nil)))) pda_nil)))
  (psd_one (psd_ret (pd_and (pd_cmp (OpR.or op_eq (op_eqD hr.u64)) eqD_ok (pd_cb (fun ta pa => pe_callB (My.cr_repr gd hr.u64) (by rfl) Fa.b_repr (by decide +kernel) pa) reprD_ok (pda_cons (pd_call (ps := p_lAns) FlAns FlAns.dfl gd (hr.mono (by decide)) (Nat.le_refl _) (pass_tk tk) (pda_cons (pd_fn (by rfl) Ameeting_sets.m Ameeting_sets.f) (pda_cons (pd_var (pv 15)) (pda_cons (pd_var (pv 16)) pda_nil)))) pda_nil)) (pd_var (pv 18)) (by with_unfolding_all rfl)) (pd_one (pd_cmp (OpR.or op_eq (op_eqD hr.u64)) eqD_ok (pd_cb (fun ta pa => pe_callB (My.cr_repr gd hr.u64) (by rfl) Fa.b_repr (by decide +kernel) pa) reprD_ok (pda_cons (pd_call (ps := p_lAns) FlAns FlAns.dfl gd (hr.mono (by decide)) (Nat.le_refl _) (pass_tk tk) (pda_cons (pd_fn (by rfl) Acomplement_sets.m Acomplement_sets.f) (pda_cons (pd_var (pv 15)) (pda_cons (pd_var (pv 16)) pda_nil)))) pda_nil)) (pd_var (pv 18)) (by with_unfolding_all rfl))))))))))))))))))))
def raw_lLaw (Fa : Txt K mg G) (R : RawFn K mg "law" s_lLaw p_lLaw) {WlWell : DFn} (FlWell : FD P w K mg base G "_law_well" 1 p_lWell WlWell) {WlOne : DFn} (FlOne : FD P w K mg base G "_law_one" 2 p_lOne WlOne) {WlSets : DFn} (FlSets : FD P w K mg base G "_law_sets" 1 p_lSets WlSets) {WlBad : DFn} (FlBad : FD P w K mg base G "_law_bad" 3 p_lBad WlBad) {WlDraw : DFn} (FlDraw : FD P w K mg base G "_law_draw" 1 p_lDraw WlDraw) {WlTold : DFn} (FlTold : FD P w K mg base G "_law_told" 3 p_lTold WlTold) {WlMeets : DFn} (FlMeets : FD P w K mg base G "_law_meets" 1 p_lMeets WlMeets) {Wmeeting : DFn} (Fmeeting : FD P w K mg base G "meeting_sets" 4 p_meeting Wmeeting) {WlAns : DFn} (FlAns : FD P w K mg base G "_law_answer" 9 p_lAns WlAns) {Wcompl : DFn} (Fcompl : FD P w K mg base G "complement_sets" 4 p_compl Wcompl) {WlIn : DFn} (FlIn : FD P w K mg base G "_law_in" 1 p_lIn WlIn) (KBm : Kwb K G Fmeeting.fd p_meeting ["sets", "kinds"] 0 [1, 0] []) (Ameeting_sets : At mg G "meeting_sets") (Acomplement_sets : At mg G "complement_sets") : FD P w K mg base G "law" 10 p_lLaw (clW (dwp n_lLaw.length (T_lLaw WlWell WlOne WlSets WlBad WlDraw WlTold WlMeets Wmeeting WlAns Wcompl WlIn))) :=
  FD.ofRaw R sc_lLaw (by decide) fun cdv A outer s H E gd hr => der_lLaw Fa FlWell FlOne FlSets FlBad FlDraw FlTold FlMeets Fmeeting FlAns Fcompl FlIn KBm Ameeting_sets Acomplement_sets cdv A outer s H E gd hr
end
end K65
set_option Elab.async false
set_option linter.all false
set_option autoImplicit false
set_option maxRecDepth 100000
set_option maxHeartbeats 4000000
namespace K65
open PySem PySem.Spec PyProof.Rows L2 Evl Dl
def WlDraw : DFn := fun ds μ EX Q => ∃ (n : Nat) (m a b : Int), ds = [.cel n, .int m] ∧ 0 < m ∧ m < 1073741824 ∧ 0 ≤ a ∧ μ[n]? = some (some (.lst [.int a, .int b])) ∧ ∀ d a' b' : Int, 0 ≤ d → d < m → 0 ≤ a' → Q (.int d) (μ.set n (some (.lst [.int a', .int b'])))
theorem mono_lDraw : MonoW WlDraw := fun ds μ EX Q Q' i ⟨n, m, a, b, e, h1, h2, h3, h4, h⟩ => ⟨n, m, a, b, e, h1, h2, h3, h4, fun d a' b' k1 k2 k3 => i _ _ (h d a' b' k1 k2 k3)⟩
theorem sp_lDraw (ds : List D) (μ : Mu) (EX : EX0) (Q : D → Mu → Prop) (h : WlDraw ds μ EX Q) : clW (dwp n_lDraw.length T_lDraw) ds μ EX Q := by
  obtain ⟨n, m, a, b, rfl, h1, h2, h3, h4, h⟩ := h
  refine clW_of ?_
  have e1 := fun x => drf_set (x := x) h4
  have m1 := fun i => mulD_c i 48271 (by decide)
  have m2 := fun i => mulD_c i 69621 (by decide)
  simp [dwp, dSeq, dIfS, dTst, dTru, dNot, dOp2, dOp1, dVar, dC, dSet, dSetI, dRet, dRetN, dNx, dNo, dCB, dCons, dNil, dAnd, dOr, dDrop, dTup, dLst, dLstC, dIfE, dAndV, dOrV, dNotV, dFrz, fzD, env0, endsF, drf_non, drf_bl, drf_int, drf_str, drf_lst, drf_tup, drf_scr, drf_val, drf_fn, drf_exc, modD_i, fdivD_i, subD_i, addD_i, andD_i, gtD_i, ltD_i, geD_i, leD_i, eqD_i, neD_i, eqD_s, neD_s, intD_i, absD_i, ixD_0, ixD_1, ixD_t0, ixD_t1, truth, T_lDraw, h4, drf_cel h4, h1, h2, ixN, e1, m1, m2]
  by_cases ha : 0 < a
  · exact .inr ⟨ha, h _ _ _ (Int.emod_nonneg _ (by omega)) (Int.emod_lt_of_pos _ h1) (Int.ediv_nonneg h3 (by omega))⟩
  · exact .inl ⟨by omega, h _ _ _ (Int.emod_nonneg _ (by omega)) (Int.emod_lt_of_pos _ h1) h3⟩
/-! the well -/
def Box (n : Nat) (μ : Mu) : Prop := ∃ a b : Int, 0 ≤ a ∧ μ[n]? = some (some (.lst [.int a, .int b]))
theorem Box.set {n : Nat} {μ : Mu} {a b : Int} (h : Box n μ) (ha : 0 ≤ a) : Box n (μ.set n (some (.lst [.int a, .int b]))) := by
  obtain ⟨a0, b0, _, e⟩ := h
  exact ⟨a, b, ha, mu_self e⟩
/-- an item drawn of a list (data, or another cell's) -/
def WlOne : DFn := fun ds μ EX Q => ∃ (n : Nat) (x : D) (xs : List D), ds = [.cel n, x] ∧ drf μ x = .lst xs ∧ (∀ a b : Int, drf (μ.set n (some (.lst [.int a, .int b]))) x = .lst xs) ∧ 0 < xs.length ∧ xs.length < 1073741824 ∧ Box n μ ∧ ∀ d ∈ xs, ∀ a b : Int, 0 ≤ a → Q d (μ.set n (some (.lst [.int a, .int b])))
theorem mono_lOne : MonoW WlOne := fun ds μ EX Q Q' i ⟨n, x, xs, e, h1, h2, h3, h4, h5, h⟩ => ⟨n, x, xs, e, h1, h2, h3, h4, h5, fun d m a b k => i _ _ (h d m a b k)⟩
theorem sp_lOne (ds : List D) (μ : Mu) (EX : EX0) (Q : D → Mu → Prop) (h : WlOne ds μ EX Q) : clW (dwp n_lOne.length (T_lOne WlDraw)) ds μ EX Q := by
  obtain ⟨n, x, xs, rfl, h1, h2, h3, h4, ⟨a, b, h5, h6⟩, h⟩ := h
  refine clW_of ?_
  simp [dwp, dSeq, dIfS, dTst, dTru, dNot, dOp2, dOp1, dVar, dC, dSet, dSetI, dRet, dRetN, dNx, dNo, dCB, dCons, dNil, dAnd, dOr, dDrop, dTup, dLst, dLstC, dIfE, dAndV, dOrV, dNotV, dFrz, fzD, env0, endsF, drf_non, drf_bl, drf_int, drf_str, drf_lst, drf_tup, drf_scr, drf_val, drf_fn, drf_exc, modD_i, fdivD_i, subD_i, addD_i, andD_i, gtD_i, ltD_i, geD_i, leD_i, eqD_i, neD_i, eqD_s, neD_s, intD_i, absD_i, ixD_0, ixD_1, ixD_t0, ixD_t1, truth, T_lOne, dCall, h1, lenD]
  refine ⟨n, xs.length, a, b, rfl, by omega, by omega, h5, h6, fun d a' b' k1 k2 k3 => ?_⟩
  show ∃ d', ixD (drf _ x) (drf _ (.int d)) = some d' ∧ Q d' _
  rw [h2, drf_int]
  have hd : d.toNat < xs.length := by omega
  exact ⟨_, ixD_nat k1 (List.getElem?_eq_getElem hd), h _ (List.getElem_mem hd) a' b' k3⟩
/-! texts -/
def L4 : List Str := ["a", "b", "c", "d"]
structure Lt (a : Str) : Prop where
  len : a.length ≤ 1000
  ls : ∀ c ∈ sg a, c ∈ L4
theorem Lt.line {a : Str} (h : Lt a) : (sg a).length ≤ sizeLine := by
  rw [sg_len]
  exact Nat.le_trans h.len (by decide)
def liesB (a b : Str) : Bool := (sg a).all fun c => hasS c b
def comB (a b : Str) : Bool := (sg a).any fun c => hasS c b
def lackS (a b : Str) : List Str := (sg a).filter fun c => !hasS c b
def haveS (a b : Str) : List Str := (sg a).filter fun c => hasS c b
theorem toPs_str : ∀ l : List Str, toPs (l.map D.str) = some (l.map PyData.str)
  | [] => rfl
  | a :: l => by
    show (toP (.str a)).bind (fun p => (toPs (l.map D.str)).map fun ps => p :: ps) = _
    rw [toPs_str l]
    rfl
theorem lay4 : ∀ c ∈ L4, (PyData.str c).canLay0 = true := by decide +kernel
theorem shaped_strs {l : List Str} (h : ∀ c ∈ l, (PyData.str c).canLay0 = true) : SeqAt.shaped (.list (l.map PyData.str)) = true :=
  (My.sh_lst (k := 0) fun d m => by
    obtain ⟨c, mc, rfl⟩ := List.mem_map.mp m
    exact My.sh_str (h c mc)).shaped (by decide)
theorem eqD_nil {l : List Str} (h : ∀ c ∈ l, (PyData.str c).canLay0 = true) : eqD (.lst (l.map D.str)) (.lst []) = some (.bl l.isEmpty) := by
  show eqvD id _ _ = _
  unfold eqvD
  have e1 : toP (.lst (l.map D.str)) = some (.list (l.map .str)) := by
    show (toPs _).map _ = _
    rw [toPs_str]
    rfl
  have e2 : toP (.lst []) = some (.list []) := rfl
  rw [e1, e2]
  dsimp only
  rw [if_pos ⟨shaped_strs h, by decide +kernel⟩]
  cases l with
  | nil => rfl
  | cons a l => rfl
def WliesIn : DFn := fun ds μ EX Q => ∃ a b, ds = [.str a, .str b] ∧ Lt a ∧ Q (.bl (liesB a b)) μ
theorem mono_liesIn : MonoW WliesIn := fun ds μ EX Q Q' i ⟨a, b, e, h1, h⟩ => ⟨a, b, e, h1, i _ _ h⟩
theorem sp_liesIn (ds : List D) (μ : Mu) (EX : EX0) (Q : D → Mu → Prop) (h : WliesIn ds μ EX Q) : clW (dwp n_liesIn.length T_liesIn) ds μ EX Q := by
  obtain ⟨a, b, rfl, h1, h⟩ := h
  refine clW_of ?_
  simp [dwp, dSeq, dIfS, dTst, dTru, dNot, dOp2, dOp1, dVar, dC, dSet, dSetI, dRet, dRetN, dNx, dNo, dCB, dCons, dNil, dAnd, dOr, dDrop, dTup, dLst, dLstC, dIfE, dAndV, dOrV, dNotV, dFrz, fzD, env0, endsF, drf_non, drf_bl, drf_int, drf_str, drf_lst, drf_tup, drf_scr, drf_val, drf_fn, drf_exc, modD_i, fdivD_i, subD_i, addD_i, andD_i, gtD_i, ltD_i, geD_i, leD_i, eqD_i, neD_i, eqD_s, neD_s, intD_i, absD_i, ixD_0, ixD_1, ixD_t0, ixD_t1, truth, dLc, dLcA, dLcC, dLcAC, dIter, dSrc_str, dSrc_lst, dSrc_tup, dYes, gN, gTp, gCn, gNl, wipeD, uAdd, uFor, uAddX, noChk, inD_s, notInD_s, lenD_s, lenD_l, dCall, T_liesIn]
  refine actL_g .str (fun _ => true) (fun c => .bl (hasS c b)) _ [] (by simpa using h1.line) trivial (fun c m acc Q' hl q => ?_) ?_
  · simp [dwp, dSeq, dIfS, dTst, dTru, dNot, dOp2, dOp1, dVar, dC, dSet, dSetI, dRet, dRetN, dNx, dNo, dCB, dCons, dNil, dAnd, dOr, dDrop, dTup, dLst, dLstC, dIfE, dAndV, dOrV, dNotV, dFrz, fzD, env0, endsF, drf_non, drf_bl, drf_int, drf_str, drf_lst, drf_tup, drf_scr, drf_val, drf_fn, drf_exc, modD_i, fdivD_i, subD_i, addD_i, andD_i, gtD_i, ltD_i, geD_i, leD_i, eqD_i, neD_i, eqD_s, neD_s, intD_i, absD_i, ixD_0, ixD_1, ixD_t0, ixD_t1, truth, dLc, dLcA, dLcC, dLcAC, dIter, dSrc_str, dSrc_lst, dSrc_tup, dYes, gN, gTp, gCn, gNl, wipeD, uAdd, uFor, uAddX, noChk, inD_s, notInD_s, lenD_s, lenD_l, dCall]
    exact ⟨hl, q⟩
  · rw [fT]
    exact ⟨_, allD_map (fun c => hasS c b) (sg a), h⟩
def WhaveCom : DFn := fun ds μ EX Q => ∃ a b, ds = [.str a, .str b] ∧ Lt a ∧ Q (.bl (comB a b)) μ
theorem mono_haveCom : MonoW WhaveCom := fun ds μ EX Q Q' i ⟨a, b, e, h1, h⟩ => ⟨a, b, e, h1, i _ _ h⟩
theorem sp_haveCom (ds : List D) (μ : Mu) (EX : EX0) (Q : D → Mu → Prop) (h : WhaveCom ds μ EX Q) : clW (dwp n_haveCom.length T_haveCom) ds μ EX Q := by
  obtain ⟨a, b, rfl, h1, h⟩ := h
  refine clW_of ?_
  simp [dwp, dSeq, dIfS, dTst, dTru, dNot, dOp2, dOp1, dVar, dC, dSet, dSetI, dRet, dRetN, dNx, dNo, dCB, dCons, dNil, dAnd, dOr, dDrop, dTup, dLst, dLstC, dIfE, dAndV, dOrV, dNotV, dFrz, fzD, env0, endsF, drf_non, drf_bl, drf_int, drf_str, drf_lst, drf_tup, drf_scr, drf_val, drf_fn, drf_exc, modD_i, fdivD_i, subD_i, addD_i, andD_i, gtD_i, ltD_i, geD_i, leD_i, eqD_i, neD_i, eqD_s, neD_s, intD_i, absD_i, ixD_0, ixD_1, ixD_t0, ixD_t1, truth, dLc, dLcA, dLcC, dLcAC, dIter, dSrc_str, dSrc_lst, dSrc_tup, dYes, gN, gTp, gCn, gNl, wipeD, uAdd, uFor, uAddX, noChk, inD_s, notInD_s, lenD_s, lenD_l, dCall, T_haveCom]
  refine actL_g .str (fun _ => true) (fun c => .bl (hasS c b)) _ [] (by simpa using h1.line) trivial (fun c m acc Q' hl q => ?_) ?_
  · simp [dwp, dSeq, dIfS, dTst, dTru, dNot, dOp2, dOp1, dVar, dC, dSet, dSetI, dRet, dRetN, dNx, dNo, dCB, dCons, dNil, dAnd, dOr, dDrop, dTup, dLst, dLstC, dIfE, dAndV, dOrV, dNotV, dFrz, fzD, env0, endsF, drf_non, drf_bl, drf_int, drf_str, drf_lst, drf_tup, drf_scr, drf_val, drf_fn, drf_exc, modD_i, fdivD_i, subD_i, addD_i, andD_i, gtD_i, ltD_i, geD_i, leD_i, eqD_i, neD_i, eqD_s, neD_s, intD_i, absD_i, ixD_0, ixD_1, ixD_t0, ixD_t1, truth, dLc, dLcA, dLcC, dLcAC, dIter, dSrc_str, dSrc_lst, dSrc_tup, dYes, gN, gTp, gCn, gNl, wipeD, uAdd, uFor, uAddX, noChk, inD_s, notInD_s, lenD_s, lenD_l, dCall]
    exact ⟨hl, q⟩
  · rw [fT]
    exact ⟨_, anyD_map (fun c => hasS c b) (sg a), h⟩
def WlIn : DFn := fun ds μ EX Q => ∃ a b, ds = [.str a, .str b] ∧ Lt a ∧ Q (.bl (lackS a b).isEmpty) μ
theorem mono_lIn : MonoW WlIn := fun ds μ EX Q Q' i ⟨a, b, e, h1, h⟩ => ⟨a, b, e, h1, i _ _ h⟩
theorem or_if {c : Bool} {A B : Prop} (h : if c = true then A else B) : (c = true ∧ A) ∨ (c = false ∧ B) := by
  cases c with
  | true => exact .inl ⟨rfl, h⟩
  | false => exact .inr ⟨rfl, h⟩
theorem sp_lIn (ds : List D) (μ : Mu) (EX : EX0) (Q : D → Mu → Prop) (h : WlIn ds μ EX Q) : clW (dwp n_lIn.length T_lIn) ds μ EX Q := by
  obtain ⟨a, b, rfl, h1, h⟩ := h
  refine clW_of ?_
  simp [dwp, dSeq, dIfS, dTst, dTru, dNot, dOp2, dOp1, dVar, dC, dSet, dSetI, dRet, dRetN, dNx, dNo, dCB, dCons, dNil, dAnd, dOr, dDrop, dTup, dLst, dLstC, dIfE, dAndV, dOrV, dNotV, dFrz, fzD, env0, endsF, drf_non, drf_bl, drf_int, drf_str, drf_lst, drf_tup, drf_scr, drf_val, drf_fn, drf_exc, modD_i, fdivD_i, subD_i, addD_i, andD_i, gtD_i, ltD_i, geD_i, leD_i, eqD_i, neD_i, eqD_s, neD_s, intD_i, absD_i, ixD_0, ixD_1, ixD_t0, ixD_t1, truth, dLc, dLcA, dLcC, dLcAC, dIter, dSrc_str, dSrc_lst, dSrc_tup, dYes, gN, gTp, gCn, gNl, wipeD, uAdd, uFor, uAddX, noChk, inD_s, notInD_s, lenD_s, lenD_l, dCall, T_lIn]
  refine actL_g .str (fun c => !hasS c b) .str _ [] (by simpa using h1.line) trivial (fun c m acc Q' hl q => ?_) ?_
  · simp [dwp, dSeq, dIfS, dTst, dTru, dNot, dOp2, dOp1, dVar, dC, dSet, dSetI, dRet, dRetN, dNx, dNo, dCB, dCons, dNil, dAnd, dOr, dDrop, dTup, dLst, dLstC, dIfE, dAndV, dOrV, dNotV, dFrz, fzD, env0, endsF, drf_non, drf_bl, drf_int, drf_str, drf_lst, drf_tup, drf_scr, drf_val, drf_fn, drf_exc, modD_i, fdivD_i, subD_i, addD_i, andD_i, gtD_i, ltD_i, geD_i, leD_i, eqD_i, neD_i, eqD_s, neD_s, intD_i, absD_i, ixD_0, ixD_1, ixD_t0, ixD_t1, truth, dLc, dLcA, dLcC, dLcAC, dIter, dSrc_str, dSrc_lst, dSrc_tup, dYes, gN, gTp, gCn, gNl, wipeD, uAdd, uFor, uAddX, noChk, inD_s, notInD_s, lenD_s, lenD_l, dCall]
    cases e : hasS c b with
    | true => rw [e] at q; exact .inl ⟨rfl, q⟩
    | false => rw [e] at q; exact .inr ⟨rfl, hl, q⟩
  · exact ⟨_, eqD_nil fun c m => lay4 c (h1.ls c ((List.mem_filter.mp m).1)), h⟩
def WlMeets : DFn := fun ds μ EX Q => ∃ (a : Str) (l : List Str), ds = [.str a, .lst (l.map D.str)] ∧ l.length ≤ 1000 ∧ (∀ b ∈ l, Lt b ∧ (PyData.str b).canLay0 = true) ∧ Q (.bl (l.filter fun b => (haveS b a).isEmpty).isEmpty) μ
theorem mono_lMeets : MonoW WlMeets := fun ds μ EX Q Q' i ⟨a, b, e, h1, h2, h⟩ => ⟨a, b, e, h1, h2, i _ _ h⟩
theorem sp_lMeets (ds : List D) (μ : Mu) (EX : EX0) (Q : D → Mu → Prop) (h : WlMeets ds μ EX Q) : clW (dwp n_lMeets.length T_lMeets) ds μ EX Q := by
  obtain ⟨a, l, rfl, h1, h2, h⟩ := h
  refine clW_of ?_
  simp [dwp, dSeq, dIfS, dTst, dTru, dNot, dOp2, dOp1, dVar, dC, dSet, dSetI, dRet, dRetN, dNx, dNo, dCB, dCons, dNil, dAnd, dOr, dDrop, dTup, dLst, dLstC, dIfE, dAndV, dOrV, dNotV, dFrz, fzD, env0, endsF, drf_non, drf_bl, drf_int, drf_str, drf_lst, drf_tup, drf_scr, drf_val, drf_fn, drf_exc, modD_i, fdivD_i, subD_i, addD_i, andD_i, gtD_i, ltD_i, geD_i, leD_i, eqD_i, neD_i, eqD_s, neD_s, intD_i, absD_i, ixD_0, ixD_1, ixD_t0, ixD_t1, truth, dLc, dLcA, dLcC, dLcAC, dIter, dSrc_str, dSrc_lst, dSrc_tup, dYes, gN, gTp, gCn, gNl, wipeD, uAdd, uFor, uAddX, noChk, inD_s, notInD_s, lenD_s, lenD_l, dCall, T_lMeets]
  refine actL_g .str (fun b => (haveS b a).isEmpty) .str _ [] (by simp; exact Nat.le_trans h1 (by decide)) trivial (fun b m acc Q' hl q => ?_) ?_
  · have hb := (h2 b m).1
    simp [dwp, dSeq, dIfS, dTst, dTru, dNot, dOp2, dOp1, dVar, dC, dSet, dSetI, dRet, dRetN, dNx, dNo, dCB, dCons, dNil, dAnd, dOr, dDrop, dTup, dLst, dLstC, dIfE, dAndV, dOrV, dNotV, dFrz, fzD, env0, endsF, drf_non, drf_bl, drf_int, drf_str, drf_lst, drf_tup, drf_scr, drf_val, drf_fn, drf_exc, modD_i, fdivD_i, subD_i, addD_i, andD_i, gtD_i, ltD_i, geD_i, leD_i, eqD_i, neD_i, eqD_s, neD_s, intD_i, absD_i, ixD_0, ixD_1, ixD_t0, ixD_t1, truth, dLc, dLcA, dLcC, dLcAC, dIter, dSrc_str, dSrc_lst, dSrc_tup, dYes, gN, gTp, gCn, gNl, wipeD, uAdd, uFor, uAddX, noChk, inD_s, notInD_s, lenD_s, lenD_l, dCall]
    refine actL_g .str (fun c => hasS c a) .str _ [] (by simpa using hb.line) trivial (fun c m acc Q'' hl q => ?_) ?_
    · simp [dwp, dSeq, dIfS, dTst, dTru, dNot, dOp2, dOp1, dVar, dC, dSet, dSetI, dRet, dRetN, dNx, dNo, dCB, dCons, dNil, dAnd, dOr, dDrop, dTup, dLst, dLstC, dIfE, dAndV, dOrV, dNotV, dFrz, fzD, env0, endsF, drf_non, drf_bl, drf_int, drf_str, drf_lst, drf_tup, drf_scr, drf_val, drf_fn, drf_exc, modD_i, fdivD_i, subD_i, addD_i, andD_i, gtD_i, ltD_i, geD_i, leD_i, eqD_i, neD_i, eqD_s, neD_s, intD_i, absD_i, ixD_0, ixD_1, ixD_t0, ixD_t1, truth, dLc, dLcA, dLcC, dLcAC, dIter, dSrc_str, dSrc_lst, dSrc_tup, dYes, gN, gTp, gCn, gNl, wipeD, uAdd, uFor, uAddX, noChk, inD_s, notInD_s, lenD_s, lenD_l, dCall]
      cases e : hasS c a with
      | true => rw [e] at q; exact .inr ⟨rfl, hl, q⟩
      | false => rw [e] at q; exact .inl ⟨rfl, q⟩
    · refine ⟨_, eqD_nil (l := haveS b a) fun c m => lay4 c (hb.ls c ((List.mem_filter.mp m).1)), ?_⟩
      cases e : (haveS b a).isEmpty with
      | true => rw [e] at q; exact .inr ⟨rfl, hl, q⟩
      | false => rw [e] at q; exact .inl ⟨rfl, q⟩
  · exact ⟨_, eqD_nil fun c m => (h2 c ((List.mem_filter.mp m).1)).2, h⟩
/-! what a sign is -/
def signB (d : D) (b : Str) : Bool := match d with
  | .str a => decide (a.length = 1) && hasS a b
  | _ => false
def isStr : D → Bool
  | .str _ => true
  | _ => false
/-- what may be asked: no cell, nothing strange -/
def plainD : D → Bool
  | .non => true
  | .bl _ => true
  | .int _ => true
  | .str _ => true
  | .lst _ => true
  | .tup _ => true
  | _ => false
def WisSign : DFn := fun ds μ EX Q => ∃ (d : D) (b : Str), ds = [d, .str b] ∧ plainD d = true ∧ Q (.bl (signB d b)) μ
theorem mono_isSign : MonoW WisSign := fun ds μ EX Q Q' i ⟨a, b, e, h1, h⟩ => ⟨a, b, e, h1, i _ _ h⟩
theorem drf_plain {μ : Mu} {d : D} (h : plainD d = true) : drf μ d = d := by
  cases d <;> first | rfl | cases h
theorem isi_str (d : D) (h : plainD d = true) : isiD [d, .val (.ty "str")] = some (.bl (isStr d)) := by
  cases d with
  | non => show (kitB "NoneType" "str").map D.bl = _; rw [show kitB "NoneType" "str" = some false from by decide +kernel]; rfl
  | bl b => show (kitB "bool" "str").map D.bl = _; rw [show kitB "bool" "str" = some false from by decide +kernel]; rfl
  | int b => show (kitB "int" "str").map D.bl = _; rw [show kitB "int" "str" = some false from by decide +kernel]; rfl
  | str b => show (kitB "str" "str").map D.bl = _; rw [show kitB "str" "str" = some true from by decide +kernel]; rfl
  | lst b => show (kitB "list" "str").map D.bl = _; rw [show kitB "list" "str" = some false from by decide +kernel]; rfl
  | tup b => show (kitB "tuple" "str").map D.bl = _; rw [show kitB "tuple" "str" = some false from by decide +kernel]; rfl
  | _ => cases h
theorem sp_isSign (ds : List D) (μ : Mu) (EX : EX0) (Q : D → Mu → Prop) (h : WisSign ds μ EX Q) : clW (dwp n_isSign.length T_isSign) ds μ EX Q := by
  obtain ⟨d, b, rfl, h1, h⟩ := h
  refine clW_of ?_
  have i1 := isi_str d h1
  cases d <;> first | (cases h1; done) | skip
  all_goals
    simp [dwp, dSeq, dIfS, dTst, dTru, dNot, dOp2, dOp1, dVar, dC, dSet, dSetI, dRet, dRetN, dNx, dNo, dCB, dCons, dNil, dAnd, dOr, dDrop, dTup, dLst, dLstC, dIfE, dAndV, dOrV, dNotV, dFrz, fzD, env0, endsF, drf_non, drf_bl, drf_int, drf_str, drf_lst, drf_tup, drf_scr, drf_val, drf_fn, drf_exc, modD_i, fdivD_i, subD_i, addD_i, andD_i, gtD_i, ltD_i, geD_i, leD_i, eqD_i, neD_i, eqD_s, neD_s, intD_i, absD_i, ixD_0, ixD_1, ixD_t0, ixD_t1, truth, dLc, dLcA, dLcC, dLcAC, dIter, dSrc_str, dSrc_lst, dSrc_tup, dYes, gN, gTp, gCn, gNl, wipeD, uAdd, uFor, uAddX, noChk, inD_s, notInD_s, lenD_s, lenD_l, dCall, T_isSign, i1, isStr]
  all_goals first | exact h | skip
  rename_i z
  have h : Q (.bl (decide (z.length = 1) && hasS z b)) μ := h
  by_cases e : z.length = 1
  · rw [decide_eq_true e, Bool.true_and] at h
    exact .inr ⟨by omega, h⟩
  · rw [decide_eq_false e, Bool.false_and] at h
    have e2 : ¬ ((z.length : Int) = 1) := by omega
    exact .inl ⟨e2, by rw [decide_eq_false e2]; exact h⟩
def isSeqB : D → Bool
  | .lst _ => true
  | .tup _ => true
  | _ => false
def WisSeq : DFn := fun ds μ EX Q => ∃ (d : D), ds = [d] ∧ plainD d = true ∧ Q (.bl (isSeqB d)) μ
theorem mono_isSeq : MonoW WisSeq := fun ds μ EX Q Q' i ⟨a, e, h1, h⟩ => ⟨a, e, h1, i _ _ h⟩
theorem isi_seq (d : D) (h : plainD d = true) : isiD [d, .tup [.val (.ty "list"), .val (.ty "tuple")]] = some (.bl (isSeqB d)) := by
  cases d with
  | non => show (isAny "NoneType" ["list", "tuple"]).map D.bl = _; rw [show isAny "NoneType" ["list", "tuple"] = some false from by decide +kernel]; rfl
  | bl b => show (isAny "bool" ["list", "tuple"]).map D.bl = _; rw [show isAny "bool" ["list", "tuple"] = some false from by decide +kernel]; rfl
  | int b => show (isAny "int" ["list", "tuple"]).map D.bl = _; rw [show isAny "int" ["list", "tuple"] = some false from by decide +kernel]; rfl
  | str b => show (isAny "str" ["list", "tuple"]).map D.bl = _; rw [show isAny "str" ["list", "tuple"] = some false from by decide +kernel]; rfl
  | lst b => show (isAny "list" ["list", "tuple"]).map D.bl = _; rw [show isAny "list" ["list", "tuple"] = some true from by decide +kernel]; rfl
  | tup b => show (isAny "tuple" ["list", "tuple"]).map D.bl = _; rw [show isAny "tuple" ["list", "tuple"] = some true from by decide +kernel]; rfl
  | _ => cases h
theorem sp_isSeq (ds : List D) (μ : Mu) (EX : EX0) (Q : D → Mu → Prop) (h : WisSeq ds μ EX Q) : clW (dwp n_isSeq.length T_isSeq) ds μ EX Q := by
  obtain ⟨d, rfl, h1, h⟩ := h
  refine clW_of ?_
  have i1 := isi_seq d h1
  cases d <;> first | (cases h1; done) | skip
  all_goals
    simp [dwp, dSeq, dIfS, dTst, dTru, dNot, dOp2, dOp1, dVar, dC, dSet, dSetI, dRet, dRetN, dNx, dNo, dCB, dCons, dNil, dAnd, dOr, dDrop, dTup, dLst, dLstC, dIfE, dAndV, dOrV, dNotV, dFrz, fzD, env0, endsF, drf_non, drf_bl, drf_int, drf_str, drf_lst, drf_tup, drf_scr, drf_val, drf_fn, drf_exc, modD_i, fdivD_i, subD_i, addD_i, andD_i, gtD_i, ltD_i, geD_i, leD_i, eqD_i, neD_i, eqD_s, neD_s, intD_i, absD_i, ixD_0, ixD_1, ixD_t0, ixD_t1, truth, dLc, dLcA, dLcC, dLcAC, dIter, dSrc_str, dSrc_lst, dSrc_tup, dYes, gN, gTp, gCn, gNl, wipeD, uAdd, uFor, uAddX, noChk, inD_s, notInD_s, lenD_s, lenD_l, dCall, T_isSeq, i1]
    exact ⟨by decide, h⟩
/-- whether it is a text, a list or a tuple -/
def isRowB : D → Bool
  | .str _ => true
  | .lst _ => true
  | .tup _ => true
  | _ => false
theorem isi_row (d : D) (h : plainD d = true) : isiD [d, .tup [.val (.ty "str"), .val (.ty "list"), .val (.ty "tuple")]] = some (.bl (isRowB d)) := by
  cases d with
  | non => show (isAny "NoneType" ["str", "list", "tuple"]).map D.bl = _; rw [show isAny "NoneType" ["str", "list", "tuple"] = some false from by decide +kernel]; rfl
  | bl b => show (isAny "bool" ["str", "list", "tuple"]).map D.bl = _; rw [show isAny "bool" ["str", "list", "tuple"] = some false from by decide +kernel]; rfl
  | int b => show (isAny "int" ["str", "list", "tuple"]).map D.bl = _; rw [show isAny "int" ["str", "list", "tuple"] = some false from by decide +kernel]; rfl
  | str b => show (isAny "str" ["str", "list", "tuple"]).map D.bl = _; rw [show isAny "str" ["str", "list", "tuple"] = some true from by decide +kernel]; rfl
  | lst b => show (isAny "list" ["str", "list", "tuple"]).map D.bl = _; rw [show isAny "list" ["str", "list", "tuple"] = some true from by decide +kernel]; rfl
  | tup b => show (isAny "tuple" ["str", "list", "tuple"]).map D.bl = _; rw [show isAny "tuple" ["str", "list", "tuple"] = some true from by decide +kernel]; rfl
  | _ => cases h
end K65
set_option Elab.async false
set_option linter.all false
set_option autoImplicit false
set_option maxRecDepth 100000
set_option maxHeartbeats 4000000
namespace K65
open PySem PySem.Spec PyProof.Rows L2 Evl Dl
theorem sg_one {z s : Str} (h : s ∈ sg z) : ∃ c, s = ⟨#[c]⟩ ∧ c ∈ z.cps.toList := by
  obtain ⟨c, hc, rfl⟩ := List.mem_map.mp h
  exact ⟨c, rfl, hc⟩
theorem mem_sg {z : Str} {c : Nat} : (⟨#[c]⟩ : Str) ∈ sg z ↔ c ∈ z.cps.toList := by
  constructor
  · intro h
    obtain ⟨d, e, hd⟩ := sg_one h
    have e2 : c = d := by injection e with e; simpa using e
    rw [e2]
    exact hd
  · exact fun h => List.mem_map.mpr ⟨c, h, rfl⟩
theorem hasS_sign (z : Str) (c : Nat) : hasS ⟨#[c]⟩ z = decide ((⟨#[c]⟩ : Str) ∈ sg z) := by
  show (!(Builtin.Str.occurrences z ⟨#[c]⟩ 0 z.length 1).isEmpty) = _
  rw [show (!(Builtin.Str.occurrences z ⟨#[c]⟩ 0 z.length 1).isEmpty) = decide (c ∈ z.cps.toList) from by first | exact PySem.StrLaws.found_one z c | exact StrLaws.found_one z c | exact PySem.Builtin.Str.found_one z c | exact found_one z c]
  by_cases h : c ∈ z.cps.toList
  · rw [decide_eq_true h, decide_eq_true (mem_sg.mpr h)]
  · rw [decide_eq_false h, decide_eq_false fun q => h (mem_sg.mp q)]
theorem hasS_mem {a z s : Str} (h : s ∈ sg a) : hasS s z = decide (s ∈ sg z) := by
  obtain ⟨c, rfl, _⟩ := sg_one h
  exact hasS_sign z c
def jn (l : List Str) : Str := Txt.join "" l
/-- the set that a row of letters tells, among ls -/
def can (ls : Str) (l : List Str) : Str := jn ((sg ls).filter fun c => decide (c ∈ l))
/-- a row that tells letters: a text, a list, a tuple -/
inductive Row : D → List Str → Prop
  | s (z : Str) : Row (.str z) (sg z)
  | l (xs : List Str) : Row (.lst (xs.map .str)) xs
  | t (xs : List Str) : Row (.tup (xs.map .str)) xs
/-- what is asked of a value: its items, from the first on that is no letter of ls -/
inductive Bad (ls : Str) : D → D → Prop
  | row (d : D) : plainD d = true → isRowB d = false → Bad ls d d
  | l (pre : List Str) (k : D) (post : List D) : (∀ c ∈ pre, c ∈ sg ls) → plainD k = true → signB k ls = false → Bad ls (.lst (pre.map .str ++ k :: post)) k
  | s (z : Str) (pre : List Str) (k : Str) (post : List Str) : sg z = pre ++ k :: post → (∀ c ∈ pre, c ∈ sg ls) → signB (.str k) ls = false → Bad ls (.str z) (.str k)
def WsetOf : DFn := fun ds μ EX Q => ∃ (ls : Str) (d : D), ds = [.str ls, d] ∧ Lt ls ∧
  ((∃ l, Row d l ∧ l.length ≤ 1000 ∧ (∀ c ∈ l, c ∈ sg ls) ∧ Q (.str (can ls l)) μ) ∨ ∃ k, Bad ls d k ∧ EX (.own "NoLetter" [("letter", k)]) μ)
theorem mono_setOf : MonoW WsetOf := fun ds μ EX Q Q' i ⟨ls, d, e, h1, h⟩ => ⟨ls, d, e, h1, h.imp (fun ⟨l, a, b, c, q⟩ => ⟨l, a, b, c, i _ _ q⟩) id⟩
theorem sign_good {ls c : Str} (h : c ∈ sg ls) : signB (.str c) ls = true := by
  show (decide (c.length = 1) && hasS c ls) = true
  rw [hasS_mem h, decide_eq_true h]
  obtain ⟨k, rfl, _⟩ := sg_one h
  rfl
theorem Row.plain {d : D} {l : List Str} (h : Row d l) : plainD d = true := by cases h <;> rfl
theorem Row.isRow {d : D} {l : List Str} (h : Row d l) : isRowB d = true := by cases h <;> rfl
theorem Row.src {d : D} {l : List Str} (h : Row d l) (μ : Mu) (Q : List D → (Mu → Prop) → Mu → Prop) : dSrc d μ Q = Q (l.map .str) noChk μ := by
  cases h with
  | s z => exact dSrc_str z μ Q
  | l xs => rfl
  | t xs => rfl
theorem eqv_strs (c : Str) : ∀ l : List Str, ((l.map PyData.str).any fun z => PyData.eqv z (.str c)) = decide (c ∈ l)
  | [] => by simp
  | a :: l => by
    rw [List.map_cons, List.any_cons, eqv_strs c l]
    show (decide (a = c) || _) = _
    by_cases e : a = c
    · rw [decide_eq_true e, Bool.true_or, decide_eq_true (by rw [e]; exact List.mem_cons_self)]
    · rw [decide_eq_false e, Bool.false_or]
      have : (c ∈ a :: l) ↔ c ∈ l := by simp [Ne.symm e]
      by_cases q : c ∈ l
      · rw [decide_eq_true q, decide_eq_true (this.mpr q)]
      · rw [decide_eq_false q, decide_eq_false fun z => q (this.mp z)]
theorem Row.inn {d : D} {l : List Str} (h : Row d l) {ls c : Str} (hl : Lt ls) (hm : ∀ c ∈ l, c ∈ sg ls) (hc : c ∈ sg ls) : inD (.str c) d = some (.bl (decide (c ∈ l))) := by
  have lay : ∀ x ∈ l, (PyData.str x).canLay0 = true := fun x m => lay4 x (hl.ls x (hm x m))
  have lc := lay4 c (hl.ls c hc)
  cases h with
  | s z => rw [inD_s, hasS_mem hc]
  | l xs =>
    show (match toP (.str c), toPs (l.map D.str) with | some p, some ps => if SeqAt.shaped p = true ∧ SeqAt.shaped (.list ps) = true then some (D.bl (id (ps.any fun z => PyData.eqv z p))) else none | _, _ => none) = _
    rw [toPs_str]
    show (if SeqAt.shaped (.str c) = true ∧ SeqAt.shaped (.list (l.map PyData.str)) = true then some (D.bl (id ((l.map PyData.str).any fun z => PyData.eqv z (.str c)))) else none) = _
    rw [if_pos ⟨(My.sh_str lc).shaped (by decide), shaped_strs lay⟩, eqv_strs]
    rfl
  | t xs =>
    show (match toP (.str c), toPs (l.map D.str) with | some p, some ps => if SeqAt.shaped p = true ∧ SeqAt.shaped (.tuple ps) = true then some (D.bl (id (ps.any fun z => PyData.eqv z p))) else none | _, _ => none) = _
    rw [toPs_str]
    have sh : SeqAt.shaped (.tuple (l.map PyData.str)) = true := (My.sh_tup (k := 0) fun d m => by
      obtain ⟨c, mc, rfl⟩ := List.mem_map.mp m
      exact My.sh_str (lay c mc)).shaped (by decide)
    show (if SeqAt.shaped (.str c) = true ∧ SeqAt.shaped (.tuple (l.map PyData.str)) = true then some (D.bl (id ((l.map PyData.str).any fun z => PyData.eqv z (.str c)))) else none) = _
    rw [if_pos ⟨(My.sh_str lc).shaped (by decide), sh⟩, eqv_strs]
    rfl
theorem jn_len {l : List Str} (h : ∀ c ∈ l, c.length = 1) : (jn l).length = l.length := PySem.W.KT.join_ones l h
theorem sum_ones : ∀ {l : List Str}, (∀ c ∈ l, c.length = 1) → (l.map (·.length)).sum = l.length
  | [], _ => rfl
  | a :: l, h => by
    rw [List.map_cons, List.sum_cons, sum_ones fun c m => h c (List.mem_cons_of_mem _ m), h a List.mem_cons_self, List.length_cons]
    omega
theorem join_lst {l : List Str} (h : ∀ c ∈ l, c.length = 1) (hl : l.length ≤ 100000) : joinD (.str "") (.lst (l.map .str)) = some (.str (jn l)) := by
  show (match txts (l.map D.str) with | some ys => if (ys.map fun (c : Str) => c.length).sum + ys.length * ("" : Str).length ≤ 16777216 ∧ (Txt.join "" ys).length ≤ sizeLine then some (D.str (Txt.join "" ys)) else none | none => none) = _
  rw [txts_map]
  show (if (l.map (·.length)).sum + l.length * ("" : Str).length ≤ 16777216 ∧ (jn l).length ≤ sizeLine then some (D.str (jn l)) else none) = _
  rw [if_pos]
  rw [sum_ones h, jn_len h]
  refine ⟨?_, Nat.le_trans hl (by decide)⟩
  show l.length + l.length * 0 ≤ _
  omega
theorem join_tup {l : List Str} (h : ∀ c ∈ l, c.length = 1) (hl : l.length ≤ 100000) : joinD (.str "") (.tup (l.map .str)) = some (.str (jn l)) := by
  show (match txts (l.map D.str) with | some ys => if (ys.map fun (c : Str) => c.length).sum + ys.length * ("" : Str).length ≤ 16777216 ∧ (Txt.join "" ys).length ≤ sizeLine then some (D.str (Txt.join "" ys)) else none | none => none) = _
  rw [txts_map]
  show (if (l.map (·.length)).sum + l.length * ("" : Str).length ≤ 16777216 ∧ (jn l).length ≤ sizeLine then some (D.str (jn l)) else none) = _
  rw [if_pos]
  rw [sum_ones h, jn_len h]
  refine ⟨?_, Nat.le_trans hl (by decide)⟩
  show l.length + l.length * 0 ≤ _
  omega
theorem sg_ones {z : Str} : ∀ c ∈ sg z, c.length = 1 := fun c m => by
  obtain ⟨k, rfl, _⟩ := sg_one m
  rfl
/-- the walk over the first letters, all good -/
theorem walk_good {ls : Str} {d : D} {A : DEnds} {rest : List D} : ∀ (l : List Str) (x : Option D) (μ : Mu), (∀ c ∈ l, c ∈ sg ls) →
    (∀ y, dLoop (gN 2) (dIfS (dNot (dTru (dCall 2 WisSign [] (dCons (dVar 2) (dCons (dVar 0) dNil))))) (dRz "NoLetter" "letter" (dCons (dVar 2) dNil)) dNx) noChk A rest [some (.str ls), some d, y] μ) →
    dLoop (gN 2) (dIfS (dNot (dTru (dCall 2 WisSign [] (dCons (dVar 2) (dCons (dVar 0) dNil))))) (dRz "NoLetter" "letter" (dCons (dVar 2) dNil)) dNx) noChk A (l.map .str ++ rest) [some (.str ls), some d, x] μ
  | [], x, μ, h, k => k x
  | c :: l, x, μ, h, k => by
    refine ⟨trivial, ?_⟩
    have s1 := sign_good (h c List.mem_cons_self)
    simp [dwp, dSeq, dIfS, dTst, dTru, dNot, dOp2, dOp1, dVar, dC, dSet, dSetI, dRet, dRetN, dNx, dNo, dCB, dCons, dNil, dAnd, dOr, dDrop, dTup, dLst, dLstC, dIfE, dAndV, dOrV, dNotV, dFrz, fzD, env0, endsF, drf_non, drf_bl, drf_int, drf_str, drf_lst, drf_tup, drf_scr, drf_val, drf_fn, drf_exc, modD_i, fdivD_i, subD_i, addD_i, andD_i, gtD_i, ltD_i, geD_i, leD_i, eqD_i, neD_i, eqD_s, neD_s, intD_i, absD_i, ixD_0, ixD_1, ixD_t0, ixD_t1, truth, dLc, dLcA, dLcC, dLcAC, dIter, dSrc_str, dSrc_lst, dSrc_tup, dYes, gN, gTp, gCn, gNl, wipeD, uAdd, uFor, uAddX, noChk, inD_s, notInD_s, lenD_s, lenD_l, dCall, WisSign]
    refine ⟨_, _, ⟨rfl, rfl⟩, rfl, ?_⟩
    rw [s1]
    simp [dwp, dSeq, dIfS, dTst, dTru, dNot, dOp2, dOp1, dVar, dC, dSet, dSetI, dRet, dRetN, dNx, dNo, dCB, dCons, dNil, dAnd, dOr, dDrop, dTup, dLst, dLstC, dIfE, dAndV, dOrV, dNotV, dFrz, fzD, env0, endsF, drf_non, drf_bl, drf_int, drf_str, drf_lst, drf_tup, drf_scr, drf_val, drf_fn, drf_exc, modD_i, fdivD_i, subD_i, addD_i, andD_i, gtD_i, ltD_i, geD_i, leD_i, eqD_i, neD_i, eqD_s, neD_s, intD_i, absD_i, ixD_0, ixD_1, ixD_t0, ixD_t1, truth, dLc, dLcA, dLcC, dLcAC, dIter, dSrc_str, dSrc_lst, dSrc_tup, dYes, gN, gTp, gCn, gNl, wipeD, uAdd, uFor, uAddX, noChk, inD_s, notInD_s, lenD_s, lenD_l, dCall]
    exact walk_good l _ μ (fun x m => h x (List.mem_cons_of_mem _ m)) k
theorem walk_bad {ls : Str} {d k : D} {A : DEnds} {rest : List D} {x : Option D} {μ : Mu} (hp : plainD k = true) (hb : signB k ls = false) (h : A.ex [some (.str ls), some d, some k] (.own "NoLetter" [("letter", k)]) μ) :
    dLoop (gN 2) (dIfS (dNot (dTru (dCall 2 WisSign [] (dCons (dVar 2) (dCons (dVar 0) dNil))))) (dRz "NoLetter" "letter" (dCons (dVar 2) dNil)) dNx) noChk A (k :: rest) [some (.str ls), some d, x] μ := by
  refine ⟨trivial, ?_⟩
  simp [dwp, dSeq, dIfS, dTst, dTru, dNot, dOp2, dOp1, dVar, dC, dSet, dSetI, dRet, dRetN, dNx, dNo, dCB, dCons, dNil, dAnd, dOr, dDrop, dTup, dLst, dLstC, dIfE, dAndV, dOrV, dNotV, dFrz, fzD, env0, endsF, drf_non, drf_bl, drf_int, drf_str, drf_lst, drf_tup, drf_scr, drf_val, drf_fn, drf_exc, modD_i, fdivD_i, subD_i, addD_i, andD_i, gtD_i, ltD_i, geD_i, leD_i, eqD_i, neD_i, eqD_s, neD_s, intD_i, absD_i, ixD_0, ixD_1, ixD_t0, ixD_t1, truth, dLc, dLcA, dLcC, dLcAC, dIter, dSrc_str, dSrc_lst, dSrc_tup, dYes, gN, gTp, gCn, gNl, wipeD, uAdd, uFor, uAddX, noChk, inD_s, notInD_s, lenD_s, lenD_l, dCall, WisSign]
  refine ⟨_, _, ⟨rfl, rfl⟩, hp, ?_⟩
  rw [hb]
  simp [dwp, dSeq, dIfS, dTst, dTru, dNot, dOp2, dOp1, dVar, dC, dSet, dSetI, dRet, dRetN, dNx, dNo, dCB, dCons, dNil, dAnd, dOr, dDrop, dTup, dLst, dLstC, dIfE, dAndV, dOrV, dNotV, dFrz, fzD, env0, endsF, drf_non, drf_bl, drf_int, drf_str, drf_lst, drf_tup, drf_scr, drf_val, drf_fn, drf_exc, modD_i, fdivD_i, subD_i, addD_i, andD_i, gtD_i, ltD_i, geD_i, leD_i, eqD_i, neD_i, eqD_s, neD_s, intD_i, absD_i, ixD_0, ixD_1, ixD_t0, ixD_t1, truth, dLc, dLcA, dLcC, dLcAC, dIter, dSrc_str, dSrc_lst, dSrc_tup, dYes, gN, gTp, gCn, gNl, wipeD, uAdd, uFor, uAddX, noChk, inD_s, notInD_s, lenD_s, lenD_l, dCall, dRz]
  exact h
theorem sp_setOf (ds : List D) (μ : Mu) (EX : EX0) (Q : D → Mu → Prop) (h : WsetOf ds μ EX Q) : clW (dwp n_setOf.length (T_setOf WisSign)) ds μ EX Q := by
  obtain ⟨ls, d, rfl, h1, h⟩ := h
  refine clW_of ?_
  rcases h with ⟨l, row, hl, hm, h⟩ | ⟨k, bad, h⟩
  · have i1 := isi_row d row.plain
    rw [row.isRow] at i1
    have dp := fun m => drf_plain (μ := m) row.plain
    simp [dwp, dSeq, dIfS, dTst, dTru, dNot, dOp2, dOp1, dVar, dC, dSet, dSetI, dRet, dRetN, dNx, dNo, dCB, dCons, dNil, dAnd, dOr, dDrop, dTup, dLst, dLstC, dIfE, dAndV, dOrV, dNotV, dFrz, fzD, env0, endsF, drf_non, drf_bl, drf_int, drf_str, drf_lst, drf_tup, drf_scr, drf_val, drf_fn, drf_exc, modD_i, fdivD_i, subD_i, addD_i, andD_i, gtD_i, ltD_i, geD_i, leD_i, eqD_i, neD_i, eqD_s, neD_s, intD_i, absD_i, ixD_0, ixD_1, ixD_t0, ixD_t1, truth, dLc, dLcA, dLcC, dLcAC, dIter, dSrc_str, dSrc_lst, dSrc_tup, dYes, gN, gTp, gCn, gNl, wipeD, uAdd, uFor, uAddX, noChk, inD_s, notInD_s, lenD_s, lenD_l, dCall, T_setOf, i1, dp]
    refine ⟨by decide, ?_⟩
    rw [for_var rfl, row.src, ← List.append_nil (l.map D.str)]
    refine walk_good l none μ hm fun y => ⟨trivial, ?_⟩
    simp [dwp, dSeq, dIfS, dTst, dTru, dNot, dOp2, dOp1, dVar, dC, dSet, dSetI, dRet, dRetN, dNx, dNo, dCB, dCons, dNil, dAnd, dOr, dDrop, dTup, dLst, dLstC, dIfE, dAndV, dOrV, dNotV, dFrz, fzD, env0, endsF, drf_non, drf_bl, drf_int, drf_str, drf_lst, drf_tup, drf_scr, drf_val, drf_fn, drf_exc, modD_i, fdivD_i, subD_i, addD_i, andD_i, gtD_i, ltD_i, geD_i, leD_i, eqD_i, neD_i, eqD_s, neD_s, intD_i, absD_i, ixD_0, ixD_1, ixD_t0, ixD_t1, truth, dLc, dLcA, dLcC, dLcAC, dIter, dSrc_str, dSrc_lst, dSrc_tup, dYes, gN, gTp, gCn, gNl, wipeD, uAdd, uFor, uAddX, noChk, inD_s, notInD_s, lenD_s, lenD_l, dCall, dJoin]
    refine actL_g .str (fun c => decide (c ∈ l)) .str _ [] (by simpa using h1.line) trivial (fun c m acc Q' hl q => ?_) ?_
    · have hin := row.inn h1 hm m
      simp [dwp, dSeq, dIfS, dTst, dTru, dNot, dOp2, dOp1, dVar, dC, dSet, dSetI, dRet, dRetN, dNx, dNo, dCB, dCons, dNil, dAnd, dOr, dDrop, dTup, dLst, dLstC, dIfE, dAndV, dOrV, dNotV, dFrz, fzD, env0, endsF, drf_non, drf_bl, drf_int, drf_str, drf_lst, drf_tup, drf_scr, drf_val, drf_fn, drf_exc, modD_i, fdivD_i, subD_i, addD_i, andD_i, gtD_i, ltD_i, geD_i, leD_i, eqD_i, neD_i, eqD_s, neD_s, intD_i, absD_i, ixD_0, ixD_1, ixD_t0, ixD_t1, truth, dLc, dLcA, dLcC, dLcAC, dIter, dSrc_str, dSrc_lst, dSrc_tup, dYes, gN, gTp, gCn, gNl, wipeD, uAdd, uFor, uAddX, noChk, inD_s, notInD_s, lenD_s, lenD_l, dCall, dp, hin]
      by_cases e : c ∈ l
      · rw [if_pos (decide_eq_true e)] at q
        exact .inr ⟨e, hl, q⟩
      · rw [if_neg (by rw [decide_eq_false e]; decide)] at q
        exact .inl ⟨e, q⟩
    · rw [List.nil_append]
      exact ⟨_, join_lst (fun c m => sg_ones c (List.mem_filter.mp m).1) (Nat.le_trans (List.length_filter_le _ _) (by rw [sg_len]; exact Nat.le_trans h1.len (by decide))), h⟩
  · cases bad with
    | row k hp hr =>
      have i1 := isi_row d hp
      rw [hr] at i1
      have dp := fun m => drf_plain (μ := m) hp
      simp [dwp, dSeq, dIfS, dTst, dTru, dNot, dOp2, dOp1, dVar, dC, dSet, dSetI, dRet, dRetN, dNx, dNo, dCB, dCons, dNil, dAnd, dOr, dDrop, dTup, dLst, dLstC, dIfE, dAndV, dOrV, dNotV, dFrz, fzD, env0, endsF, drf_non, drf_bl, drf_int, drf_str, drf_lst, drf_tup, drf_scr, drf_val, drf_fn, drf_exc, modD_i, fdivD_i, subD_i, addD_i, andD_i, gtD_i, ltD_i, geD_i, leD_i, eqD_i, neD_i, eqD_s, neD_s, intD_i, absD_i, ixD_0, ixD_1, ixD_t0, ixD_t1, truth, dLc, dLcA, dLcC, dLcAC, dIter, dSrc_str, dSrc_lst, dSrc_tup, dYes, gN, gTp, gCn, gNl, wipeD, uAdd, uFor, uAddX, noChk, inD_s, notInD_s, lenD_s, lenD_l, dCall, T_setOf, i1, dp]
      refine ⟨by decide, ?_⟩
      simp [dwp, dSeq, dIfS, dTst, dTru, dNot, dOp2, dOp1, dVar, dC, dSet, dSetI, dRet, dRetN, dNx, dNo, dCB, dCons, dNil, dAnd, dOr, dDrop, dTup, dLst, dLstC, dIfE, dAndV, dOrV, dNotV, dFrz, fzD, env0, endsF, drf_non, drf_bl, drf_int, drf_str, drf_lst, drf_tup, drf_scr, drf_val, drf_fn, drf_exc, modD_i, fdivD_i, subD_i, addD_i, andD_i, gtD_i, ltD_i, geD_i, leD_i, eqD_i, neD_i, eqD_s, neD_s, intD_i, absD_i, ixD_0, ixD_1, ixD_t0, ixD_t1, truth, dLc, dLcA, dLcC, dLcAC, dIter, dSrc_str, dSrc_lst, dSrc_tup, dYes, gN, gTp, gCn, gNl, wipeD, uAdd, uFor, uAddX, noChk, inD_s, notInD_s, lenD_s, lenD_l, dCall, dRz]
      exact h
    | l pre k post hm hp hb =>
      have i1 := isi_row (.lst (pre.map .str ++ k :: post)) rfl
      simp [dwp, dSeq, dIfS, dTst, dTru, dNot, dOp2, dOp1, dVar, dC, dSet, dSetI, dRet, dRetN, dNx, dNo, dCB, dCons, dNil, dAnd, dOr, dDrop, dTup, dLst, dLstC, dIfE, dAndV, dOrV, dNotV, dFrz, fzD, env0, endsF, drf_non, drf_bl, drf_int, drf_str, drf_lst, drf_tup, drf_scr, drf_val, drf_fn, drf_exc, modD_i, fdivD_i, subD_i, addD_i, andD_i, gtD_i, ltD_i, geD_i, leD_i, eqD_i, neD_i, eqD_s, neD_s, intD_i, absD_i, ixD_0, ixD_1, ixD_t0, ixD_t1, truth, dLc, dLcA, dLcC, dLcAC, dIter, dSrc_str, dSrc_lst, dSrc_tup, dYes, gN, gTp, gCn, gNl, wipeD, uAdd, uFor, uAddX, noChk, inD_s, notInD_s, lenD_s, lenD_l, dCall, T_setOf, i1, isRowB]
      refine ⟨by decide, ?_⟩
      rw [for_var rfl, dSrc_lst]
      exact walk_good pre none μ hm fun y => walk_bad hp hb h
    | s z pre k post hz hm hb =>
      have i1 := isi_row (.str z) rfl
      simp [dwp, dSeq, dIfS, dTst, dTru, dNot, dOp2, dOp1, dVar, dC, dSet, dSetI, dRet, dRetN, dNx, dNo, dCB, dCons, dNil, dAnd, dOr, dDrop, dTup, dLst, dLstC, dIfE, dAndV, dOrV, dNotV, dFrz, fzD, env0, endsF, drf_non, drf_bl, drf_int, drf_str, drf_lst, drf_tup, drf_scr, drf_val, drf_fn, drf_exc, modD_i, fdivD_i, subD_i, addD_i, andD_i, gtD_i, ltD_i, geD_i, leD_i, eqD_i, neD_i, eqD_s, neD_s, intD_i, absD_i, ixD_0, ixD_1, ixD_t0, ixD_t1, truth, dLc, dLcA, dLcC, dLcAC, dIter, dSrc_str, dSrc_lst, dSrc_tup, dYes, gN, gTp, gCn, gNl, wipeD, uAdd, uFor, uAddX, noChk, inD_s, notInD_s, lenD_s, lenD_l, dCall, T_setOf, i1, isRowB]
      refine ⟨by decide, ?_⟩
      rw [for_var rfl, dSrc_str, hz, List.map_append]
      exact walk_good pre none μ hm fun y => walk_bad rfl hb h
end K65
set_option Elab.async false
set_option linter.all false
set_option autoImplicit false
set_option maxRecDepth 100000
set_option maxHeartbeats 4000000
namespace K65
open PySem PySem.Spec PyProof.Rows L2 Evl Dl
/-- the sets out of the four kinds, in their order -/
def cans : List Str := ["", "a", "b", "c", "d", "ab", "ac", "ad", "bc", "bd", "cd", "abc", "abd", "acd", "bcd", "abcd"]
theorem can_sg : ∀ k ∈ cans, jn (sg k) = k := by decide +kernel
theorem can_L4 : ∀ k ∈ cans, ∀ c ∈ sg k, c ∈ L4 := by decide +kernel
theorem can_short : ∀ k ∈ cans, k.length ≤ 4 := by decide +kernel
theorem can_lay : ∀ k ∈ cans, (PyData.str k).canLay0 = true := by decide +kernel
theorem can_lt {k : Str} (h : k ∈ cans) : Lt k := ⟨Nat.le_trans (can_short k h) (by decide), can_L4 k h⟩
/-- the texts of parts of L4 -/
theorem part_can (p : Str → Bool) : jn (L4.filter p) ∈ cans ∧ sg (jn (L4.filter p)) = L4.filter p := by
  have e : L4.filter p = (if p "a" = true then (["a"] : List Str) else []) ++ ((if p "b" = true then (["b"] : List Str) else []) ++ ((if p "c" = true then (["c"] : List Str) else []) ++ (if p "d" = true then (["d"] : List Str) else []))) := by
    unfold L4
    cases h1 : p "a" <;> cases h2 : p "b" <;> cases h3 : p "c" <;> cases h4 : p "d" <;> simp [h1, h2, h3, h4]
  rw [e]
  cases p "a" <;> cases p "b" <;> cases p "c" <;> cases p "d" <;> decide +kernel
theorem can_part : ∀ k ∈ cans, sg k = L4.filter fun c => decide (c ∈ sg k) := by decide +kernel
theorem filt_can {k : Str} (h : k ∈ cans) (p : Str → Bool) : jn ((sg k).filter p) ∈ cans ∧ sg (jn ((sg k).filter p)) = (sg k).filter p := by
  have e : (sg k).filter p = L4.filter fun c => decide (c ∈ sg k) && p c := by
    conv => lhs; rw [can_part k h]
    rw [List.filter_filter]
    congr 1
    funext c
    rw [Bool.and_comm]
  rw [e]
  exact part_can _
theorem can_can {k : Str} (h : k ∈ cans) (l : List Str) : can k l ∈ cans := (filt_can h _).1
theorem sg_can {k : Str} (h : k ∈ cans) (l : List Str) : sg (can k l) = (sg k).filter fun c => decide (c ∈ l) := (filt_can h _).2
/-- a row tells a set -/
structure Tells (k o : Str) (d : D) (l : List Str) : Prop where
  row : Row d l
  len : l.length ≤ 1000
  mem : ∀ c, c ∈ l ↔ c ∈ sg o
theorem can_of {k o : Str} {l : List Str} (hk : k ∈ cans) (ho : o ∈ cans) (sub : ∀ c ∈ sg o, c ∈ sg k) (m : ∀ c, c ∈ l ↔ c ∈ sg o) : can k l = o := by
  unfold can
  have e : ((sg k).filter fun c => decide (c ∈ l)) = sg o := by
    have e1 : ((sg k).filter fun c => decide (c ∈ l)) = (sg k).filter fun c => decide (c ∈ sg o) := by
      congr 1
      funext c
      by_cases q : c ∈ sg o
      · rw [decide_eq_true q, decide_eq_true ((m c).mpr q)]
      · rw [decide_eq_false q, decide_eq_false fun z => q ((m c).mp z)]
    rw [e1, can_part k hk, List.filter_filter]
    conv => rhs; rw [can_part o ho]
    congr 1
    funext c
    by_cases q : c ∈ sg o
    · rw [decide_eq_true q, decide_eq_true (sub c q)]
      rfl
    · rw [decide_eq_false q]
      rfl
  rw [e]
  exact can_sg o ho
/-- many rows -/
abbrev Rows := List (D × List Str)
def GoodR (ls : Str) (rs : Rows) : Prop := ∀ r ∈ rs, Row r.1 r.2 ∧ r.2.length ≤ 1000 ∧ ∀ c ∈ r.2, c ∈ sg ls
def Lots (d : D) (xs : List D) : Prop := d = .lst xs ∨ d = .tup xs
def BadSets (ls : Str) (d k : D) : Prop := (plainD d = true ∧ isSeqB d = false ∧ k = d) ∨ ∃ (rs : Rows) (b : D) (post : List D), Lots d (rs.map (·.1) ++ b :: post) ∧ rs.length ≤ 1000 ∧ GoodR ls rs ∧ Bad ls b k
def WsetsOf : DFn := fun ds μ EX Q => ∃ (ls : Str) (d : D), ds = [.str ls, d] ∧ Lt ls ∧
  ((∃ rs : Rows, Lots d (rs.map (·.1)) ∧ rs.length ≤ 1000 ∧ GoodR ls rs ∧ Q (.lst (rs.map fun r => .str (can ls r.2))) μ) ∨ ∃ k, BadSets ls d k ∧ EX (.own "NoLetter" [("letter", k)]) μ)
theorem mono_setsOf : MonoW WsetsOf := fun ds μ EX Q Q' i ⟨ls, d, e, h1, h⟩ => ⟨ls, d, e, h1, h.imp (fun ⟨l, a, b, c, q⟩ => ⟨l, a, b, c, i _ _ q⟩) id⟩
theorem lots_src {d : D} {xs : List D} (h : Lots d xs) : plainD d = true ∧ isSeqB d = true ∧ ∀ (μ : Mu) (Q : List D → (Mu → Prop) → Mu → Prop), dSrc d μ Q = Q xs noChk μ := by
  rcases h with rfl | rfl <;> exact ⟨rfl, rfl, fun _ _ => rfl⟩
theorem sp_setsOf (ds : List D) (μ : Mu) (EX : EX0) (Q : D → Mu → Prop) (h : WsetsOf ds μ EX Q) : clW (dwp n_setsOf.length (T_setsOf WisSeq WsetOf)) ds μ EX Q := by
  obtain ⟨ls, d, rfl, h1, h⟩ := h
  refine clW_of ?_
  rcases h with ⟨rs, lo, hl, g, h⟩ | ⟨k, bad, h⟩
  · obtain ⟨p1, p2, p3⟩ := lots_src lo
    simp [dwp, dSeq, dIfS, dTst, dTru, dNot, dOp2, dOp1, dVar, dC, dSet, dSetI, dRet, dRetN, dNx, dNo, dCB, dCons, dNil, dAnd, dOr, dDrop, dTup, dLst, dLstC, dIfE, dAndV, dOrV, dNotV, dFrz, fzD, env0, endsF, drf_non, drf_bl, drf_int, drf_str, drf_lst, drf_tup, drf_scr, drf_val, drf_fn, drf_exc, modD_i, fdivD_i, subD_i, addD_i, andD_i, gtD_i, ltD_i, geD_i, leD_i, eqD_i, neD_i, eqD_s, neD_s, intD_i, absD_i, ixD_0, ixD_1, ixD_t0, ixD_t1, truth, dLc, dLcA, dLcC, dLcAC, dIter, dSrc_str, dSrc_lst, dSrc_tup, dYes, gN, gTp, gCn, gNl, wipeD, uAdd, uFor, uAddX, noChk, inD_s, notInD_s, lenD_s, lenD_l, dCall, T_setsOf, WisSeq]
    refine ⟨p1, ?_⟩
    rw [p2]
    simp [dwp, dSeq, dIfS, dTst, dTru, dNot, dOp2, dOp1, dVar, dC, dSet, dSetI, dRet, dRetN, dNx, dNo, dCB, dCons, dNil, dAnd, dOr, dDrop, dTup, dLst, dLstC, dIfE, dAndV, dOrV, dNotV, dFrz, fzD, env0, endsF, drf_non, drf_bl, drf_int, drf_str, drf_lst, drf_tup, drf_scr, drf_val, drf_fn, drf_exc, modD_i, fdivD_i, subD_i, addD_i, andD_i, gtD_i, ltD_i, geD_i, leD_i, eqD_i, neD_i, eqD_s, neD_s, intD_i, absD_i, ixD_0, ixD_1, ixD_t0, ixD_t1, truth, dLc, dLcA, dLcC, dLcAC, dIter, dSrc_str, dSrc_lst, dSrc_tup, dYes, gN, gTp, gCn, gNl, wipeD, uAdd, uFor, uAddX, noChk, inD_s, notInD_s, lenD_s, lenD_l, dCall]
    rw [lcX_src rfl p3]
    refine actL_g (α := D × List Str) (fun r => r.1) (fun _ => true) (fun r => D.str (can ls r.2)) rs [] (by simp; exact Nat.le_trans hl (by decide)) trivial (fun r m acc Q' hl q => ?_) (by rw [fT]; exact h)
    simp [dwp, dSeq, dIfS, dTst, dTru, dNot, dOp2, dOp1, dVar, dC, dSet, dSetI, dRet, dRetN, dNx, dNo, dCB, dCons, dNil, dAnd, dOr, dDrop, dTup, dLst, dLstC, dIfE, dAndV, dOrV, dNotV, dFrz, fzD, env0, endsF, drf_non, drf_bl, drf_int, drf_str, drf_lst, drf_tup, drf_scr, drf_val, drf_fn, drf_exc, modD_i, fdivD_i, subD_i, addD_i, andD_i, gtD_i, ltD_i, geD_i, leD_i, eqD_i, neD_i, eqD_s, neD_s, intD_i, absD_i, ixD_0, ixD_1, ixD_t0, ixD_t1, truth, dLc, dLcA, dLcC, dLcAC, dIter, dSrc_str, dSrc_lst, dSrc_tup, dYes, gN, gTp, gCn, gNl, wipeD, uAdd, uFor, uAddX, noChk, inD_s, notInD_s, lenD_s, lenD_l, dCall, WsetOf]
    obtain ⟨g1, g2, g3⟩ := g r m
    exact ⟨_, _, ⟨rfl, rfl⟩, h1, .inl ⟨r.2, g1, g2, g3, hl, q⟩⟩
  · rcases bad with ⟨p1, p2, rfl⟩ | ⟨rs, b, post, lo, hl, g, hb⟩
    · simp [dwp, dSeq, dIfS, dTst, dTru, dNot, dOp2, dOp1, dVar, dC, dSet, dSetI, dRet, dRetN, dNx, dNo, dCB, dCons, dNil, dAnd, dOr, dDrop, dTup, dLst, dLstC, dIfE, dAndV, dOrV, dNotV, dFrz, fzD, env0, endsF, drf_non, drf_bl, drf_int, drf_str, drf_lst, drf_tup, drf_scr, drf_val, drf_fn, drf_exc, modD_i, fdivD_i, subD_i, addD_i, andD_i, gtD_i, ltD_i, geD_i, leD_i, eqD_i, neD_i, eqD_s, neD_s, intD_i, absD_i, ixD_0, ixD_1, ixD_t0, ixD_t1, truth, dLc, dLcA, dLcC, dLcAC, dIter, dSrc_str, dSrc_lst, dSrc_tup, dYes, gN, gTp, gCn, gNl, wipeD, uAdd, uFor, uAddX, noChk, inD_s, notInD_s, lenD_s, lenD_l, dCall, T_setsOf, WisSeq]
      refine ⟨p1, ?_⟩
      rw [p2]
      simp [dwp, dSeq, dIfS, dTst, dTru, dNot, dOp2, dOp1, dVar, dC, dSet, dSetI, dRet, dRetN, dNx, dNo, dCB, dCons, dNil, dAnd, dOr, dDrop, dTup, dLst, dLstC, dIfE, dAndV, dOrV, dNotV, dFrz, fzD, env0, endsF, drf_non, drf_bl, drf_int, drf_str, drf_lst, drf_tup, drf_scr, drf_val, drf_fn, drf_exc, modD_i, fdivD_i, subD_i, addD_i, andD_i, gtD_i, ltD_i, geD_i, leD_i, eqD_i, neD_i, eqD_s, neD_s, intD_i, absD_i, ixD_0, ixD_1, ixD_t0, ixD_t1, truth, dLc, dLcA, dLcC, dLcAC, dIter, dSrc_str, dSrc_lst, dSrc_tup, dYes, gN, gTp, gCn, gNl, wipeD, uAdd, uFor, uAddX, noChk, inD_s, notInD_s, lenD_s, lenD_l, dCall, dRz]
      exact h
    · obtain ⟨p1, p2, p3⟩ := lots_src lo
      simp [dwp, dSeq, dIfS, dTst, dTru, dNot, dOp2, dOp1, dVar, dC, dSet, dSetI, dRet, dRetN, dNx, dNo, dCB, dCons, dNil, dAnd, dOr, dDrop, dTup, dLst, dLstC, dIfE, dAndV, dOrV, dNotV, dFrz, fzD, env0, endsF, drf_non, drf_bl, drf_int, drf_str, drf_lst, drf_tup, drf_scr, drf_val, drf_fn, drf_exc, modD_i, fdivD_i, subD_i, addD_i, andD_i, gtD_i, ltD_i, geD_i, leD_i, eqD_i, neD_i, eqD_s, neD_s, intD_i, absD_i, ixD_0, ixD_1, ixD_t0, ixD_t1, truth, dLc, dLcA, dLcC, dLcAC, dIter, dSrc_str, dSrc_lst, dSrc_tup, dYes, gN, gTp, gCn, gNl, wipeD, uAdd, uFor, uAddX, noChk, inD_s, notInD_s, lenD_s, lenD_l, dCall, T_setsOf, WisSeq]
      refine ⟨p1, ?_⟩
      rw [p2]
      simp [dwp, dSeq, dIfS, dTst, dTru, dNot, dOp2, dOp1, dVar, dC, dSet, dSetI, dRet, dRetN, dNx, dNo, dCB, dCons, dNil, dAnd, dOr, dDrop, dTup, dLst, dLstC, dIfE, dAndV, dOrV, dNotV, dFrz, fzD, env0, endsF, drf_non, drf_bl, drf_int, drf_str, drf_lst, drf_tup, drf_scr, drf_val, drf_fn, drf_exc, modD_i, fdivD_i, subD_i, addD_i, andD_i, gtD_i, ltD_i, geD_i, leD_i, eqD_i, neD_i, eqD_s, neD_s, intD_i, absD_i, ixD_0, ixD_1, ixD_t0, ixD_t1, truth, dLc, dLcA, dLcC, dLcAC, dIter, dSrc_str, dSrc_lst, dSrc_tup, dYes, gN, gTp, gCn, gNl, wipeD, uAdd, uFor, uAddX, noChk, inD_s, notInD_s, lenD_s, lenD_l, dCall]
      rw [lcX_src rfl p3]
      refine actL_gr (α := D × List Str) (fun r => r.1) (fun _ => true) (fun r => D.str (can ls r.2)) rs [] (by simp; exact Nat.le_trans hl (by decide)) trivial (fun r m acc Q' hl q => ?_) ⟨trivial, ?_⟩
      · simp [dwp, dSeq, dIfS, dTst, dTru, dNot, dOp2, dOp1, dVar, dC, dSet, dSetI, dRet, dRetN, dNx, dNo, dCB, dCons, dNil, dAnd, dOr, dDrop, dTup, dLst, dLstC, dIfE, dAndV, dOrV, dNotV, dFrz, fzD, env0, endsF, drf_non, drf_bl, drf_int, drf_str, drf_lst, drf_tup, drf_scr, drf_val, drf_fn, drf_exc, modD_i, fdivD_i, subD_i, addD_i, andD_i, gtD_i, ltD_i, geD_i, leD_i, eqD_i, neD_i, eqD_s, neD_s, intD_i, absD_i, ixD_0, ixD_1, ixD_t0, ixD_t1, truth, dLc, dLcA, dLcC, dLcAC, dIter, dSrc_str, dSrc_lst, dSrc_tup, dYes, gN, gTp, gCn, gNl, wipeD, uAdd, uFor, uAddX, noChk, inD_s, notInD_s, lenD_s, lenD_l, dCall, WsetOf]
        obtain ⟨g1, g2, g3⟩ := g r m
        exact ⟨_, _, ⟨rfl, rfl⟩, h1, .inl ⟨r.2, g1, g2, g3, hl, q⟩⟩
      · simp [dwp, dSeq, dIfS, dTst, dTru, dNot, dOp2, dOp1, dVar, dC, dSet, dSetI, dRet, dRetN, dNx, dNo, dCB, dCons, dNil, dAnd, dOr, dDrop, dTup, dLst, dLstC, dIfE, dAndV, dOrV, dNotV, dFrz, fzD, env0, endsF, drf_non, drf_bl, drf_int, drf_str, drf_lst, drf_tup, drf_scr, drf_val, drf_fn, drf_exc, modD_i, fdivD_i, subD_i, addD_i, andD_i, gtD_i, ltD_i, geD_i, leD_i, eqD_i, neD_i, eqD_s, neD_s, intD_i, absD_i, ixD_0, ixD_1, ixD_t0, ixD_t1, truth, dLc, dLcA, dLcC, dLcAC, dIter, dSrc_str, dSrc_lst, dSrc_tup, dYes, gN, gTp, gCn, gNl, wipeD, uAdd, uFor, uAddX, noChk, inD_s, notInD_s, lenD_s, lenD_l, dCall, WsetOf]
        exact ⟨_, _, ⟨rfl, rfl⟩, h1, .inr ⟨k, hb, h⟩⟩
end K65
set_option Elab.async false
set_option linter.all false
set_option autoImplicit false
set_option maxRecDepth 100000
set_option maxHeartbeats 4000000
namespace K65
open PySem PySem.Spec PyProof.Rows L2 Evl Dl
def Wlacking : DFn := fun ds μ EX Q => ∃ (ks : Str) (l : List Str), ds = [.str ks, .lst (l.map .str)] ∧ ks ∈ cans ∧ l.length ≤ 1000 ∧ Q (.lst (l.map fun o => .str (jn (lackS ks o)))) μ
theorem mono_lacking : MonoW Wlacking := fun ds μ EX Q Q' i ⟨a, b, e, h1, h2, h⟩ => ⟨a, b, e, h1, h2, i _ _ h⟩
theorem can_lack (ks o : Str) : can ks (lackS ks o) = jn (lackS ks o) := by
  unfold can lackS
  congr 1
  apply List.filter_congr
  intro c m
  by_cases q : (!hasS c o) = true
  · rw [q]
    exact decide_eq_true (List.mem_filter.mpr ⟨m, q⟩)
  · rw [Bool.not_eq_true] at q
    rw [q]
    exact decide_eq_false fun z => by rw [(List.mem_filter.mp z).2] at q; cases q
theorem src_lst (xs : List D) : ∀ (μ : Mu) (Q : List D → (Mu → Prop) → Mu → Prop), dSrc (.lst xs) μ Q = Q xs noChk μ := fun _ _ => rfl
theorem sp_lacking (ds : List D) (μ : Mu) (EX : EX0) (Q : D → Mu → Prop) (h : Wlacking ds μ EX Q) : clW (dwp n_lacking.length (T_lacking WsetOf)) ds μ EX Q := by
  obtain ⟨ks, l, rfl, h1, h2, h⟩ := h
  have lt := can_lt h1
  refine clW_of ?_
  simp [dwp, dSeq, dIfS, dTst, dTru, dNot, dOp2, dOp1, dVar, dC, dSet, dSetI, dRet, dRetN, dNx, dNo, dCB, dCons, dNil, dAnd, dOr, dDrop, dTup, dLst, dLstC, dIfE, dAndV, dOrV, dNotV, dFrz, fzD, env0, endsF, drf_non, drf_bl, drf_int, drf_str, drf_lst, drf_tup, drf_scr, drf_val, drf_fn, drf_exc, modD_i, fdivD_i, subD_i, addD_i, andD_i, gtD_i, ltD_i, geD_i, leD_i, eqD_i, neD_i, eqD_s, neD_s, intD_i, absD_i, ixD_0, ixD_1, ixD_t0, ixD_t1, truth, dLc, dLcA, dLcC, dLcAC, dIter, dSrc_str, dSrc_lst, dSrc_tup, dYes, gN, gTp, gCn, gNl, wipeD, uAdd, uFor, uAddX, noChk, inD_s, notInD_s, lenD_s, lenD_l, dCall, T_lacking]
  rw [lcX_src rfl (src_lst _)]
  refine actL_g .str (fun _ => true) (fun o => D.str (jn (lackS ks o))) l [] (by simp; exact Nat.le_trans h2 (by decide)) trivial (fun o m acc Q' hl q => ?_) (by rw [fT]; exact h)
  simp [dwp, dSeq, dIfS, dTst, dTru, dNot, dOp2, dOp1, dVar, dC, dSet, dSetI, dRet, dRetN, dNx, dNo, dCB, dCons, dNil, dAnd, dOr, dDrop, dTup, dLst, dLstC, dIfE, dAndV, dOrV, dNotV, dFrz, fzD, env0, endsF, drf_non, drf_bl, drf_int, drf_str, drf_lst, drf_tup, drf_scr, drf_val, drf_fn, drf_exc, modD_i, fdivD_i, subD_i, addD_i, andD_i, gtD_i, ltD_i, geD_i, leD_i, eqD_i, neD_i, eqD_s, neD_s, intD_i, absD_i, ixD_0, ixD_1, ixD_t0, ixD_t1, truth, dLc, dLcA, dLcC, dLcAC, dIter, dSrc_str, dSrc_lst, dSrc_tup, dYes, gN, gTp, gCn, gNl, wipeD, uAdd, uFor, uAddX, noChk, inD_s, notInD_s, lenD_s, lenD_l, dCall]
  refine actL_g .str (fun c => !hasS c o) .str _ [] (by simpa using lt.line) trivial (fun c m acc Q' hl q => ?_) ?_
  · simp [dwp, dSeq, dIfS, dTst, dTru, dNot, dOp2, dOp1, dVar, dC, dSet, dSetI, dRet, dRetN, dNx, dNo, dCB, dCons, dNil, dAnd, dOr, dDrop, dTup, dLst, dLstC, dIfE, dAndV, dOrV, dNotV, dFrz, fzD, env0, endsF, drf_non, drf_bl, drf_int, drf_str, drf_lst, drf_tup, drf_scr, drf_val, drf_fn, drf_exc, modD_i, fdivD_i, subD_i, addD_i, andD_i, gtD_i, ltD_i, geD_i, leD_i, eqD_i, neD_i, eqD_s, neD_s, intD_i, absD_i, ixD_0, ixD_1, ixD_t0, ixD_t1, truth, dLc, dLcA, dLcC, dLcAC, dIter, dSrc_str, dSrc_lst, dSrc_tup, dYes, gN, gTp, gCn, gNl, wipeD, uAdd, uFor, uAddX, noChk, inD_s, notInD_s, lenD_s, lenD_l, dCall]
    cases e : hasS c o with
    | true => rw [e] at q; exact .inl ⟨rfl, q⟩
    | false => rw [e] at q; exact .inr ⟨rfl, hl, q⟩
  · refine ⟨_, _, rfl, lt, .inl ⟨lackS ks o, .l _, ?_, fun c m => (List.mem_filter.mp m).1, ?_⟩⟩
    · exact Nat.le_trans (List.length_filter_le _ _) (by rw [sg_len]; exact lt.len)
    · rw [can_lack]
      exact ⟨hl, q⟩
/-- kinds told by a row of letters, sets by many rows -/
def kindsOk (a : D) (la : List Str) : Prop := Row a la ∧ la.length ≤ 1000 ∧ ∀ c ∈ la, c ∈ sg "abcd"
def Refuse (a d k : D) : Prop := Bad "abcd" a k ∨ ∃ la, kindsOk a la ∧ BadSets (can "abcd" la) d k
def Wcompl : DFn := fun ds μ EX Q => ∃ (a d : D), ds = [a, d] ∧
  ((∃ (la : List Str) (rs : Rows), kindsOk a la ∧ Lots d (rs.map (fun r => r.1)) ∧ rs.length ≤ 1000 ∧ GoodR (can "abcd" la) rs ∧ Q (.tup (rs.map fun r => .str (jn (lackS (can "abcd" la) (can (can "abcd" la) r.2))))) μ) ∨ ∃ k, Refuse a d k ∧ EX (.own "NoLetter" [("letter", k)]) μ)
theorem mono_compl : MonoW Wcompl := fun ds μ EX Q Q' i ⟨ls, d, e, h⟩ => ⟨ls, d, e, h.imp (fun ⟨l, rs, a, b, c, x, q⟩ => ⟨l, rs, a, b, c, x, i _ _ q⟩) id⟩
theorem abcd : ("abcd" : Str) ∈ cans := by decide +kernel
theorem sp_compl (ds : List D) (μ : Mu) (EX : EX0) (Q : D → Mu → Prop) (h : Wcompl ds μ EX Q) : clW (dwp n_compl.length (T_compl WsetOf Wlacking WsetsOf)) ds μ EX Q := by
  obtain ⟨a, d, rfl, h⟩ := h
  refine clW_of ?_
  rcases h with ⟨la, rs, ⟨k1, k2, k3⟩, lo, hl, g, h⟩ | ⟨k, bad, h⟩
  · simp [dwp, dSeq, dIfS, dTst, dTru, dNot, dOp2, dOp1, dVar, dC, dSet, dSetI, dRet, dRetN, dNx, dNo, dCB, dCons, dNil, dAnd, dOr, dDrop, dTup, dLst, dLstC, dIfE, dAndV, dOrV, dNotV, dFrz, fzD, env0, endsF, drf_non, drf_bl, drf_int, drf_str, drf_lst, drf_tup, drf_scr, drf_val, drf_fn, drf_exc, modD_i, fdivD_i, subD_i, addD_i, andD_i, gtD_i, ltD_i, geD_i, leD_i, eqD_i, neD_i, eqD_s, neD_s, intD_i, absD_i, ixD_0, ixD_1, ixD_t0, ixD_t1, truth, dLc, dLcA, dLcC, dLcAC, dIter, dSrc_str, dSrc_lst, dSrc_tup, dYes, gN, gTp, gCn, gNl, wipeD, uAdd, uFor, uAddX, noChk, inD_s, notInD_s, lenD_s, lenD_l, dCall, T_compl, WsetOf]
    refine ⟨_, _, ⟨rfl, rfl⟩, can_lt abcd, .inl ⟨la, k1, k2, k3, ?_⟩⟩
    have lt := can_lt (can_can abcd la)
    simp [dwp, dSeq, dIfS, dTst, dTru, dNot, dOp2, dOp1, dVar, dC, dSet, dSetI, dRet, dRetN, dNx, dNo, dCB, dCons, dNil, dAnd, dOr, dDrop, dTup, dLst, dLstC, dIfE, dAndV, dOrV, dNotV, dFrz, fzD, env0, endsF, drf_non, drf_bl, drf_int, drf_str, drf_lst, drf_tup, drf_scr, drf_val, drf_fn, drf_exc, modD_i, fdivD_i, subD_i, addD_i, andD_i, gtD_i, ltD_i, geD_i, leD_i, eqD_i, neD_i, eqD_s, neD_s, intD_i, absD_i, ixD_0, ixD_1, ixD_t0, ixD_t1, truth, dLc, dLcA, dLcC, dLcAC, dIter, dSrc_str, dSrc_lst, dSrc_tup, dYes, gN, gTp, gCn, gNl, wipeD, uAdd, uFor, uAddX, noChk, inD_s, notInD_s, lenD_s, lenD_l, dCall, WsetsOf]
    refine ⟨_, _, ⟨rfl, rfl⟩, lt, .inl ⟨rs, lo, hl, g, ?_⟩⟩
    simp [dwp, dSeq, dIfS, dTst, dTru, dNot, dOp2, dOp1, dVar, dC, dSet, dSetI, dRet, dRetN, dNx, dNo, dCB, dCons, dNil, dAnd, dOr, dDrop, dTup, dLst, dLstC, dIfE, dAndV, dOrV, dNotV, dFrz, fzD, env0, endsF, drf_non, drf_bl, drf_int, drf_str, drf_lst, drf_tup, drf_scr, drf_val, drf_fn, drf_exc, modD_i, fdivD_i, subD_i, addD_i, andD_i, gtD_i, ltD_i, geD_i, leD_i, eqD_i, neD_i, eqD_s, neD_s, intD_i, absD_i, ixD_0, ixD_1, ixD_t0, ixD_t1, truth, dLc, dLcA, dLcC, dLcAC, dIter, dSrc_str, dSrc_lst, dSrc_tup, dYes, gN, gTp, gCn, gNl, wipeD, uAdd, uFor, uAddX, noChk, inD_s, notInD_s, lenD_s, lenD_l, dCall, Wlacking]
    refine ⟨_, rs.map fun r => can (can "abcd" la) r.2, ⟨rfl, by rw [List.map_map]; rfl⟩, can_can abcd la, by rw [List.length_map]; exact hl, ?_⟩
    refine ⟨_, rfl, ?_⟩
    rw [List.map_map]
    exact h
  · rcases bad with bad | ⟨la, ⟨k1, k2, k3⟩, bad⟩
    · simp [dwp, dSeq, dIfS, dTst, dTru, dNot, dOp2, dOp1, dVar, dC, dSet, dSetI, dRet, dRetN, dNx, dNo, dCB, dCons, dNil, dAnd, dOr, dDrop, dTup, dLst, dLstC, dIfE, dAndV, dOrV, dNotV, dFrz, fzD, env0, endsF, drf_non, drf_bl, drf_int, drf_str, drf_lst, drf_tup, drf_scr, drf_val, drf_fn, drf_exc, modD_i, fdivD_i, subD_i, addD_i, andD_i, gtD_i, ltD_i, geD_i, leD_i, eqD_i, neD_i, eqD_s, neD_s, intD_i, absD_i, ixD_0, ixD_1, ixD_t0, ixD_t1, truth, dLc, dLcA, dLcC, dLcAC, dIter, dSrc_str, dSrc_lst, dSrc_tup, dYes, gN, gTp, gCn, gNl, wipeD, uAdd, uFor, uAddX, noChk, inD_s, notInD_s, lenD_s, lenD_l, dCall, T_compl, WsetOf]
      exact ⟨_, _, ⟨rfl, rfl⟩, can_lt abcd, .inr ⟨k, bad, h⟩⟩
    · simp [dwp, dSeq, dIfS, dTst, dTru, dNot, dOp2, dOp1, dVar, dC, dSet, dSetI, dRet, dRetN, dNx, dNo, dCB, dCons, dNil, dAnd, dOr, dDrop, dTup, dLst, dLstC, dIfE, dAndV, dOrV, dNotV, dFrz, fzD, env0, endsF, drf_non, drf_bl, drf_int, drf_str, drf_lst, drf_tup, drf_scr, drf_val, drf_fn, drf_exc, modD_i, fdivD_i, subD_i, addD_i, andD_i, gtD_i, ltD_i, geD_i, leD_i, eqD_i, neD_i, eqD_s, neD_s, intD_i, absD_i, ixD_0, ixD_1, ixD_t0, ixD_t1, truth, dLc, dLcA, dLcC, dLcAC, dIter, dSrc_str, dSrc_lst, dSrc_tup, dYes, gN, gTp, gCn, gNl, wipeD, uAdd, uFor, uAddX, noChk, inD_s, notInD_s, lenD_s, lenD_l, dCall, T_compl, WsetOf]
      refine ⟨_, _, ⟨rfl, rfl⟩, can_lt abcd, .inl ⟨la, k1, k2, k3, ?_⟩⟩
      have lt := can_lt (can_can abcd la)
      simp [dwp, dSeq, dIfS, dTst, dTru, dNot, dOp2, dOp1, dVar, dC, dSet, dSetI, dRet, dRetN, dNx, dNo, dCB, dCons, dNil, dAnd, dOr, dDrop, dTup, dLst, dLstC, dIfE, dAndV, dOrV, dNotV, dFrz, fzD, env0, endsF, drf_non, drf_bl, drf_int, drf_str, drf_lst, drf_tup, drf_scr, drf_val, drf_fn, drf_exc, modD_i, fdivD_i, subD_i, addD_i, andD_i, gtD_i, ltD_i, geD_i, leD_i, eqD_i, neD_i, eqD_s, neD_s, intD_i, absD_i, ixD_0, ixD_1, ixD_t0, ixD_t1, truth, dLc, dLcA, dLcC, dLcAC, dIter, dSrc_str, dSrc_lst, dSrc_tup, dYes, gN, gTp, gCn, gNl, wipeD, uAdd, uFor, uAddX, noChk, inD_s, notInD_s, lenD_s, lenD_l, dCall, WsetsOf]
      exact ⟨_, _, ⟨rfl, rfl⟩, lt, .inr ⟨k, bad, h⟩⟩
end K65
set_option Elab.async false
set_option linter.all false
set_option autoImplicit false
set_option maxRecDepth 100000
set_option maxHeartbeats 4000000
namespace K65
open PySem PySem.Spec PyProof.Rows L2 Evl Dl Cmb
def combFrom (n : Nat) : Nat → List Nat → List (List Nat)
  | 0, c => [c]
  | f + 1, c => c :: (match stC n c with
    | some d => combFrom n f d
    | none => [])
def combs (n r : Nat) : List (List Nat) := combFrom n 10 (List.range r)
theorem combs_ok : ∀ n ∈ List.range 5, ∀ r ∈ List.range (n + 1), chainB n r (combs n r) = true := by decide +kernel
def ofR (ks : Str) (r : Nat) : List Str := (combs ks.cps.size r).map fun c => jn (c.map fun k => (sg ks).getD k "")
def allOf (ks : Str) : List Str := (List.range (ks.cps.size + 1)).flatMap (ofR ks)
theorem all_cans : ∀ k ∈ cans, ∀ o ∈ allOf k, o ∈ cans := by decide +kernel
theorem all_len : ∀ k ∈ cans, ∀ i ∈ List.range 6, ((List.range i).flatMap (ofR k)).length ≤ 1000 := by decide +kernel
theorem can_size : ∀ k ∈ cans, k.cps.size ≤ 4 := by decide +kernel
theorem ofR_len : ∀ k ∈ cans, ∀ i ∈ List.range 6, (combs k.cps.size i).length ≤ 1000 := by decide +kernel
theorem signD_sg {z : Str} {k : Nat} (h : k < z.cps.size) : signD z k = .str ((sg z).getD k "") := by
  unfold signD sg
  rw [Array.getElem?_eq_getElem h, List.getD_eq_getElem?_getD, List.getElem?_map, Array.getElem?_toList, Array.getElem?_eq_getElem h]
  rfl
theorem sg_getD {z : Str} {k : Nat} (h : k < z.cps.size) : (sg z).getD k "" ∈ sg z := by
  have hl : k < (sg z).length := by rw [sg_len]; exact h
  rw [List.getD_eq_getElem?_getD, List.getElem?_eq_getElem hl]
  exact List.getElem_mem hl
theorem comb_of {ρ : DEnv} {i j : Nat} {z : Str} {r : Nat} {C : List (List Nat)} {μ : Mu} {EX : EXt} {Q : List D → (Mu → Prop) → Mu → Prop} (h1 : ρ[i]? = some (some (.str z))) (h2 : ρ[j]? = some (some (.int (r : Int)))) (hz : z.cps.size ≤ 1000) (hr : r ≤ z.cps.size) (ch : Chain z.cps.size r C) (q : Q (C.map fun c => .tup (c.map (signD z))) noChk μ) : dComb (dVar i) (dVar j) ρ μ EX Q := by
  unfold dComb dVar
  rw [h1]
  dsimp only
  rw [h2]
  exact ⟨z, r, C, rfl, rfl, hz, hr, ch, q⟩
def WallSets : DFn := fun ds μ EX Q => ∃ ks : Str, ds = [.str ks] ∧ ks ∈ cans ∧ Q (.lst ((allOf ks).map .str)) μ
theorem mono_allSets : MonoW WallSets := fun ds μ EX Q Q' i ⟨a, e, h1, h⟩ => ⟨a, e, h1, i _ _ h⟩
theorem range_1 (n : Nat) (h : n < 1000) : rangeD [.int ((n : Int) + 1)] = some ((List.range (n + 1)).map fun (k : Nat) => D.int (k : Int)) := by
  unfold rangeD
  dsimp only
  rw [if_pos ⟨by omega, by omega⟩]
  unfold natsFrom
  rw [show ((n : Int) + 1).toNat = n + 1 by omega]
  congr 1
  apply List.map_congr_left
  intro k _
  rw [Int.zero_add]
theorem sp_allSets (ds : List D) (μ : Mu) (EX : EX0) (Q : D → Mu → Prop) (h : WallSets ds μ EX Q) : clW (dwp n_allSets.length T_allSets) ds μ EX Q := by
  obtain ⟨ks, rfl, h1, h⟩ := h
  refine clW_of ?_
  have hs := can_size ks h1
  have e1 : (ks.length : Int) = (ks.cps.size : Int) := rfl
  simp [dwp, dSeq, dIfS, dTst, dTru, dNot, dOp2, dOp1, dVar, dC, dSet, dSetI, dRet, dRetN, dNx, dNo, dCB, dCons, dNil, dAnd, dOr, dDrop, dTup, dLst, dLstC, dIfE, dAndV, dOrV, dNotV, dFrz, fzD, env0, endsF, drf_non, drf_bl, drf_int, drf_str, drf_lst, drf_tup, drf_scr, drf_val, drf_fn, drf_exc, modD_i, fdivD_i, subD_i, addD_i, andD_i, gtD_i, ltD_i, geD_i, leD_i, eqD_i, neD_i, eqD_s, neD_s, intD_i, absD_i, ixD_0, ixD_1, ixD_t0, ixD_t1, truth, dLc, dLcA, dLcC, dLcAC, dIter, dSrc_str, dSrc_lst, dSrc_tup, dYes, gN, gTp, gCn, gNl, wipeD, uAdd, uFor, uAddX, noChk, inD_s, notInD_s, lenD_s, lenD_l, dCall, T_allSets, dRange, e1]
  refine ⟨_, range_1 ks.cps.size (by omega), ?_⟩
  refine actL_inv _ (fun i acc m => m = μ ∧ acc = ((List.range i).flatMap (ofR ks)).map .str) [] μ ⟨rfl, rfl⟩ (fun _ _ _ _ => trivial) (fun i d acc m Q' hd ⟨rfl, ea⟩ k => ?_) fun acc m ⟨rfl, ea⟩ => ?_
  · rw [List.getElem?_map] at hd
    obtain ⟨j, hj, rfl⟩ := Option.map_eq_some_iff.mp hd
    have hi : i < ks.cps.size + 1 := by simpa using (List.getElem?_eq_some_iff.mp hj).1
    have ej : j = i := by
      rw [List.getElem?_range hi] at hj
      exact (Option.some.inj hj).symm
    subst ej
    have ch := chain_of (combs_ok ks.cps.size (List.mem_range.mpr (by omega)) j (List.mem_range.mpr hi))
    have hl := all_len ks h1 j (List.mem_range.mpr (by omega))
    have hl2 := ofR_len ks h1 j (List.mem_range.mpr (by omega))
    simp [dwp, dSeq, dIfS, dTst, dTru, dNot, dOp2, dOp1, dVar, dC, dSet, dSetI, dRet, dRetN, dNx, dNo, dCB, dCons, dNil, dAnd, dOr, dDrop, dTup, dLst, dLstC, dIfE, dAndV, dOrV, dNotV, dFrz, fzD, env0, endsF, drf_non, drf_bl, drf_int, drf_str, drf_lst, drf_tup, drf_scr, drf_val, drf_fn, drf_exc, modD_i, fdivD_i, subD_i, addD_i, andD_i, gtD_i, ltD_i, geD_i, leD_i, eqD_i, neD_i, eqD_s, neD_s, intD_i, absD_i, ixD_0, ixD_1, ixD_t0, ixD_t1, truth, dLc, dLcA, dLcC, dLcAC, dIter, dSrc_str, dSrc_lst, dSrc_tup, dYes, gN, gTp, gCn, gNl, wipeD, uAdd, uFor, uAddX, noChk, inD_s, notInD_s, lenD_s, lenD_l, dCall]
    refine comb_of (C := combs ks.cps.size j) rfl rfl (by omega) (by omega) ch ?_
    refine actL_g (α := List Nat) (fun c => .tup (c.map (signD ks))) (fun _ => true) (fun c => .str (jn (c.map fun k => (sg ks).getD k ""))) (combs ks.cps.size j) acc ?_ trivial (fun c m acc Q' hl q => ?_) ?_
    · rw [ea, List.length_map]
      exact Nat.le_trans (Nat.add_le_add hl hl2) (by decide)
    · simp [dwp, dSeq, dIfS, dTst, dTru, dNot, dOp2, dOp1, dVar, dC, dSet, dSetI, dRet, dRetN, dNx, dNo, dCB, dCons, dNil, dAnd, dOr, dDrop, dTup, dLst, dLstC, dIfE, dAndV, dOrV, dNotV, dFrz, fzD, env0, endsF, drf_non, drf_bl, drf_int, drf_str, drf_lst, drf_tup, drf_scr, drf_val, drf_fn, drf_exc, modD_i, fdivD_i, subD_i, addD_i, andD_i, gtD_i, ltD_i, geD_i, leD_i, eqD_i, neD_i, eqD_s, neD_s, intD_i, absD_i, ixD_0, ixD_1, ixD_t0, ixD_t1, truth, dLc, dLcA, dLcC, dLcAC, dIter, dSrc_str, dSrc_lst, dSrc_tup, dYes, gN, gTp, gCn, gNl, wipeD, uAdd, uFor, uAddX, noChk, inD_s, notInD_s, lenD_s, lenD_l, dCall, dJoin]
      obtain ⟨c1, c2⟩ := ch.len c m
      have ec : c.map (signD ks) = (c.map fun k => (sg ks).getD k "").map D.str := by
        rw [List.map_map]
        exact List.map_congr_left fun k mk => signD_sg (c2 k mk)
      have ej := join_tup (l := c.map fun k => (sg ks).getD k "") (fun x mx => by
        obtain ⟨k, mk, rfl⟩ := List.mem_map.mp mx
        exact sg_ones _ (sg_getD (c2 k mk))) (by rw [List.length_map]; omega)
      exact ⟨_, by rw [ec]; exact ej, hl, q⟩
    · rw [fT]
      refine k _ _ ⟨rfl, ?_⟩
      rw [ea, List.range_succ, List.flatMap_append, List.map_append]
      congr 1
      unfold ofR
      simp
  · rw [ea, List.length_map, List.length_range]
    exact h
/-! the least that meet all -/
def meetB (os : List Str) (o : Str) : Bool := os.all fun s => comB o s
def metOf (ks : Str) (os : List Str) : List Str := (allOf ks).filter (meetB os)
def aboveB (ms : List Str) (o : Str) : Bool := (ms.filter fun x => !decide (x = o)).any fun x => liesB x o
def leastOf (ks : Str) (os : List Str) : List Str := (metOf ks os).filter fun o => !aboveB (metOf ks os) o
def Wmeeting : DFn := fun ds μ EX Q => ∃ (a d : D), ds = [a, d] ∧
  ((∃ (la : List Str) (rs : Rows), kindsOk a la ∧ Lots d (rs.map (fun r => r.1)) ∧ rs.length ≤ 1000 ∧ GoodR (can "abcd" la) rs ∧ Q (.tup ((leastOf (can "abcd" la) (rs.map fun r => can (can "abcd" la) r.2)).map .str)) μ) ∨ ∃ k, Refuse a d k ∧ EX (.own "NoLetter" [("letter", k)]) μ)
theorem mono_meeting : MonoW Wmeeting := fun ds μ EX Q Q' i ⟨ls, d, e, h⟩ => ⟨ls, d, e, h.imp (fun ⟨l, rs, a, b, c, x, q⟩ => ⟨l, rs, a, b, c, x, i _ _ q⟩) id⟩
theorem all_1000 : ∀ k ∈ cans, (allOf k).length ≤ 1000 := by decide +kernel
theorem met_len {k : Str} (h : k ∈ cans) (os : List Str) : (metOf k os).length ≤ 1000 := Nat.le_trans (List.length_filter_le _ _) (all_1000 k h)
theorem met_can {k : Str} (h : k ∈ cans) {os : List Str} {o : Str} (m : o ∈ metOf k os) : o ∈ cans := all_cans k h o (List.mem_filter.mp m).1
theorem line_of {n : Nat} (h : n ≤ 1000) : n ≤ sizeLine := Nat.le_trans h (by decide)
theorem sp_meeting (ds : List D) (μ : Mu) (EX : EX0) (Q : D → Mu → Prop) (h : Wmeeting ds μ EX Q) : clW (dwp n_meeting.length (T_meeting WsetOf WsetsOf WallSets WhaveCom WliesIn)) ds μ EX Q := by
  obtain ⟨a, d, rfl, h⟩ := h
  refine clW_of ?_
  rcases h with ⟨la, rs, ⟨k1, k2, k3⟩, lo, hl, g, h⟩ | ⟨k, bad, h⟩
  · have kc := can_can abcd la
    have lt := can_lt kc
    generalize hks : can "abcd" la = ks at *
    simp [dwp, dSeq, dIfS, dTst, dTru, dNot, dOp2, dOp1, dVar, dC, dSet, dSetI, dRet, dRetN, dNx, dNo, dCB, dCons, dNil, dAnd, dOr, dDrop, dTup, dLst, dLstC, dIfE, dAndV, dOrV, dNotV, dFrz, fzD, env0, endsF, drf_non, drf_bl, drf_int, drf_str, drf_lst, drf_tup, drf_scr, drf_val, drf_fn, drf_exc, modD_i, fdivD_i, subD_i, addD_i, andD_i, gtD_i, ltD_i, geD_i, leD_i, eqD_i, neD_i, eqD_s, neD_s, intD_i, absD_i, ixD_0, ixD_1, ixD_t0, ixD_t1, truth, dLc, dLcA, dLcC, dLcAC, dIter, dSrc_str, dSrc_lst, dSrc_tup, dYes, gN, gTp, gCn, gNl, wipeD, uAdd, uFor, uAddX, noChk, inD_s, notInD_s, lenD_s, lenD_l, dCall, T_meeting, WsetOf]
    refine ⟨_, _, ⟨rfl, rfl⟩, can_lt abcd, .inl ⟨la, k1, k2, k3, ?_⟩⟩
    rw [hks]
    simp [dwp, dSeq, dIfS, dTst, dTru, dNot, dOp2, dOp1, dVar, dC, dSet, dSetI, dRet, dRetN, dNx, dNo, dCB, dCons, dNil, dAnd, dOr, dDrop, dTup, dLst, dLstC, dIfE, dAndV, dOrV, dNotV, dFrz, fzD, env0, endsF, drf_non, drf_bl, drf_int, drf_str, drf_lst, drf_tup, drf_scr, drf_val, drf_fn, drf_exc, modD_i, fdivD_i, subD_i, addD_i, andD_i, gtD_i, ltD_i, geD_i, leD_i, eqD_i, neD_i, eqD_s, neD_s, intD_i, absD_i, ixD_0, ixD_1, ixD_t0, ixD_t1, truth, dLc, dLcA, dLcC, dLcAC, dIter, dSrc_str, dSrc_lst, dSrc_tup, dYes, gN, gTp, gCn, gNl, wipeD, uAdd, uFor, uAddX, noChk, inD_s, notInD_s, lenD_s, lenD_l, dCall, WsetsOf]
    refine ⟨_, _, ⟨rfl, rfl⟩, lt, .inl ⟨rs, lo, hl, g, ?_⟩⟩
    have er : (rs.map fun r => D.str (can ks r.2)) = (rs.map fun r => can ks r.2).map D.str := by rw [List.map_map]; rfl
    rw [er]
    generalize hos : (rs.map fun r => can ks r.2) = os at *
    have lo2 : os.length ≤ 1000 := by rw [← hos, List.length_map]; exact hl
    simp [dwp, dSeq, dIfS, dTst, dTru, dNot, dOp2, dOp1, dVar, dC, dSet, dSetI, dRet, dRetN, dNx, dNo, dCB, dCons, dNil, dAnd, dOr, dDrop, dTup, dLst, dLstC, dIfE, dAndV, dOrV, dNotV, dFrz, fzD, env0, endsF, drf_non, drf_bl, drf_int, drf_str, drf_lst, drf_tup, drf_scr, drf_val, drf_fn, drf_exc, modD_i, fdivD_i, subD_i, addD_i, andD_i, gtD_i, ltD_i, geD_i, leD_i, eqD_i, neD_i, eqD_s, neD_s, intD_i, absD_i, ixD_0, ixD_1, ixD_t0, ixD_t1, truth, dLc, dLcA, dLcC, dLcAC, dIter, dSrc_str, dSrc_lst, dSrc_tup, dYes, gN, gTp, gCn, gNl, wipeD, uAdd, uFor, uAddX, noChk, inD_s, notInD_s, lenD_s, lenD_l, dCall, WallSets]
    refine ⟨kc, ?_⟩
    refine actL_g .str (meetB os) .str (allOf ks) [] (by simpa using line_of (all_1000 ks kc)) trivial (fun o m acc Q' hl q => ?_) ?_
    · have oc := all_cans ks kc o m
      simp [dwp, dSeq, dIfS, dTst, dTru, dNot, dOp2, dOp1, dVar, dC, dSet, dSetI, dRet, dRetN, dNx, dNo, dCB, dCons, dNil, dAnd, dOr, dDrop, dTup, dLst, dLstC, dIfE, dAndV, dOrV, dNotV, dFrz, fzD, env0, endsF, drf_non, drf_bl, drf_int, drf_str, drf_lst, drf_tup, drf_scr, drf_val, drf_fn, drf_exc, modD_i, fdivD_i, subD_i, addD_i, andD_i, gtD_i, ltD_i, geD_i, leD_i, eqD_i, neD_i, eqD_s, neD_s, intD_i, absD_i, ixD_0, ixD_1, ixD_t0, ixD_t1, truth, dLc, dLcA, dLcC, dLcAC, dIter, dSrc_str, dSrc_lst, dSrc_tup, dYes, gN, gTp, gCn, gNl, wipeD, uAdd, uFor, uAddX, noChk, inD_s, notInD_s, lenD_s, lenD_l, dCall]
      refine actL_g .str (fun _ => true) (fun s => .bl (comB o s)) os [] (by simpa using line_of lo2) trivial (fun s m acc Q'' hl q => ?_) ?_
      · simp [dwp, dSeq, dIfS, dTst, dTru, dNot, dOp2, dOp1, dVar, dC, dSet, dSetI, dRet, dRetN, dNx, dNo, dCB, dCons, dNil, dAnd, dOr, dDrop, dTup, dLst, dLstC, dIfE, dAndV, dOrV, dNotV, dFrz, fzD, env0, endsF, drf_non, drf_bl, drf_int, drf_str, drf_lst, drf_tup, drf_scr, drf_val, drf_fn, drf_exc, modD_i, fdivD_i, subD_i, addD_i, andD_i, gtD_i, ltD_i, geD_i, leD_i, eqD_i, neD_i, eqD_s, neD_s, intD_i, absD_i, ixD_0, ixD_1, ixD_t0, ixD_t1, truth, dLc, dLcA, dLcC, dLcAC, dIter, dSrc_str, dSrc_lst, dSrc_tup, dYes, gN, gTp, gCn, gNl, wipeD, uAdd, uFor, uAddX, noChk, inD_s, notInD_s, lenD_s, lenD_l, dCall, WhaveCom]
        exact ⟨_, _, ⟨rfl, rfl⟩, can_lt oc, hl, q⟩
      · rw [fT]
        have ea := allD_map (comB o) os
        refine ⟨_, ea, ?_⟩
        cases e : os.all (comB o) with
        | true => rw [show meetB os o = true from e] at q; exact .inr ⟨rfl, hl, q⟩
        | false => rw [show meetB os o = false from e] at q; exact .inl ⟨rfl, q⟩
    · rw [List.nil_append]
      show dActL _ _ _ _ _ ((metOf ks os).map D.str) _ _ _
      refine actL_g .str (fun o => !aboveB (metOf ks os) o) .str (metOf ks os) [] (by simpa using line_of (met_len kc os)) trivial (fun o m acc Q' hl q => ?_) ?_
      · have oc := met_can kc m
        simp [dwp, dSeq, dIfS, dTst, dTru, dNot, dOp2, dOp1, dVar, dC, dSet, dSetI, dRet, dRetN, dNx, dNo, dCB, dCons, dNil, dAnd, dOr, dDrop, dTup, dLst, dLstC, dIfE, dAndV, dOrV, dNotV, dFrz, fzD, env0, endsF, drf_non, drf_bl, drf_int, drf_str, drf_lst, drf_tup, drf_scr, drf_val, drf_fn, drf_exc, modD_i, fdivD_i, subD_i, addD_i, andD_i, gtD_i, ltD_i, geD_i, leD_i, eqD_i, neD_i, eqD_s, neD_s, intD_i, absD_i, ixD_0, ixD_1, ixD_t0, ixD_t1, truth, dLc, dLcA, dLcC, dLcAC, dIter, dSrc_str, dSrc_lst, dSrc_tup, dYes, gN, gTp, gCn, gNl, wipeD, uAdd, uFor, uAddX, noChk, inD_s, notInD_s, lenD_s, lenD_l, dCall]
        refine actL_g .str (fun x => !decide (x = o)) (fun x => .bl (liesB x o)) (metOf ks os) [] (by simpa using line_of (met_len kc os)) trivial (fun x m acc Q'' hl q => ?_) ?_
        · have xc := met_can kc m
          simp [dwp, dSeq, dIfS, dTst, dTru, dNot, dOp2, dOp1, dVar, dC, dSet, dSetI, dRet, dRetN, dNx, dNo, dCB, dCons, dNil, dAnd, dOr, dDrop, dTup, dLst, dLstC, dIfE, dAndV, dOrV, dNotV, dFrz, fzD, env0, endsF, drf_non, drf_bl, drf_int, drf_str, drf_lst, drf_tup, drf_scr, drf_val, drf_fn, drf_exc, modD_i, fdivD_i, subD_i, addD_i, andD_i, gtD_i, ltD_i, geD_i, leD_i, eqD_i, neD_i, eqD_s, neD_s, intD_i, absD_i, ixD_0, ixD_1, ixD_t0, ixD_t1, truth, dLc, dLcA, dLcC, dLcAC, dIter, dSrc_str, dSrc_lst, dSrc_tup, dYes, gN, gTp, gCn, gNl, wipeD, uAdd, uFor, uAddX, noChk, inD_s, notInD_s, lenD_s, lenD_l, dCall, WliesIn]
          by_cases e : x = o
          · rw [if_neg (by simp [e])] at q
            exact .inl ⟨e, q⟩
          · rw [if_pos (by simp [e])] at q
            exact .inr ⟨e, _, _, ⟨rfl, rfl⟩, can_lt xc, hl, q⟩
        · have ea := anyD_map (fun x => liesB x o) ((metOf ks os).filter fun x => !decide (x = o))
          refine ⟨_, ea, ?_⟩
          cases e : aboveB (metOf ks os) o with
          | true =>
            rw [e] at q
            rw [show ((metOf ks os).filter fun x => !decide (x = o)).any (fun x => liesB x o) = true from e]
            exact .inr ⟨rfl, q⟩
          | false =>
            rw [e] at q
            rw [show ((metOf ks os).filter fun x => !decide (x = o)).any (fun x => liesB x o) = false from e]
            exact .inl ⟨rfl, hl, q⟩
      · exact ⟨_, rfl, h⟩
  · rcases bad with bad | ⟨la, ⟨k1, k2, k3⟩, bad⟩
    · simp [dwp, dSeq, dIfS, dTst, dTru, dNot, dOp2, dOp1, dVar, dC, dSet, dSetI, dRet, dRetN, dNx, dNo, dCB, dCons, dNil, dAnd, dOr, dDrop, dTup, dLst, dLstC, dIfE, dAndV, dOrV, dNotV, dFrz, fzD, env0, endsF, drf_non, drf_bl, drf_int, drf_str, drf_lst, drf_tup, drf_scr, drf_val, drf_fn, drf_exc, modD_i, fdivD_i, subD_i, addD_i, andD_i, gtD_i, ltD_i, geD_i, leD_i, eqD_i, neD_i, eqD_s, neD_s, intD_i, absD_i, ixD_0, ixD_1, ixD_t0, ixD_t1, truth, dLc, dLcA, dLcC, dLcAC, dIter, dSrc_str, dSrc_lst, dSrc_tup, dYes, gN, gTp, gCn, gNl, wipeD, uAdd, uFor, uAddX, noChk, inD_s, notInD_s, lenD_s, lenD_l, dCall, T_meeting, WsetOf]
      exact ⟨_, _, ⟨rfl, rfl⟩, can_lt abcd, .inr ⟨k, bad, h⟩⟩
    · simp [dwp, dSeq, dIfS, dTst, dTru, dNot, dOp2, dOp1, dVar, dC, dSet, dSetI, dRet, dRetN, dNx, dNo, dCB, dCons, dNil, dAnd, dOr, dDrop, dTup, dLst, dLstC, dIfE, dAndV, dOrV, dNotV, dFrz, fzD, env0, endsF, drf_non, drf_bl, drf_int, drf_str, drf_lst, drf_tup, drf_scr, drf_val, drf_fn, drf_exc, modD_i, fdivD_i, subD_i, addD_i, andD_i, gtD_i, ltD_i, geD_i, leD_i, eqD_i, neD_i, eqD_s, neD_s, intD_i, absD_i, ixD_0, ixD_1, ixD_t0, ixD_t1, truth, dLc, dLcA, dLcC, dLcAC, dIter, dSrc_str, dSrc_lst, dSrc_tup, dYes, gN, gTp, gCn, gNl, wipeD, uAdd, uFor, uAddX, noChk, inD_s, notInD_s, lenD_s, lenD_l, dCall, T_meeting, WsetOf]
      refine ⟨_, _, ⟨rfl, rfl⟩, can_lt abcd, .inl ⟨la, k1, k2, k3, ?_⟩⟩
      have lt := can_lt (can_can abcd la)
      simp [dwp, dSeq, dIfS, dTst, dTru, dNot, dOp2, dOp1, dVar, dC, dSet, dSetI, dRet, dRetN, dNx, dNo, dCB, dCons, dNil, dAnd, dOr, dDrop, dTup, dLst, dLstC, dIfE, dAndV, dOrV, dNotV, dFrz, fzD, env0, endsF, drf_non, drf_bl, drf_int, drf_str, drf_lst, drf_tup, drf_scr, drf_val, drf_fn, drf_exc, modD_i, fdivD_i, subD_i, addD_i, andD_i, gtD_i, ltD_i, geD_i, leD_i, eqD_i, neD_i, eqD_s, neD_s, intD_i, absD_i, ixD_0, ixD_1, ixD_t0, ixD_t1, truth, dLc, dLcA, dLcC, dLcAC, dIter, dSrc_str, dSrc_lst, dSrc_tup, dYes, gN, gTp, gCn, gNl, wipeD, uAdd, uFor, uAddX, noChk, inD_s, notInD_s, lenD_s, lenD_l, dCall, WsetsOf]
      exact ⟨_, _, ⟨rfl, rfl⟩, lt, .inr ⟨k, bad, h⟩⟩
end K65
set_option Elab.async false
set_option linter.all false
set_option autoImplicit false
set_option maxRecDepth 100000
set_option maxHeartbeats 4000000
namespace K65
open PySem PySem.Spec PyProof.Rows L2 Evl Dl Cmb
theorem sort_map {F : Nat → D} {ns σ : List Nat} (rank : Nat → Nat) (hσ : σ.Perm ns) (hp : σ.Pairwise fun i j => rank i ≤ rank j) (hr : ∀ a ∈ ns, ∀ b ∈ ns, decide (rank a ≤ rank b) = leP (F a) (F b)) (anti : ∀ a ∈ ns, ∀ b ∈ ns, rank a = rank b → a = b) : (ns.map F).mergeSort leP = σ.map F := by
  rw [← List.map_mergeSort (r := fun a b => decide (rank a ≤ rank b)) hr]
  congr 1
  refine List.Perm.eq_of_pairwise (le := fun a b => rank a ≤ rank b) (fun a b ma mb h1 h2 => ?_) ?_ hp ((List.mergeSort_perm _ _).trans hσ.symm)
  · exact anti a ((List.mergeSort_perm _ _).mem_iff.mp ma) b (hσ.mem_iff.mp mb) (Nat.le_antisymm h1 h2)
  · refine (List.pairwise_mergeSort (le := fun a b => decide (rank a ≤ rank b)) (fun a b c h1 h2 => ?_) (fun a b => ?_) ns).imp fun h => of_decide_eq_true h
    · exact decide_eq_true (Nat.le_trans (of_decide_eq_true h1) (of_decide_eq_true h2))
    · rcases Nat.le_total (rank a) (rank b) with h | h
      · rw [decide_eq_true h]; rfl
      · rw [decide_eq_true h, Bool.or_true]
/-- the kinds that are drawn -/
def KS : List Str := ["abcd", "abc", "abd", "bd", "c", ""]
theorem KS_can : ∀ k ∈ KS, k ∈ cans := by decide +kernel
def bitB (n at' : Nat) : Bool := decide (Builtin.bitAnd ((n : Int) / 2 ^ at') 1 = 1)
/-- the letters of number n -/
def lets (k : Str) (n : Nat) : List Str := ((List.range k.cps.size).filter (bitB n)).map fun i => (sg k).getD i ""
def pairF (k : Str) (n : Nat) : D := .tup [.int (lets k n).length, .str (jn (lets k n))]
def setN (k : Str) (n : Nat) : Str := jn (lets k n)
def rankN (k : Str) (n : Nat) : Nat := (allOf k).findIdx fun o => decide (o = setN k n)
def sigma (k : Str) : List Nat := (List.range (allOf k).length).map fun i => (List.range (2 ^ k.cps.size)).findIdx fun n => decide (rankN k n = i)
theorem sig_perm : ∀ k ∈ KS, (sigma k).isPerm (List.range (2 ^ k.cps.size)) = true := by decide +kernel
theorem sig_pair : ∀ k ∈ KS, (sigma k).Pairwise fun i j => rankN k i ≤ rankN k j := by decide +kernel
theorem sig_set : ∀ k ∈ KS, (sigma k).map (setN k) = allOf k := by decide +kernel
theorem sig_le : ∀ k ∈ KS, ∀ a ∈ List.range (2 ^ k.cps.size), ∀ b ∈ List.range (2 ^ k.cps.size), decide (rankN k a ≤ rankN k b) = leP (pairF k a) (pairF k b) := by decide +kernel
theorem sig_anti : ∀ k ∈ KS, ∀ a ∈ List.range (2 ^ k.cps.size), ∀ b ∈ List.range (2 ^ k.cps.size), rankN k a = rankN k b → a = b := by decide +kernel
theorem sig_sorted : ∀ k ∈ KS, (match toPs ((List.range (2 ^ k.cps.size)).map (pairF k)) with | some ps => sortedP ps | none => false) = true := by decide +kernel
theorem sort_k {k : Str} (h : k ∈ KS) : sortedD [.lst ((List.range (2 ^ k.cps.size)).map (pairF k))] = some (.lst ((sigma k).map (pairF k))) := by
  have e := sort_map (F := pairF k) (rankN k) (List.isPerm_iff.mp (sig_perm k h)) (sig_pair k h) (sig_le k h) (sig_anti k h)
  have s := sig_sorted k h
  have hl : ((List.range (2 ^ k.cps.size)).map (pairF k)).length ≤ sizeLine := by
    rw [List.length_map, List.length_range]
    have := can_size k (KS_can k h)
    exact Nat.le_trans (Nat.pow_le_pow_right (by decide) this) (by decide)
  unfold sortedD
  dsimp only
  split at s
  · rename_i ps hp
    first
    | rw [if_pos ⟨s, hl⟩, e]
    | (rw [hp]; dsimp only; rw [if_pos ⟨s, hl⟩, e])
  · cases s
/-- what was there is there -/
def Keep (μ μ' : Mu) : Prop := ∀ (n : Nat) (x : D), μ[n]? = some (some x) → μ'[n]? = some (some x)
theorem Box.keep {n : Nat} {μ μ' : Mu} (h : Box n μ) (k : Keep μ μ') : Box n μ' := by
  obtain ⟨a, b, ha, e⟩ := h
  exact ⟨a, b, ha, k n _ e⟩
def WlSets : DFn := fun ds μ EX Q => ∃ k : Str, ds = [.str k] ∧ k ∈ KS ∧ ∀ μ', Keep μ μ' → Q (.lst ((allOf k).map .str)) μ'
theorem mono_lSets : MonoW WlSets := fun ds μ EX Q Q' i ⟨a, e, h1, h⟩ => ⟨a, e, h1, fun μ' k => i _ _ (h μ' k)⟩
theorem range_n (n : Nat) (h : n < 1000) : rangeD [.int (n : Int)] = some ((List.range n).map fun (k : Nat) => D.int (k : Int)) := by
  unfold rangeD
  dsimp only
  rw [if_pos ⟨by omega, by omega⟩]
  unfold natsFrom
  rw [show ((n : Int)).toNat = n by omega]
  congr 1
  apply List.map_congr_left
  intro k _
  rw [Int.zero_add]
theorem shlD_1 (n : Nat) (h : n ≤ 1000) : shlD (.int 1) (.int (n : Int)) = some (.int ((2 ^ n : Nat) : Int)) := by
  unfold shlD i2
  dsimp only
  rw [if_pos (decide_eq_true ⟨by omega, by omega, by decide⟩)]
  simp
theorem shrD_n (i n : Nat) : shrD (.int (i : Int)) (.int (n : Int)) = some (.int ((i : Int) / 2 ^ n)) := by
  unfold shrD i2
  simp
theorem atI_nat {α : Type} (xs : List α) (k : Nat) : atI xs (k : Int) = xs[k]? := by
  unfold atI ixN
  by_cases h : k < xs.length
  · rw [if_pos (by omega), if_pos (by omega)]
    rfl
  · rw [if_pos (by omega), if_neg (by omega), List.getElem?_eq_none (by omega)]
    rfl
theorem ix_str {z : Str} {k : Nat} (h : k < z.cps.size) : ixD (.str z) (.int (k : Int)) = some (.str ((sg z).getD k "")) := by
  show (atI z.cps.toList (k : Int)).map (fun c => D.str ⟨#[c]⟩) = _
  rw [atI_nat, Array.getElem?_toList, Array.getElem?_eq_getElem h]
  unfold sg
  rw [List.getD_eq_getElem?_getD, List.getElem?_map, Array.getElem?_toList, Array.getElem?_eq_getElem h]
  rfl
theorem sp_lSets (ds : List D) (μ : Mu) (EX : EX0) (Q : D → Mu → Prop) (h : WlSets ds μ EX Q) : clW (dwp n_lSets.length T_lSets) ds μ EX Q := by
  obtain ⟨k, rfl, h1, h⟩ := h
  have kc := KS_can k h1
  have hs := can_size k kc
  have e1 : (k.length : Int) = (k.cps.size : Int) := rfl
  refine clW_of ?_
  simp [dwp, dSeq, dIfS, dTst, dTru, dNot, dOp2, dOp1, dVar, dC, dSet, dSetI, dRet, dRetN, dNx, dNo, dCB, dCons, dNil, dAnd, dOr, dDrop, dTup, dLst, dLstC, dIfE, dAndV, dOrV, dNotV, dFrz, fzD, env0, endsF, drf_non, drf_bl, drf_int, drf_str, drf_lst, drf_tup, drf_scr, drf_val, drf_fn, drf_exc, modD_i, fdivD_i, subD_i, addD_i, andD_i, gtD_i, ltD_i, geD_i, leD_i, eqD_i, neD_i, eqD_s, neD_s, intD_i, absD_i, ixD_0, ixD_1, ixD_t0, ixD_t1, truth, dLc, dLcA, dLcC, dLcAC, dIter, dSrc_str, dSrc_lst, dSrc_tup, dYes, gN, gTp, gCn, gNl, wipeD, uAdd, uFor, uAddX, noChk, inD_s, notInD_s, lenD_s, lenD_l, dCall, T_lSets, e1, shlD_1 k.cps.size (by omega), dFor, dRange]
  have er := range_n (2 ^ k.cps.size) (Nat.lt_of_le_of_lt (Nat.pow_le_pow_right (by decide) hs) (by decide))
  rw [show (((2 ^ k.cps.size : Nat)) : Int) = (2 : Int) ^ k.cps.size by simp] at er
  refine ⟨_, er, ?_⟩
  refine loop_inv _ (fun i ρ m => (∃ x y, ρ = [some (.str k), some (.cel μ.length), x, y, none, none]) ∧ m = μ ++ [some (.lst ((List.range i).map (pairF k)))]) _ _ ⟨⟨none, none, rfl⟩, rfl⟩ (fun _ _ _ _ => trivial) (fun i d ρ m K hd ⟨⟨x, y, eρ⟩, em⟩ hk => ?_) fun ρ m ⟨⟨x, y, eρ⟩, em⟩ => ?_
  · subst eρ em
    rw [List.getElem?_map] at hd
    obtain ⟨j, hj, rfl⟩ := Option.map_eq_some_iff.mp hd
    have hi : i < 2 ^ k.cps.size := by simpa using (List.getElem?_eq_some_iff.mp hj).1
    have ej : j = i := by
      rw [List.getElem?_range hi] at hj
      exact (Option.some.inj hj).symm
    subst ej
    simp [dwp, dSeq, dIfS, dTst, dTru, dNot, dOp2, dOp1, dVar, dC, dSet, dSetI, dRet, dRetN, dNx, dNo, dCB, dCons, dNil, dAnd, dOr, dDrop, dTup, dLst, dLstC, dIfE, dAndV, dOrV, dNotV, dFrz, fzD, env0, endsF, drf_non, drf_bl, drf_int, drf_str, drf_lst, drf_tup, drf_scr, drf_val, drf_fn, drf_exc, modD_i, fdivD_i, subD_i, addD_i, andD_i, gtD_i, ltD_i, geD_i, leD_i, eqD_i, neD_i, eqD_s, neD_s, intD_i, absD_i, ixD_0, ixD_1, ixD_t0, ixD_t1, truth, dLc, dLcA, dLcC, dLcAC, dIter, dSrc_str, dSrc_lst, dSrc_tup, dYes, gN, gTp, gCn, gNl, wipeD, uAdd, uFor, uAddX, noChk, inD_s, notInD_s, lenD_s, lenD_l, dCall, dRange, e1]
    refine ⟨_, range_n k.cps.size (by omega), ?_⟩
    refine actL_g (α := Nat) (fun i => D.int (i : Int)) (bitB j) (fun i => D.str ((sg k).getD i "")) (List.range k.cps.size) [] (by simpa using line_of (n := k.cps.size) (by omega)) trivial (fun a ma acc Q' hl q => ?_) ?_
    · have ha : a < k.cps.size := List.mem_range.mp ma
      simp [dwp, dSeq, dIfS, dTst, dTru, dNot, dOp2, dOp1, dVar, dC, dSet, dSetI, dRet, dRetN, dNx, dNo, dCB, dCons, dNil, dAnd, dOr, dDrop, dTup, dLst, dLstC, dIfE, dAndV, dOrV, dNotV, dFrz, fzD, env0, endsF, drf_non, drf_bl, drf_int, drf_str, drf_lst, drf_tup, drf_scr, drf_val, drf_fn, drf_exc, modD_i, fdivD_i, subD_i, addD_i, andD_i, gtD_i, ltD_i, geD_i, leD_i, eqD_i, neD_i, eqD_s, neD_s, intD_i, absD_i, ixD_0, ixD_1, ixD_t0, ixD_t1, truth, dLc, dLcA, dLcC, dLcAC, dIter, dSrc_str, dSrc_lst, dSrc_tup, dYes, gN, gTp, gCn, gNl, wipeD, uAdd, uFor, uAddX, noChk, inD_s, notInD_s, lenD_s, lenD_l, dCall, shrD_n, ix_str ha]
      rw [List.getD_eq_getElem?_getD] at q
      by_cases e : Builtin.bitAnd ((j : Int) / 2 ^ a) 1 = 1
      · rw [if_pos (show bitB j a = true from decide_eq_true e)] at q
        exact .inr ⟨e, hl, q⟩
      · rw [if_neg (by unfold bitB; rw [decide_eq_false e]; decide)] at q
        exact .inl ⟨e, q⟩
    · have eL : [] ++ (List.filter (bitB j) (List.range k.cps.size)).map (fun i => D.str ((sg k).getD i "")) = (lets k j).map D.str := by
        unfold lets
        rw [List.map_map]
        rfl
      have eJ := join_lst (l := lets k j) (fun c m => by
        obtain ⟨i, mi, rfl⟩ := List.mem_map.mp m
        exact sg_ones _ (sg_getD (List.mem_range.mp (List.mem_filter.mp mi).1))) (by
          unfold lets
          rw [List.length_map]
          exact Nat.le_trans (List.length_filter_le _ _) (by rw [List.length_range]; omega))
      rw [eL]
      have hj16 : j < sizeLine := Nat.lt_of_lt_of_le hi (Nat.le_trans (Nat.pow_le_pow_right (by decide) hs) (by decide))
      have h2 : (2 : Nat) ≤ sizeLine := by decide
      simp [dwp, dSeq, dIfS, dTst, dTru, dNot, dOp2, dOp1, dVar, dC, dSet, dSetI, dRet, dRetN, dNx, dNo, dCB, dCons, dNil, dAnd, dOr, dDrop, dTup, dLst, dLstC, dIfE, dAndV, dOrV, dNotV, dFrz, fzD, env0, endsF, drf_non, drf_bl, drf_int, drf_str, drf_lst, drf_tup, drf_scr, drf_val, drf_fn, drf_exc, modD_i, fdivD_i, subD_i, addD_i, andD_i, gtD_i, ltD_i, geD_i, leD_i, eqD_i, neD_i, eqD_s, neD_s, intD_i, absD_i, ixD_0, ixD_1, ixD_t0, ixD_t1, truth, dLc, dLcA, dLcC, dLcAC, dIter, dSrc_str, dSrc_lst, dSrc_tup, dYes, gN, gTp, gCn, gNl, wipeD, uAdd, uFor, uAddX, noChk, inD_s, notInD_s, lenD_s, lenD_l, dCall, dLm, dJoin, eJ, appendG, hj16, h2]
      refine ⟨_, _, ⟨rfl, rfl⟩, hk _ _ ⟨⟨_, _, rfl⟩, ?_⟩⟩
      rw [List.range_succ, List.map_append]
      rfl
  · subst eρ em
    have e0 : List.map (pairF k) (List.range (List.map (fun k => D.int ((k : Nat) : Int)) (List.range (2 ^ k.cps.size))).length) = (List.range (2 ^ k.cps.size)).map (pairF k) := by rw [List.length_map, List.length_range]
    rw [e0]
    have es := sort_k h1
    have sl : (sigma k).length ≤ sizeLine := by
      unfold sigma
      rw [List.length_map, List.length_range]
      exact line_of (all_1000 k kc)
    simp [dwp, dSeq, dIfS, dTst, dTru, dNot, dOp2, dOp1, dVar, dC, dSet, dSetI, dRet, dRetN, dNx, dNo, dCB, dCons, dNil, dAnd, dOr, dDrop, dTup, dLst, dLstC, dIfE, dAndV, dOrV, dNotV, dFrz, fzD, env0, endsF, drf_non, drf_bl, drf_int, drf_str, drf_lst, drf_tup, drf_scr, drf_val, drf_fn, drf_exc, modD_i, fdivD_i, subD_i, addD_i, andD_i, gtD_i, ltD_i, geD_i, leD_i, eqD_i, neD_i, eqD_s, neD_s, intD_i, absD_i, ixD_0, ixD_1, ixD_t0, ixD_t1, truth, dLc, dLcA, dLcC, dLcAC, dIter, dSrc_str, dSrc_lst, dSrc_tup, dYes, gN, gTp, gCn, gNl, wipeD, uAdd, uFor, uAddX, noChk, inD_s, notInD_s, lenD_s, lenD_l, dCall, es]
    refine actL_g (pairF k) (fun _ => true) (fun n => D.str (setN k n)) (sigma k) [] (by simpa using sl) trivial (fun n m acc Q' hl q => ?_) ?_
    · simp [dwp, dSeq, dIfS, dTst, dTru, dNot, dOp2, dOp1, dVar, dC, dSet, dSetI, dRet, dRetN, dNx, dNo, dCB, dCons, dNil, dAnd, dOr, dDrop, dTup, dLst, dLstC, dIfE, dAndV, dOrV, dNotV, dFrz, fzD, env0, endsF, drf_non, drf_bl, drf_int, drf_str, drf_lst, drf_tup, drf_scr, drf_val, drf_fn, drf_exc, modD_i, fdivD_i, subD_i, addD_i, andD_i, gtD_i, ltD_i, geD_i, leD_i, eqD_i, neD_i, eqD_s, neD_s, intD_i, absD_i, ixD_0, ixD_1, ixD_t0, ixD_t1, truth, dLc, dLcA, dLcC, dLcAC, dIter, dSrc_str, dSrc_lst, dSrc_tup, dYes, gN, gTp, gCn, gNl, wipeD, uAdd, uFor, uAddX, noChk, inD_s, notInD_s, lenD_s, lenD_l, dCall, pairF]
      exact ⟨hl, q⟩
    · rw [fT]
      have er : (sigma k).map (fun n => D.str (setN k n)) = (allOf k).map D.str := by
        rw [← sig_set k h1, List.map_map]
        rfl
      rw [List.nil_append, er]
      refine h _ fun n x e => ?_
      have hn : n < μ.length := (List.getElem?_eq_some_iff.mp e).1
      rw [List.getElem?_append_left hn]
      exact e
end K65
set_option Elab.async false
set_option linter.all false
set_option autoImplicit false
set_option maxRecDepth 100000
set_option maxHeartbeats 4000000
namespace K65
open PySem PySem.Spec PyProof.Rows L2 Evl Dl Cmb
def WlWell : DFn := fun ds μ EX Q => ∃ ns : List Int, ds = [.scr ns, .int 0] ∧ ∀ a b : Int, 0 ≤ a → Q (.cel μ.length) (μ ++ [some (.lst [.int a, .int b])])
theorem mono_lWell : MonoW WlWell := fun ds μ EX Q Q' i ⟨a, e, h⟩ => ⟨a, e, fun a b k => i _ _ (h a b k)⟩
theorem abs_nn (i : Int) : 0 ≤ (if i < 0 then -i else i) := by
  by_cases h : i < 0
  · rw [if_pos h]; omega
  · rw [if_neg h]; omega
theorem lenD_scr (ns : List Int) : lenD [.scr ns] = some (.int ns.length) := rfl
theorem ix_scr0 (n : Int) (ns : List Int) : ixD (.scr (n :: ns)) (.int 0) = some (.int n) := by
  show (atI (n :: ns) 0).map D.int = _
  simp [atI, ixN]
theorem pow_18 : powD (.int 10) (.int 18) = some (.int (10 ^ 18)) := by
  unfold powD i2
  dsimp only
  rw [if_pos (by decide)]
  rfl
theorem sl_scr {i : Nat} {ρ : DEnv} {ns : List Int} {μ : Mu} {EX : EXt} {Q : D → Mu → Prop} (h : ρ[i]? = some (some (.scr ns))) (q : Q (.lst ((cutD ns none (some 40)).map .int)) μ) : dSl (dVar i) dNoPart (dPart (dC (.int 40))) ρ μ EX Q := by
  unfold dSl dVar
  rw [h]
  exact ⟨40, rfl, _, rfl, q⟩
theorem sp_lWell (ds : List D) (μ : Mu) (EX : EX0) (Q : D → Mu → Prop) (h : WlWell ds μ EX Q) : clW (dwp n_lWell.length T_lWell) ds μ EX Q := by
  obtain ⟨ns, rfl, h⟩ := h
  refine clW_of ?_
  have m1 := mulD_c 7 0 (by decide)
  have m2 := mulD_c 977 0 (by decide)
  have rest : (dSeq (dFor (dIter (dSl (dVar 0) dNoPart (dPart (dC (.int 40))))) (gN 3) (dSet 2 (dOp2 addD (dOp2 modD (dCB intD (dCons (dOp2 addD (dOp2 mulD (dVar 2) (dC (.int 16807))) (dOp2 modD (dCB intD (dCons (dCB absD (dCons (dCB intD (dCons (dVar 3) dNil)) dNil)) dNil)) (dC (.int 1000003)))) dNil)) (dC (.int 2147483629))) (dC (.int 1)))))
      (dRet (dLstC (dCons (dC (.int 0)) (dCons (dVar 2) dNil))))) (endsF EX Q) [some (.scr ns), some (.int 0), some (.int 41), none] μ := by
    unfold dSeq dFor dIter
    refine sl_scr rfl ?_
    rw [dSrc_lst]
    refine loop_inv _ (fun i ρ m => (∃ (s : Int) (c : Option D), ρ = [some (.scr ns), some (.int 0), some (.int s), c]) ∧ m = μ) _ _ ⟨⟨41, none, rfl⟩, rfl⟩ (fun _ _ _ _ => trivial) (fun i d ρ m K hd ⟨⟨s, c, eρ⟩, em⟩ hk => ?_) fun ρ m ⟨⟨s, c, eρ⟩, em⟩ => ?_
    · subst eρ em
      rw [List.getElem?_map] at hd
      obtain ⟨n, _, rfl⟩ := Option.map_eq_some_iff.mp hd
      have m3 := mulD_c s 16807 (by decide)
      simp [dwp, dSeq, dIfS, dTst, dTru, dNot, dOp2, dOp1, dVar, dC, dSet, dSetI, dRet, dRetN, dNx, dNo, dCB, dCons, dNil, dAnd, dOr, dDrop, dTup, dLst, dLstC, dIfE, dAndV, dOrV, dNotV, dFrz, fzD, env0, endsF, drf_non, drf_bl, drf_int, drf_str, drf_lst, drf_tup, drf_scr, drf_val, drf_fn, drf_exc, modD_i, fdivD_i, subD_i, addD_i, andD_i, gtD_i, ltD_i, geD_i, leD_i, eqD_i, neD_i, eqD_s, neD_s, intD_i, absD_i, ixD_0, ixD_1, ixD_t0, ixD_t1, truth, dLc, dLcA, dLcC, dLcAC, dIter, dSrc_str, dSrc_lst, dSrc_tup, dYes, gN, gTp, gCn, gNl, wipeD, uAdd, uFor, uAddX, noChk, inD_s, notInD_s, lenD_s, lenD_l, dCall, m3]
      exact hk _ _ ⟨⟨_, _, rfl⟩, rfl⟩
    · subst eρ em
      simp [dwp, dSeq, dIfS, dTst, dTru, dNot, dOp2, dOp1, dVar, dC, dSet, dSetI, dRet, dRetN, dNx, dNo, dCB, dCons, dNil, dAnd, dOr, dDrop, dTup, dLst, dLstC, dIfE, dAndV, dOrV, dNotV, dFrz, fzD, env0, endsF, drf_non, drf_bl, drf_int, drf_str, drf_lst, drf_tup, drf_scr, drf_val, drf_fn, drf_exc, modD_i, fdivD_i, subD_i, addD_i, andD_i, gtD_i, ltD_i, geD_i, leD_i, eqD_i, neD_i, eqD_s, neD_s, intD_i, absD_i, ixD_0, ixD_1, ixD_t0, ixD_t1, truth, dLc, dLcA, dLcC, dLcAC, dIter, dSrc_str, dSrc_lst, dSrc_tup, dYes, gN, gTp, gCn, gNl, wipeD, uAdd, uFor, uAddX, noChk, inD_s, notInD_s, lenD_s, lenD_l, dCall]
      exact ⟨by decide, h 0 s (Int.le_refl _)⟩
  cases ns with
  | nil =>
    simp [dwp, dSeq, dIfS, dTst, dTru, dNot, dOp2, dOp1, dVar, dC, dSet, dSetI, dRet, dRetN, dNx, dNo, dCB, dCons, dNil, dAnd, dOr, dDrop, dTup, dLst, dLstC, dIfE, dAndV, dOrV, dNotV, dFrz, fzD, env0, endsF, drf_non, drf_bl, drf_int, drf_str, drf_lst, drf_tup, drf_scr, drf_val, drf_fn, drf_exc, modD_i, fdivD_i, subD_i, addD_i, andD_i, gtD_i, ltD_i, geD_i, leD_i, eqD_i, neD_i, eqD_s, neD_s, intD_i, absD_i, ixD_0, ixD_1, ixD_t0, ixD_t1, truth, dLc, dLcA, dLcC, dLcAC, dIter, dSrc_str, dSrc_lst, dSrc_tup, dYes, gN, gTp, gCn, gNl, wipeD, uAdd, uFor, uAddX, noChk, inD_s, notInD_s, lenD_s, lenD_l, dCall, T_lWell, lenD_scr, m2]
    exact rest
  | cons n ns =>
    simp [dwp, dSeq, dIfS, dTst, dTru, dNot, dOp2, dOp1, dVar, dC, dSet, dSetI, dRet, dRetN, dNx, dNo, dCB, dCons, dNil, dAnd, dOr, dDrop, dTup, dLst, dLstC, dIfE, dAndV, dOrV, dNotV, dFrz, fzD, env0, endsF, drf_non, drf_bl, drf_int, drf_str, drf_lst, drf_tup, drf_scr, drf_val, drf_fn, drf_exc, modD_i, fdivD_i, subD_i, addD_i, andD_i, gtD_i, ltD_i, geD_i, leD_i, eqD_i, neD_i, eqD_s, neD_s, intD_i, absD_i, ixD_0, ixD_1, ixD_t0, ixD_t1, truth, dLc, dLcA, dLcC, dLcAC, dIter, dSrc_str, dSrc_lst, dSrc_tup, dYes, gN, gTp, gCn, gNl, wipeD, uAdd, uFor, uAddX, noChk, inD_s, notInD_s, lenD_s, lenD_l, dCall, T_lWell, lenD_scr, m1, m2, ix_scr0, pow_18]
    have h2 : (2 : Nat) ≤ sizeLine := by decide
    by_cases c : (1000000000000000000 : Int) ≤ (if n < 0 then -n else n)
    · exact .inr ⟨c, h2, h _ _ (abs_nn n)⟩
    · exact .inl ⟨by omega, rest⟩
/-! calls of the drawing defs -/
theorem draw_of {ρ : DEnv} {i n : Nat} {m : Int} {μ : Mu} {EX : EXt} {Q : D → Mu → Prop} (h1 : ρ[i]? = some (some (.cel n))) (hm : 0 < m) (hm2 : m < 1073741824) (hB : Box n μ) (q : ∀ d a b : Int, 0 ≤ d → d < m → 0 ≤ a → Q (.int d) (μ.set n (some (.lst [.int a, .int b])))) : dCall 2 WlDraw [] (dCons (dVar i) (dCons (dC (.int m)) dNil)) ρ μ EX Q := by
  obtain ⟨a, b, ha, e⟩ := hB
  unfold dCall dCons dVar
  rw [h1]
  exact ⟨rfl, n, m, a, b, rfl, hm, hm2, ha, e, q⟩
theorem one_of {ρ : DEnv} {i n : Nat} {x : D} {xs : List D} {T : DTE} {μ : Mu} {EX : EXt} {Q : D → Mu → Prop} (h1 : ρ[i]? = some (some (.cel n))) (hx : ∀ k : D → Mu → Prop, k x μ → T ρ μ EX k) (e1 : drf μ x = .lst xs) (e2 : ∀ a b : Int, drf (μ.set n (some (.lst [.int a, .int b]))) x = .lst xs)
    (p : 0 < xs.length) (p2 : xs.length < 1073741824) (hB : Box n μ) (q : ∀ d ∈ xs, ∀ a b : Int, 0 ≤ a → Q d (μ.set n (some (.lst [.int a, .int b])))) : dCall 2 WlOne [] (dCons (dVar i) (dCons T dNil)) ρ μ EX Q := by
  unfold dCall
  show dCons (dVar i) (dCons T dNil) ρ μ EX _
  unfold dCons
  show dVar i ρ μ EX _
  unfold dVar
  rw [h1]
  exact hx _ ⟨rfl, n, x, xs, rfl, e1, e2, p, p2, hB, q⟩
theorem var_of {ρ : DEnv} {i : Nat} {x : D} {μ : Mu} {EX : EXt} (h : ρ[i]? = some (some x)) : ∀ k : D → Mu → Prop, k x μ → dVar i ρ μ EX k := fun k q => by
  unfold dVar
  rw [h]
  exact q
theorem app_of {ρ : DEnv} {i r : Nat} {xs : List D} {T : DTE} {μ : Mu} {EX : EXt} {Q : D → Mu → Prop} (h : ρ[i]? = some (some (.cel r))) (hr : μ[r]? = some (some (.lst xs))) (q : T ρ μ EX fun d μ2 => ∃ ys res ys', μ2[r]? = some (some (.lst ys)) ∧ appendG ys [d] = some (res, ys') ∧ Q res (μ2.set r (some (.lst ys')))) : dLm appendG (dVar i) (dCons T dNil) ρ μ EX Q := by
  unfold dLm dVar
  rw [h]
  exact ⟨r, xs, rfl, hr, q⟩
/-! what tells a set -/
theorem jn_cps : ∀ l : List Str, (Str.join "" l).cps.toList = l.flatMap fun s => s.cps.toList
  | [] => rfl
  | [x] => by
    show x.cps.toList = _
    simp
  | x :: y :: r => by
    show (x.cps ++ #[] ++ (Str.join "" (y :: r)).cps).toList = _
    rw [Array.toList_append, Array.toList_append, jn_cps (y :: r)]
    simp
theorem sg_jn {l : List Str} (h : ∀ c ∈ l, ∃ k, c = ⟨#[k]⟩) : sg (jn l) = l := by
  have e : (jn l).cps.toList = l.flatMap fun s => s.cps.toList := by
    show (Builtin.Str.glued "" l).cps.toList = _
    rw [StrLaws.glued_eq_join]
    exact jn_cps l
  unfold sg
  rw [e]
  clear e
  induction l with
  | nil => rfl
  | cons a l ih =>
    obtain ⟨k, rfl⟩ := h a List.mem_cons_self
    rw [List.flatMap_cons, List.map_append, ih fun c m => h c (List.mem_cons_of_mem _ m)]
    rfl
theorem L4_one {c : Str} (h : c ∈ L4) : ∃ k, c = ⟨#[k]⟩ := by
  have : ∀ c ∈ L4, c = ⟨#[c.cps.getD 0 0]⟩ := by decide +kernel
  exact ⟨_, this c h⟩
/-- l tells the letters of o -/
structure Tell (o : Str) (l : List Str) : Prop where
  len : l.length ≤ 1000
  mem : ∀ c, c ∈ l ↔ c ∈ sg o
theorem Tell.L4 {o : Str} {l : List Str} (h : Tell o l) (ho : o ∈ cans) : ∀ c ∈ l, c ∈ L4 := fun c m => can_L4 o ho c ((h.mem c).mp m)
theorem neD_nil {l : List Str} (h : ∀ c ∈ l, (PyData.str c).canLay0 = true) : neD (.lst (l.map D.str)) (.lst []) = some (.bl (!l.isEmpty)) := by
  show eqvD not _ _ = _
  unfold eqvD
  have e1 : toP (.lst (l.map D.str)) = some (.list (l.map .str)) := by
    show (toPs _).map _ = _
    rw [toPs_str]
    rfl
  have e2 : toP (.lst []) = some (.list []) := rfl
  rw [e1, e2]
  dsimp only
  rw [if_pos ⟨shaped_strs h, by decide +kernel⟩]
  cases l with
  | nil => rfl
  | cons a l => rfl
def WlTold : DFn := fun ds μ EX Q => ∃ (n : Nat) (o : Str), ds = [.cel n, .str o] ∧ o ∈ cans ∧ Box n μ ∧ ∀ d l μ', Row d l → Tell o l → Box n μ' → Q d μ'
theorem mono_lTold : MonoW WlTold := fun ds μ EX Q Q' i ⟨n, o, e, h1, h2, h⟩ => ⟨n, o, e, h1, h2, fun d l m a b c => i _ _ (h d l m a b c)⟩
theorem can_lt4 : ∀ k ∈ cans, (sg k).length ≤ 4 := by decide +kernel
theorem sp_lTold (ds : List D) (μ : Mu) (EX : EX0) (Q : D → Mu → Prop) (h : WlTold ds μ EX Q) : clW (dwp n_lTold.length (T_lTold WlOne WlDraw)) ds μ EX Q := by
  obtain ⟨n, o, rfl, h1, hB, h⟩ := h
  have lt := can_lt h1
  refine clW_of ?_
  simp [dwp, dSeq, dIfS, dTst, dTru, dNot, dOp2, dOp1, dVar, dC, dSet, dSetI, dRet, dRetN, dNx, dNo, dCB, dCons, dNil, dAnd, dOr, dDrop, dTup, dLst, dLstC, dIfE, dAndV, dOrV, dNotV, dFrz, fzD, env0, endsF, drf_non, drf_bl, drf_int, drf_str, drf_lst, drf_tup, drf_scr, drf_val, drf_fn, drf_exc, modD_i, fdivD_i, subD_i, addD_i, andD_i, gtD_i, ltD_i, geD_i, leD_i, eqD_i, neD_i, eqD_s, neD_s, intD_i, absD_i, ixD_0, ixD_1, ixD_t0, ixD_t1, truth, dLc, dLcA, dLcC, dLcAC, dIter, dSrc_str, dSrc_lst, dSrc_tup, dYes, gN, gTp, gCn, gNl, wipeD, uAdd, uFor, uAddX, noChk, inD_s, notInD_s, lenD_s, lenD_l, dCall, T_lTold]
  refine actL_g .str (fun _ => true) .str (sg o) [] (by simpa using lt.line) trivial (fun c m acc Q' hl q => ?_) ?_
  · simp [dwp, dSeq, dIfS, dTst, dTru, dNot, dOp2, dOp1, dVar, dC, dSet, dSetI, dRet, dRetN, dNx, dNo, dCB, dCons, dNil, dAnd, dOr, dDrop, dTup, dLst, dLstC, dIfE, dAndV, dOrV, dNotV, dFrz, fzD, env0, endsF, drf_non, drf_bl, drf_int, drf_str, drf_lst, drf_tup, drf_scr, drf_val, drf_fn, drf_exc, modD_i, fdivD_i, subD_i, addD_i, andD_i, gtD_i, ltD_i, geD_i, leD_i, eqD_i, neD_i, eqD_s, neD_s, intD_i, absD_i, ixD_0, ixD_1, ixD_t0, ixD_t1, truth, dLc, dLcA, dLcC, dLcAC, dIter, dSrc_str, dSrc_lst, dSrc_tup, dYes, gN, gTp, gCn, gNl, wipeD, uAdd, uFor, uAddX, noChk, inD_s, notInD_s, lenD_s, lenD_l, dCall]
    exact ⟨hl, q⟩
  rw [fT, List.nil_append]
  obtain ⟨a, b, ha, hn⟩ := id hB
  have nl : n < μ.length := (List.getElem?_eq_some_iff.mp hn).1
  have hn2 : (μ ++ [some (D.lst ((sg o).map D.str))])[n]? = some (some (.lst [.int a, .int b])) := by rw [List.getElem?_append_left nl]; exact hn
  simp [dwp, dSeq, dIfS, dTst, dTru, dNot, dOp2, dOp1, dVar, dC, dSet, dSetI, dRet, dRetN, dNx, dNo, dCB, dCons, dNil, dAnd, dOr, dDrop, dTup, dLst, dLstC, dIfE, dAndV, dOrV, dNotV, dFrz, fzD, env0, endsF, drf_non, drf_bl, drf_int, drf_str, drf_lst, drf_tup, drf_scr, drf_val, drf_fn, drf_exc, modD_i, fdivD_i, subD_i, addD_i, andD_i, gtD_i, ltD_i, geD_i, leD_i, eqD_i, neD_i, eqD_s, neD_s, intD_i, absD_i, ixD_0, ixD_1, ixD_t0, ixD_t1, truth, dLc, dLcA, dLcC, dLcAC, dIter, dSrc_str, dSrc_lst, dSrc_tup, dYes, gN, gTp, gCn, gNl, wipeD, uAdd, uFor, uAddX, noChk, inD_s, notInD_s, lenD_s, lenD_l, dCall, dFor, dRange, WlDraw]
  refine ⟨n, 3, ⟨rfl, rfl⟩, by decide, by decide, a, ha, ⟨b, hn2⟩, fun d a1 b1 k1 k2 k3 => ?_⟩
  obtain ⟨t, rfl⟩ : ∃ t : Nat, d = (t : Int) := ⟨d.toNat, by omega⟩
  refine ⟨_, range_n t (by omega), ?_⟩
  have nr : n ≠ μ.length := Nat.ne_of_lt nl
  have em : ∀ (x y : Option D), (μ ++ [x]).set n y = μ.set n y ++ [x] := fun x y => by rw [List.set_append_left _ _ nl]
  rw [em]
  -- the state: the well at n, the row at μ.length
  refine loop_inv _ (fun i ρ m => (∃ y, ρ = [some (.cel n), some (.str o), some (.cel μ.length), none, y]) ∧ Box n m ∧ ∃ l, m[μ.length]? = some (some (.lst (l.map .str))) ∧ (∀ c, c ∈ l ↔ c ∈ sg o) ∧ l.length ≤ (sg o).length + i) _ _ ⟨⟨none, rfl⟩, ?_, sg o, ?_, fun c => Iff.rfl, Nat.le_refl _⟩ (fun _ _ _ _ => trivial) (fun i d ρ m K hd ⟨⟨y, eρ⟩, hB, l, hl, hm, hlen⟩ hk => ?_) fun ρ m ⟨⟨y, eρ⟩, hB, l, hl, hm, hlen⟩ => ?_
  · exact ⟨a1, b1, k3, by rw [List.getElem?_append_left (by rw [List.length_set]; exact nl)]; exact mu_self hn⟩
  · rw [List.getElem?_append_right (by rw [List.length_set]; exact Nat.le_refl _), List.length_set, Nat.sub_self]
    rfl
  · subst eρ
    obtain ⟨a2, b2, ha2, hn3⟩ := id hB
    have l4 : ∀ c ∈ l, c ∈ L4 := fun c mc => can_L4 o h1 c ((hm c).mp mc)
    have en := neD_nil (l := l) fun c mc => lay4 c (l4 c mc)
    simp [dwp, dSeq, dIfS, dTst, dTru, dNot, dOp2, dOp1, dVar, dC, dSet, dSetI, dRet, dRetN, dNx, dNo, dCB, dCons, dNil, dAnd, dOr, dDrop, dTup, dLst, dLstC, dIfE, dAndV, dOrV, dNotV, dFrz, fzD, env0, endsF, drf_non, drf_bl, drf_int, drf_str, drf_lst, drf_tup, drf_scr, drf_val, drf_fn, drf_exc, modD_i, fdivD_i, subD_i, addD_i, andD_i, gtD_i, ltD_i, geD_i, leD_i, eqD_i, neD_i, eqD_s, neD_s, intD_i, absD_i, ixD_0, ixD_1, ixD_t0, ixD_t1, truth, dLc, dLcA, dLcC, dLcAC, dIter, dSrc_str, dSrc_lst, dSrc_tup, dYes, gN, gTp, gCn, gNl, wipeD, uAdd, uFor, uAddX, noChk, inD_s, notInD_s, lenD_s, lenD_l, dCall, drf_cel hl, en]
    cases l with
    | nil =>
      refine .inl ⟨rfl, hk _ _ ⟨⟨_, rfl⟩, hB, [], hl, hm, by simp⟩⟩
    | cons c0 l0 =>
      refine .inr ⟨by simp, ?_⟩
      have h4 := can_lt4 o h1
      have hi : i < t := by simpa using (List.getElem?_eq_some_iff.mp hd).1
      have hl6 : (c0 :: l0).length ≤ 6 := by omega
      have s6 : 6 < sizeLine := by decide
      have keep : ∀ x, (m.set n x)[μ.length]? = some (some (.lst ((c0 :: l0).map D.str))) := fun x => by rw [List.getElem?_set_ne nr]; exact hl
      refine app_of rfl hl (one_of rfl (var_of rfl) (drf_cel hl) (fun a b => drf_cel (keep _)) (by simp) (by rw [List.length_map]; omega) hB fun d md a b hab => ?_)
      obtain ⟨c, mc, rfl⟩ := List.mem_map.mp md
      refine ⟨_, .non, (c0 :: l0 ++ [c]).map .str, keep _, ?_, hk _ _ ⟨⟨_, rfl⟩, ?_, c0 :: l0 ++ [c], ?_, fun x => ?_, ?_⟩⟩
      · unfold appendG
        dsimp only
        rw [if_pos (by rw [List.length_map]; omega), List.map_append]
        rfl
      · obtain ⟨a5, b5, h5, e5⟩ := hB.set (a := a) (b := b) hab
        exact ⟨a5, b5, h5, by rw [List.getElem?_set_ne (Ne.symm nr)]; exact e5⟩
      · exact mu_self (keep _)
      · rw [List.mem_append, List.mem_singleton, ← hm x]
        exact ⟨fun z => z.elim id fun e => by rw [e]; exact mc, .inl⟩
      · rw [List.length_append]
        show (c0 :: l0).length + 1 ≤ _
        omega
  · have last : ∀ (l2 : List Str) (m2 : Mu) (y : Option D), Box n m2 → Tell o l2 → dJoin (dC (D.str "")) (dVar 2) [some (D.cel n), some (D.str o), some (D.lst (List.map D.str l2)), none, y] m2 (fun x => EX) fun x μ1 =>
        ∃ d, tupleD [drf μ1 (D.lst (List.map D.str l2))] = some d ∧ 3 ≤ sizeLine ∧ WlOne [D.cel n, D.lst [x, D.lst (List.map D.str l2), d]] μ1 EX fun d μ' => Q d μ' := fun l2 m2 y hB2 ht => by
      have l4 := ht.L4 h1
      have ones : ∀ c ∈ l2, c.length = 1 := fun c mc => by
        obtain ⟨k, rfl⟩ := L4_one (l4 c mc)
        rfl
      have eJ := join_lst ones (Nat.le_trans ht.len (by decide))
      have h3 : (3 : Nat) ≤ sizeLine := by decide
      unfold dJoin dOp2 dC dVar
      refine ⟨"", rfl, _, eJ, _, rfl, h3, n, _, [.str (jn l2), .lst (l2.map .str), .tup (l2.map .str)], rfl, rfl, fun a b => rfl, by simp, by simp, hB2, fun d md a b hab => ?_⟩
      have hB5 : Box n (m2.set n (some (.lst [.int a, .int b]))) := hB2.set hab
      rcases List.mem_cons.mp md with rfl | md
      · have e := sg_jn (l := l2) fun c mc => L4_one (l4 c mc)
        exact h _ _ _ (.s (jn l2)) (by rw [e]; exact ht) hB5
      · rcases List.mem_cons.mp md with rfl | md
        · exact h _ _ _ (.l l2) ht hB5
        · obtain rfl := List.mem_singleton.mp md
          exact h _ _ _ (.t l2) ht hB5
    subst eρ
    have hlen2 : l.length ≤ 1000 := by
      have h4 := can_lt4 o h1
      rw [List.length_map, List.length_range] at hlen
      omega
    obtain ⟨a2, b2, ha2, hn3⟩ := id hB
    obtain ⟨a2, b2, ha2, hn3⟩ := id hB
    simp [dwp, dSeq, dIfS, dTst, dTru, dNot, dOp2, dOp1, dVar, dC, dSet, dSetI, dRet, dRetN, dNx, dNo, dCB, dCons, dNil, dAnd, dOr, dDrop, dTup, dLst, dLstC, dIfE, dAndV, dOrV, dNotV, dFrz, fzD, env0, endsF, drf_non, drf_bl, drf_int, drf_str, drf_lst, drf_tup, drf_scr, drf_val, drf_fn, drf_exc, modD_i, fdivD_i, subD_i, addD_i, andD_i, gtD_i, ltD_i, geD_i, leD_i, eqD_i, neD_i, eqD_s, neD_s, intD_i, absD_i, ixD_0, ixD_1, ixD_t0, ixD_t1, truth, dLc, dLcA, dLcC, dLcAC, dIter, dSrc_str, dSrc_lst, dSrc_tup, dYes, gN, gTp, gCn, gNl, wipeD, uAdd, uFor, uAddX, noChk, inD_s, notInD_s, lenD_s, lenD_l, dCall, WlDraw]
    refine ⟨n, 2, ⟨rfl, rfl⟩, by decide, by decide, a2, ha2, ⟨b2, hn3⟩, fun d a3 b3 k1 k2 k3 => ?_⟩
    have hl3 : (m.set n (some (D.lst [.int a3, .int b3])))[μ.length]? = some (some (.lst (l.map .str))) := by rw [List.getElem?_set_ne nr]; exact hl
    have hB3 : Box n (m.set n (some (D.lst [.int a3, .int b3]))) := hB.set k3
    have tl : Tell o l := ⟨hlen2, hm⟩
    have tr : Tell o l.reverse := ⟨by rw [List.length_reverse]; exact hlen2, fun c => by rw [List.mem_reverse]; exact hm c⟩
    simp only [drf_cel hl3, revD, hl3, Option.some.injEq, exists_eq_left']
    by_cases e : d = 0
    · refine .inr ⟨e, ?_⟩
      rw [← List.map_reverse]
      exact last _ _ _ hB3 tr
    · refine .inl ⟨e, last _ _ _ ?_ tl⟩
      obtain ⟨a5, b5, h5, e5⟩ := hB3
      exact ⟨a5, b5, h5, by rw [List.getElem?_set_ne (Ne.symm nr)]; exact e5⟩
end K65
set_option Elab.async false
set_option linter.all false
set_option autoImplicit false
set_option maxRecDepth 100000
set_option maxHeartbeats 4000000
namespace K65
open PySem PySem.Spec PyProof.Rows L2 Evl Dl Cmb
def WlAns : DFn := fun ds μ EX Q => ∃ (x : Str) (a d k : D), ds = [.fn x, a, d] ∧ (x = "meeting_sets" ∨ x = "complement_sets") ∧ Refuse a d k ∧ Q (.tup [.str "none", k, .bl false]) μ
theorem mono_lAns : MonoW WlAns := fun ds μ EX Q Q' i ⟨x, a, d, k, e, h1, h2, h⟩ => ⟨x, a, d, k, e, h1, h2, i _ _ h⟩
def tab65 : Tab := fun x => if x = "meeting_sets" then some (2, Wmeeting) else if x = "complement_sets" then some (2, Wcompl) else none
theorem sp_lAns {G : Gx} (hic : G.ic "NoLetter" "RuelessError" = some false) (hmt : G.mt "NoLetter" "NoLetter" = some true) (ds : List D) (μ : Mu) (EX : EX0) (Q : D → Mu → Prop) (h : WlAns ds μ EX Q) : clW (dwp n_lAns.length (T_lAns G tab65)) ds μ EX Q := by
  obtain ⟨x, a, d, k, rfl, hx, bad, h⟩ := h
  refine clW_of ?_
  have h3 : (3 : Nat) ≤ sizeLine := by decide
  show T_lAns G tab65 (endsF EX Q) [some (.fn x), some a, some d, none] μ
  unfold T_lAns dTry
  refine ⟨fun ρ e m => ρ = [some (.fn x), some a, some d, none] ∧ e = .own "NoLetter" [("letter", k)] ∧ m = μ, fun ρ e m ⟨e1, e2, e3⟩ => ?_, ?_⟩
  · subst e1 e2 e3
    show dHds G _ _ _ _ _ _
    unfold dHds
    rw [hmt]
    intro ea ed
    unfold oneT
    rw [if_pos rfl]
    have hie : isErrD G ea ed "NoLetter" [.exc ea ed "NoLetter" [("letter", k)], .fn "RuelessError"] = some (.bl false) := by
      show (if ea = ea ∧ ed = ed ∧ ("NoLetter" : Str) = "NoLetter" then (G.ic "NoLetter" "RuelessError").map D.bl else none) = _
      rw [if_pos ⟨rfl, rfl, rfl⟩, hic]
      rfl
    simp [dwp, dSeq, dIfS, dTst, dTru, dNot, dOp2, dOp1, dVar, dC, dSet, dSetI, dRet, dRetN, dNx, dNo, dCB, dCons, dNil, dAnd, dOr, dDrop, dTup, dLst, dLstC, dIfE, dAndV, dOrV, dNotV, dFrz, fzD, env0, endsF, drf_non, drf_bl, drf_int, drf_str, drf_lst, drf_tup, drf_scr, drf_val, drf_fn, drf_exc, modD_i, fdivD_i, subD_i, addD_i, andD_i, gtD_i, ltD_i, geD_i, leD_i, eqD_i, neD_i, eqD_s, neD_s, intD_i, absD_i, ixD_0, ixD_1, ixD_t0, ixD_t1, truth, dExcF, goneD, hie, h3]
    exact h
  · have hc : ∃ W, tab65 x = some (2, W) ∧ ∀ Q', W [a, d] μ (fun e m => [some (D.fn x), some a, some d, none] = [some (D.fn x), some a, some d, none] ∧ e = .own "NoLetter" [("letter", k)] ∧ m = μ) Q' := by
      rcases hx with rfl | rfl
      · exact ⟨_, rfl, fun Q' => ⟨a, d, rfl, .inr ⟨k, bad, rfl, rfl, rfl⟩⟩⟩
      · exact ⟨_, rfl, fun Q' => ⟨a, d, rfl, .inr ⟨k, bad, rfl, rfl, rfl⟩⟩⟩
    obtain ⟨W, ht, hW⟩ := hc
    unfold dRet dTup dCons dC dCallV
    exact ⟨x, 2, W, rfl, ht, rfl, hW _⟩
/-- what is handed in that is no letter -/
def wrongs : List D := [.str "e", .str "0", .int 5, .non, .str "aa", .str "", .lst [.str "a"], .bl false]
/-- as it is told -/
inductive Wr : D → Prop
  | w (d : D) : d ∈ wrongs → Wr d
  | i (n : Int) : n = 8 ∨ n = 9 → Wr (.int n)
  | l (c : Str) : c ∈ L4 → Wr (.str c)
def ToldR (k : Str) (rs : Rows) : Prop := ∀ r ∈ rs, Row r.1 r.2 ∧ ∃ o ∈ cans, (∀ c ∈ sg o, c ∈ sg k) ∧ Tell o r.2
theorem ToldR.good {k : Str} {rs : Rows} (h : ToldR k rs) : GoodR k rs := fun r m => by
  obtain ⟨h1, o, ho, sub, t⟩ := h r m
  exact ⟨h1, t.len, fun c mc => sub c ((t.mem c).mp mc)⟩
def WlBad : DFn := fun ds μ EX Q => ∃ (n : Nat) (k : Str) (rs : Rows), ds = [.cel n, .str k, .lst (rs.map fun r => r.1)] ∧ k ∈ KS ∧ rs.length ≤ 100 ∧ ToldR k rs ∧ Box n μ ∧ ∀ a d w μ', Refuse a d w → Wr w → Box n μ' → Q (.tup [a, d, w]) μ'
theorem mono_lBad : MonoW WlBad := fun ds μ EX Q Q' i ⟨n, k, rs, e, h1, h2, h3, h4, h⟩ => ⟨n, k, rs, e, h1, h2, h3, h4, fun a d w μ' r1 r2 r3 => i _ _ (h a d w μ' r1 r2 r3)⟩
theorem KS_self : ∀ k ∈ KS, can "abcd" (sg k) = k := by decide +kernel
theorem KS_sub : ∀ k ∈ KS, ∀ c ∈ sg k, c ∈ sg "abcd" := by decide +kernel
theorem wr_plain : ∀ d ∈ wrongs, plainD d = true := by
  intro d m
  simp only [wrongs, List.mem_cons, List.mem_nil_iff, or_false] at m
  rcases m with rfl | rfl | rfl | rfl | rfl | rfl | rfl | rfl <;> rfl
theorem wr_bad : ∀ k ∈ KS, signB (.str "e") k = false ∧ signB (.str "0") k = false ∧ signB (.str "aa") k = false ∧ signB (.str "") k = false := by decide +kernel
theorem wr_sign {k : Str} (h : k ∈ KS) : ∀ d ∈ wrongs, signB d k = false := by
  intro d m
  obtain ⟨h1, h2, h3, h4⟩ := wr_bad k h
  simp only [wrongs, List.mem_cons, List.mem_nil_iff, or_false] at m
  rcases m with rfl | rfl | rfl | rfl | rfl | rfl | rfl | rfl <;> first | assumption | rfl
theorem lBad_0 {k : Str} (hk : k ∈ KS) (d : D) {w : D} (h1 : plainD w = true) (h2 : isRowB w = false) : Refuse w d w := .inl (.row w h1 h2)
theorem lBad_1 {k : Str} (hk : k ∈ KS) (d : D) {w x : D} (hw : w ∈ wrongs) : Refuse (.lst ((sg k).map .str ++ w :: [x])) d w := .inl (.l (sg k) w [x] (KS_sub k hk) (wr_plain w hw) (wr_sign (k := "abcd") (by decide +kernel) w hw))
theorem lBad_2 {k : Str} (hk : k ∈ KS) {rs : Rows} (hr : ToldR k rs) (hl : rs.length ≤ 100) {w : D} (hw : w ∈ wrongs) : Refuse (.str k) (.lst ((rs.map fun r => r.1) ++ [.lst [w]])) w := .inr ⟨sg k, ⟨.s k, by rw [sg_len]; exact Nat.le_trans (can_short k (KS_can k hk)) (by decide), KS_sub k hk⟩, by
  rw [KS_self k hk]
  exact .inr ⟨rs, .lst [w], [], .inl rfl, by omega, hr.good, .l [] w [] (by simp) (wr_plain w hw) (wr_sign hk w hw)⟩⟩
theorem lBad_8 {k : Str} (hk : k ∈ KS) : Refuse (.str k) (.int 8) (.int 8) := .inr ⟨sg k, ⟨.s k, by rw [sg_len]; exact Nat.le_trans (can_short k (KS_can k hk)) (by decide), KS_sub k hk⟩, .inl ⟨rfl, rfl, rfl⟩⟩
theorem lBad_3 {k c z : Str} (hk : k ∈ KS) (xs : List D) {rest : List Str} (hz : sg z = c :: rest) (hc : signB (.str c) k = false) : Refuse (.str k) (.lst (.str z :: xs)) (.str c) := .inr ⟨sg k, ⟨.s k, by rw [sg_len]; exact Nat.le_trans (can_short k (KS_can k hk)) (by decide), KS_sub k hk⟩, by
  rw [KS_self k hk]
  exact .inr ⟨[], .str z, xs, .inl rfl, by simp, fun r m => by simp at m, .s z [] c rest hz (by simp) hc⟩⟩
end K65
set_option Elab.async false
set_option linter.all false
set_option autoImplicit false
set_option maxRecDepth 100000
set_option maxHeartbeats 4000000
namespace K65
open PySem PySem.Spec PyProof.Rows L2 Evl Dl Cmb
def isTxl : D → Bool
  | .str _ => true
  | .lst _ => true
  | _ => false
theorem isi_txl (d : D) (h : plainD d = true) : isiD [d, .tup [.val (.ty "str"), .val (.ty "list")]] = some (.bl (isTxl d)) := by
  cases d with
  | non => show (isAny "NoneType" ["str", "list"]).map D.bl = _; rw [show isAny "NoneType" ["str", "list"] = some false from by decide +kernel]; rfl
  | bl b => show (isAny "bool" ["str", "list"]).map D.bl = _; rw [show isAny "bool" ["str", "list"] = some false from by decide +kernel]; rfl
  | int b => show (isAny "int" ["str", "list"]).map D.bl = _; rw [show isAny "int" ["str", "list"] = some false from by decide +kernel]; rfl
  | str b => show (isAny "str" ["str", "list"]).map D.bl = _; rw [show isAny "str" ["str", "list"] = some true from by decide +kernel]; rfl
  | lst b => show (isAny "list" ["str", "list"]).map D.bl = _; rw [show isAny "list" ["str", "list"] = some true from by decide +kernel]; rfl
  | tup b => show (isAny "tuple" ["str", "list"]).map D.bl = _; rw [show isAny "tuple" ["str", "list"] = some false from by decide +kernel]; rfl
  | _ => cases h
theorem addD_l (xs ys : List D) (h : xs.length + ys.length ≤ sizeLine) : addD (.lst xs) (.lst ys) = some (.lst (xs ++ ys)) := by
  show (if _ then _ else _) = _
  rw [if_pos h]
theorem addD_s (a b : Str) (h : a.length + b.length ≤ sizeLine) : addD (.str a) (.str b) = some (.str (a ++ b)) := by
  show (if _ then _ else _) = _
  rw [if_pos h]
theorem drf_w {w : D} (h : w ∈ wrongs) (μ : Mu) : drf μ w = w := drf_plain (wr_plain w h)
theorem row_w : ∀ w ∈ wrongs, isTxl w = false → isRowB w = false := by
  intro d m
  simp only [wrongs, List.mem_cons, List.mem_nil_iff, or_false] at m
  rcases m with rfl | rfl | rfl | rfl | rfl | rfl | rfl | rfl <;> intro h <;> first | rfl | cases h
theorem lc_const {d : D} {xs : List D} {ρ : DEnv} {Tg : DTG} {C : DTT} {T : DTE} {vs : List Nat} {μ : Mu} {EX : EXt} {Q : D → Mu → Prop} (hs : ∀ (μ : Mu) (Q : List D → (Mu → Prop) → Mu → Prop), dSrc d μ Q = Q xs noChk μ) :
    dLc (dIter (dC d)) Tg C T vs ρ μ EX Q = dActL Tg C (uAdd T) (wipeD ρ vs) noChk xs μ [] fun out μ2 => Q (.lst out) μ2 := by
  unfold dLc dLcA dIter dC
  exact hs μ _
theorem KS_join : ∀ k ∈ KS, JoinOk "" (PyProof.Rows.signs k) = true ∧ Txt.join "" (PyProof.Rows.signs k) = k := by decide +kernel
theorem sg_app (a b : Str) : sg (a ++ b) = sg a ++ sg b := by
  show List.map _ (a.cps ++ b.cps).toList = _
  rw [Array.toList_append, List.map_append]
  rfl
theorem sg_L4 : ∀ c ∈ L4, sg c = [c] := by decide +kernel
theorem L4_short : ∀ c ∈ L4, c.length = 1 := by decide +kernel
theorem not_sign {k c : Str} (h : c ∈ L4) (n : hasS c k = false) : signB (.str c) k = false := by
  show (decide (c.length = 1) && hasS c k) = false
  rw [n, Bool.and_false]
theorem sp_lBad (ds : List D) (μ : Mu) (EX : EX0) (Q : D → Mu → Prop) (h : WlBad ds μ EX Q) : clW (dwp n_lBad.length (T_lBad WlOne WlDraw)) ds μ EX Q := by
  obtain ⟨n, k, rs, rfl, hk, hl, hr, hB, h⟩ := h
  have kc := KS_can k hk
  have lt := can_lt kc
  refine clW_of ?_
  obtain ⟨a, b, ha, hn⟩ := id hB
  have h8 : (8 : Nat) ≤ sizeLine := by decide
  have h3 : (3 : Nat) ≤ sizeLine := by decide
  have h2 : (2 : Nat) ≤ sizeLine := by decide
  have h1 : (1 : Nat) ≤ sizeLine := by decide
  simp [dwp, dSeq, dIfS, dTst, dTru, dNot, dOp2, dOp1, dVar, dC, dSet, dSetI, dRet, dRetN, dNx, dNo, dCB, dCons, dNil, dAnd, dOr, dDrop, dTup, dLst, dLstC, dIfE, dAndV, dOrV, dNotV, dFrz, fzD, env0, endsF, drf_non, drf_bl, drf_int, drf_str, drf_lst, drf_tup, drf_scr, drf_val, drf_fn, drf_exc, modD_i, fdivD_i, subD_i, addD_i, andD_i, gtD_i, ltD_i, geD_i, leD_i, eqD_i, neD_i, eqD_s, neD_s, intD_i, absD_i, ixD_0, ixD_1, ixD_t0, ixD_t1, truth, T_lBad]
  refine one_of (x := .lst wrongs) rfl (fun k q => ?_) rfl (fun a b => rfl) (by simp [wrongs]) (by simp [wrongs]) hB fun w mw a1 b1 k1 => ?_
  · simp [dwp, dSeq, dIfS, dTst, dTru, dNot, dOp2, dOp1, dVar, dC, dSet, dSetI, dRet, dRetN, dNx, dNo, dCB, dCons, dNil, dAnd, dOr, dDrop, dTup, dLst, dLstC, dIfE, dAndV, dOrV, dNotV, dFrz, fzD, env0, endsF, drf_non, drf_bl, drf_int, drf_str, drf_lst, drf_tup, drf_scr, drf_val, drf_fn, drf_exc, modD_i, fdivD_i, subD_i, addD_i, andD_i, gtD_i, ltD_i, geD_i, leD_i, eqD_i, neD_i, eqD_s, neD_s, intD_i, absD_i, ixD_0, ixD_1, ixD_t0, ixD_t1, truth, h8, h1]
    exact q
  refine draw_of rfl (by decide) (by decide) (hB.set k1) fun p a2 b2 p1 p2 p3 => ?_
  have B2 := (hB.set (a := a1) (b := b1) k1).set (a := a2) (b := b2) p3
  generalize ((μ.set n (some (D.lst [.int a1, .int b1]))).set n (some (D.lst [.int a2, .int b2]))) = m at B2 ⊢
  have wp := wr_plain w mw
  have it := isi_txl w wp
  have dw := drf_w mw
  simp [dwp, dSeq, dIfS, dTst, dTru, dNot, dOp2, dOp1, dVar, dC, dSet, dSetI, dRet, dRetN, dNx, dNo, dCB, dCons, dNil, dAnd, dOr, dDrop, dTup, dLst, dLstC, dIfE, dAndV, dOrV, dNotV, dFrz, fzD, env0, endsF, drf_non, drf_bl, drf_int, drf_str, drf_lst, drf_tup, drf_scr, drf_val, drf_fn, drf_exc, modD_i, fdivD_i, subD_i, addD_i, andD_i, gtD_i, ltD_i, geD_i, leD_i, eqD_i, neD_i, eqD_s, neD_s, intD_i, absD_i, ixD_0, ixD_1, ixD_t0, ixD_t1, truth, dw, it, h2, h3, h1, listD]
  by_cases e0 : p = 0
  · refine .inr ⟨e0, ?_⟩
    cases et : isTxl w with
    | true => exact .inr ⟨rfl, .inr ⟨rfl, h _ _ _ _ (lBad_0 hk _ rfl rfl) (.i 9 (.inr rfl)) B2⟩⟩
    | false => exact .inl ⟨rfl, .inl ⟨rfl, h _ _ _ _ (lBad_0 hk _ wp (row_w w mw et)) (.w w mw) B2⟩⟩
  · refine .inl ⟨e0, ?_⟩
    have k4 := can_lt4 k kc
    by_cases e1 : p = 1
    · refine .inr ⟨e1, ?_⟩
      rw [lc_src rfl fun μ Q => dSrc_str k μ Q]
      refine actL_g .str (fun _ => true) .str (sg k) [] (by simpa using lt.line) trivial (fun c m acc Q' hl q => ?_) ?_
      · simp [dwp, dSeq, dIfS, dTst, dTru, dNot, dOp2, dOp1, dVar, dC, dSet, dSetI, dRet, dRetN, dNx, dNo, dCB, dCons, dNil, dAnd, dOr, dDrop, dTup, dLst, dLstC, dIfE, dAndV, dOrV, dNotV, dFrz, fzD, env0, endsF, drf_non, drf_bl, drf_int, drf_str, drf_lst, drf_tup, drf_scr, drf_val, drf_fn, drf_exc, modD_i, fdivD_i, subD_i, addD_i, andD_i, gtD_i, ltD_i, geD_i, leD_i, eqD_i, neD_i, eqD_s, neD_s, intD_i, absD_i, ixD_0, ixD_1, ixD_t0, ixD_t1, truth, dLc, dLcA, dLcC, dLcAC, dIter, dSrc_str, dSrc_lst, dSrc_tup, dYes, gN, gTp, gCn, gNl, wipeD, uAdd, uFor, uAddX, noChk, inD_s, notInD_s, lenD_s, lenD_l, dCall]
        exact ⟨hl, q⟩
      · rw [fT, List.nil_append]
        have ea := addD_l ((sg k).map .str) [w, .int 77] (by rw [List.length_map]; exact Nat.le_trans (Nat.add_le_add_right k4 _) (by show 4 + 2 ≤ sizeLine; decide))
        exact ⟨_, ea, h _ _ _ _ (lBad_1 hk _ mw) (.w w mw) B2⟩
    · refine .inl ⟨e1, ?_⟩
      by_cases e2 : p = 2
      · refine .inr ⟨e2, ?_⟩
        have ea := addD_l (rs.map fun r => r.1) [.lst [w]] (by rw [List.length_map]; exact Nat.le_trans (Nat.add_le_add_right hl _) (by show 100 + 1 ≤ sizeLine; decide))
        exact ⟨_, ea, h _ _ _ _ (lBad_2 hk hr hl mw) (.w w mw) B2⟩
      · refine .inl ⟨e2, ?_⟩
        rw [lc_const fun μ Q => dSrc_str "abcd" μ Q]
        refine actL_g .str (fun c => !hasS c k) .str (sg "abcd") [] (by simp; decide) trivial (fun c m acc Q' hl q => ?_) ?_
        · simp [dwp, dSeq, dIfS, dTst, dTru, dNot, dOp2, dOp1, dVar, dC, dSet, dSetI, dRet, dRetN, dNx, dNo, dCB, dCons, dNil, dAnd, dOr, dDrop, dTup, dLst, dLstC, dIfE, dAndV, dOrV, dNotV, dFrz, fzD, env0, endsF, drf_non, drf_bl, drf_int, drf_str, drf_lst, drf_tup, drf_scr, drf_val, drf_fn, drf_exc, modD_i, fdivD_i, subD_i, addD_i, andD_i, gtD_i, ltD_i, geD_i, leD_i, eqD_i, neD_i, eqD_s, neD_s, intD_i, absD_i, ixD_0, ixD_1, ixD_t0, ixD_t1, truth, dLc, dLcA, dLcC, dLcAC, dIter, dSrc_str, dSrc_lst, dSrc_tup, dYes, gN, gTp, gCn, gNl, wipeD, uAdd, uFor, uAddX, noChk, inD_s, notInD_s, lenD_s, lenD_l, dCall]
          cases e : hasS c k with
          | true => rw [e] at q; exact .inl ⟨rfl, q⟩
          | false => rw [e] at q; exact .inr ⟨rfl, hl, q⟩
        · have l4 : ∀ c ∈ (sg "abcd").filter (fun c => !hasS c k), c ∈ L4 ∧ hasS c k = false := fun c mc => by
            obtain ⟨m1, m2⟩ := List.mem_filter.mp mc
            refine ⟨(can_lt abcd).ls c m1, ?_⟩
            cases e : hasS c k with
            | true => rw [e] at m2; cases m2
            | false => rfl
          generalize (sg "abcd").filter (fun c => !hasS c k) = ot at l4
          rw [List.nil_append]
          refine ⟨_, eqD_nil fun c mc => lay4 c (l4 c mc).1, ?_⟩
          cases ot with
          | nil => exact .inr ⟨rfl, h _ _ _ _ (lBad_8 hk) (.i 8 (.inl rfl)) B2⟩
          | cons c ot =>
            refine .inl ⟨rfl, _, ixD_0 _ _, ?_⟩
            obtain ⟨cl, cn⟩ := l4 c List.mem_cons_self
            obtain ⟨j1, j2⟩ := KS_join k hk
            have ks := can_short k kc
            have c1 := L4_short c cl
            have ea := addD_s c k (by rw [c1]; exact Nat.le_trans (Nat.add_le_add_left ks 1) (by decide))
            have eb := addD_l [.str (c ++ k)] (rs.map fun r => r.1) (by rw [List.length_map]; exact Nat.le_trans (Nat.add_le_add_left hl _) (by show 1 + 100 ≤ sizeLine; decide))
            have hz : sg (c ++ k) = c :: sg k := by rw [sg_app, sg_L4 c cl]; rfl
            unfold dJoinS dC dVar
            refine ⟨"", rfl, k, rfl, j1, by rw [j2]; exact Nat.le_trans ks (by decide), ?_⟩
            rw [j2]
            exact ⟨_, ea, _, eb, _, ixD_0 _ _, h _ _ _ _ (lBad_3 hk _ hz (not_sign cl cn)) (.l c cl) B2⟩
end K65
set_option Elab.async false
set_option linter.all false
set_option autoImplicit false
set_option maxRecDepth 100000
set_option maxHeartbeats 4000000
namespace K65
open PySem PySem.Spec PyProof.Rows L2 Evl Dl Cmb
/-! what is shown -/
theorem L4_code : ∀ c ∈ L4, ∀ k ∈ c.cps.toList, k ≤ 100 := by decide +kernel
theorem sg_code {z : Str} (h : ∀ c ∈ sg z, c ∈ L4) : ∀ k ∈ z.cps.toList, k ≤ 100 := fun k m => L4_code _ (h _ (mem_sg.mpr m)) k (by simp)
theorem fl_txt {z : Str} (h : ∀ c ∈ sg z, c ∈ L4) : My.Fl 0 z.length (.str z) := by
  have hc := sg_code h
  refine ⟨?_, rfl, rfl, Nat.le_refl _, ?_, Nat.le_refl _⟩
  · show z.cps.all _ = true
    rw [← Array.all_toList, List.all_eq_true]
    intro k m
    have := hc k m
    exact decide_eq_true (by omega)
  · show z.cps.toList.all _ = true
    rw [List.all_eq_true]
    intro k m
    have := hc k m
    exact decide_eq_true (by omega)
/-- data that is shown -/
structure Shw (d : D) (k w : Nat) : Prop where
  p : ∃ p, toP d = some p ∧ My.Fl k w p
theorem repr_ok {d : D} {k w : Nat} (h : Shw d k w) (hk : k ≤ 60) (hw : w ≤ 1000000) (hd : ∀ p, toP d = some p → isDisplay p = true) : ∃ z, reprD [d] = some (.str z) := by
  obtain ⟨p, e, f⟩ := h.p
  refine ⟨p.shown, ?_⟩
  show shownD d = _
  unfold shownD
  rw [e]
  dsimp only
  rw [if_pos ⟨hd p e, f.shw, f.nd, Nat.le_trans f.dep hk, f.len hw⟩]
theorem toPs_map {α : Type} {g : α → D} {w k : Nat} : ∀ {l : List α}, (∀ x ∈ l, Shw (g x) k w) → ∃ ps, toPs (l.map g) = some ps ∧ ps.length = l.length ∧ ∀ p ∈ ps, My.Fl k w p
  | [], _ => ⟨[], rfl, rfl, by simp⟩
  | a :: l, h => by
    obtain ⟨p, e, f⟩ := (h a List.mem_cons_self).p
    obtain ⟨ps, e2, hl, f2⟩ := toPs_map (l := l) fun x m => h x (List.mem_cons_of_mem _ m)
    refine ⟨p :: ps, ?_, by simp [hl], fun q m => ?_⟩
    · show (toP (g a)).bind (fun p => (toPs (l.map g)).map fun ps => p :: ps) = _
      rw [e, e2]
      rfl
    · rcases List.mem_cons.mp m with rfl | m
      · exact f
      · exact f2 q m
theorem shw_lst {α : Type} {g : α → D} {w k m : Nat} {l : List α} (h : ∀ x ∈ l, Shw (g x) k w) (hm : l.length ≤ m) : Shw (.lst (l.map g)) (k + 1) (m * (w + 1)) := by
  obtain ⟨ps, e, hl, f⟩ := toPs_map h
  exact ⟨.list ps, by show (toPs _).map _ = _; rw [e]; rfl, My.fl_lst f (by omega)⟩
theorem shw_tup {α : Type} {g : α → D} {w k m : Nat} {l : List α} (h : ∀ x ∈ l, Shw (g x) k w) (hm : l.length ≤ m) : Shw (.tup (l.map g)) (k + 1) (m * (w + 1)) := by
  obtain ⟨ps, e, hl, f⟩ := toPs_map h
  exact ⟨.tuple ps, by show (toPs _).map _ = _; rw [e]; rfl, My.fl_tup f (by omega)⟩
theorem shw_str {z : Str} (h : ∀ c ∈ sg z, c ∈ L4) : Shw (.str z) 0 z.length := ⟨_, rfl, fl_txt h⟩
theorem Shw.mono {d : D} {k w k' w' : Nat} (h : Shw d k w) (hk : k ≤ k') (hw : w ≤ w') : Shw d k' w' := let ⟨p, e, f⟩ := h.p; ⟨p, e, f.mono hk hw⟩
theorem Row.shw {d : D} {l : List Str} (h : Row d l) (hl : l.length ≤ 1000) (h4 : ∀ c ∈ l, c ∈ L4) : Shw d 1 2000 := by
  cases h with
  | s z => exact (shw_str h4).mono (by decide) (by rw [sg_len] at hl; omega)
  | l xs => exact (shw_lst (w := 1) (m := 1000) (fun c m => (shw_str (z := c) (by rw [sg_L4 c (h4 c m)]; intro x mx; obtain rfl := List.mem_singleton.mp mx; exact h4 _ m)).mono (Nat.le_refl _) (by rw [L4_short c (h4 c m)]; exact Nat.le_refl _)) hl).mono (Nat.le_refl _) (by decide)
  | t xs => exact (shw_tup (w := 1) (m := 1000) (fun c m => (shw_str (z := c) (by rw [sg_L4 c (h4 c m)]; intro x mx; obtain rfl := List.mem_singleton.mp mx; exact h4 _ m)).mono (Nat.le_refl _) (by rw [L4_short c (h4 c m)]; exact Nat.le_refl _)) hl).mono (Nat.le_refl _) (by decide)
theorem disp_lst {xs : List D} {p : PyData} (h : toP (.lst xs) = some p) : isDisplay p = true := by
  have h : (toPs xs).map PyData.list = some p := h
  obtain ⟨ps, _, rfl⟩ := Option.map_eq_some_iff.mp h
  rfl
theorem disp_tup {xs : List D} {p : PyData} (h : toP (.tup xs) = some p) : isDisplay p = true := by
  have h : (toPs xs).map PyData.tuple = some p := h
  obtain ⟨ps, _, rfl⟩ := Option.map_eq_some_iff.mp h
  rfl
/-- sets of letters, shown as a tuple -/
theorem shw_cans {os : List Str} (h : ∀ o ∈ os, o ∈ cans) (hl : os.length ≤ 1000) : ∃ z, reprD [.tup (os.map .str)] = some (.str z) :=
  repr_ok (shw_tup (w := 4) (m := 1000) (fun o m => (shw_str (can_L4 o (h o m))).mono (Nat.le_refl _) (can_short o (h o m))) hl) (by decide) (by decide) fun p => disp_tup
theorem Wr.shw {w : D} (h : Wr w) : Shw w 1 100 := by
  cases h with
  | w d m =>
    simp only [wrongs, List.mem_cons, List.mem_nil_iff, or_false] at m
    rcases m with rfl | rfl | rfl | rfl | rfl | rfl | rfl | rfl
    all_goals exact ⟨_, rfl, by decide +kernel, by decide +kernel, by decide +kernel, by decide +kernel, by decide +kernel, by decide +kernel⟩
  | i n h => rcases h with rfl | rfl <;> exact ⟨_, rfl, by decide +kernel, by decide +kernel, by decide +kernel, by decide +kernel, by decide +kernel, by decide +kernel⟩
  | l c h => exact (shw_str (z := c) (by rw [sg_L4 c h]; intro x mx; obtain rfl := List.mem_singleton.mp mx; exact h)).mono (by decide) (by rw [L4_short c h]; decide)
theorem shw_due {w : D} (h : Wr w) : ∃ z, reprD [.tup [.str "none", w, .bl false]] = some (.str z) := by
  refine repr_ok (k := 2) (w := 303) ?_ (by decide) (by decide) fun p => disp_tup
  refine shw_tup (g := id) (l := [D.str "none", w, .bl false]) (k := 1) (w := 100) (m := 3) (fun x m => ?_) (by simp)
  rcases List.mem_cons.mp m with rfl | m
  · exact ⟨_, rfl, by decide +kernel, by decide +kernel, by decide +kernel, by decide +kernel, by decide +kernel, by decide +kernel⟩
  · rcases List.mem_cons.mp m with rfl | m
    · exact h.shw
    · obtain rfl := List.mem_singleton.mp m
      exact ⟨_, rfl, by decide +kernel, by decide +kernel, by decide +kernel, by decide +kernel, by decide +kernel, by decide +kernel⟩
theorem shw_told {k : Str} {rs : Rows} (h : ToldR k rs) (hl : rs.length ≤ 100) : ∃ z, reprD [.lst (rs.map fun r => r.1)] = some (.str z) :=
  repr_ok (shw_lst (w := 2000) (m := 100) (fun r m => by
    obtain ⟨h1, o, ho, sub, t⟩ := h r m
    exact h1.shw t.len (t.L4 ho)) hl) (by decide) (by decide) fun p => disp_lst
end K65
set_option Elab.async false
set_option linter.all false
set_option autoImplicit false
set_option maxRecDepth 100000
set_option maxHeartbeats 4000000
namespace K65
open PySem PySem.Spec PyProof.Rows L2 Evl Dl Cmb
def WlLaw : DFn := fun ds μ EX Q => ∃ ns : List Int, ds = [.scr ns] ∧ ∀ μ', Q (.bl true) μ'
theorem mono_lLaw : MonoW WlLaw := fun ds μ EX Q Q' i ⟨ns, e, h⟩ => ⟨ns, e, fun μ' => i _ _ (h μ')⟩
def R10 : DTS :=   (dSeq (dFor (dRange (dCons (dC (.int 2)) dNil)) (gN 5) (dSeq (dIfS (dOr (dTst (dOp2 neD (dCB reprD (dCons (dCall 2 Wmeeting [] (dCons (dVar 9) (dCons (dVar 7) dNil))) dNil)) (dCB reprD (dCons (dCB tupleD (dCons (dVar 11) dNil)) dNil)))) (dTst (dOp2 neD (dCB reprD (dCons (dCall 2 Wcompl [] (dCons (dVar 9) (dCons (dVar 7) dNil))) dNil)) (dCB reprD (dCons (dCB tupleD (dCons (dVar 13) dNil)) dNil))))) (dRet (dC (.bl false))) dNx)
  (dIfS (dTst (dOp2 neD (dCB reprD (dCons (dCallK 0 2 [1, 0] Wmeeting [] dNil (dCons (dCB tupleD (dCons (dVar 7) dNil)) (dCons (dVar 2) dNil))) dNil)) (dCB reprD (dCons (dCB tupleD (dCons (dVar 11) dNil)) dNil)))) (dRet (dC (.bl false))) dNx)))
  (dSeq (dIfS (dTst (dOp2 neD (dCB reprD (dCons (dVar 7) dNil)) (dVar 8))) (dRet (dC (.bl false))) dNx)
  (dSeq (dAsg (dCall 3 WlBad [] (dCons (dVar 1) (dCons (dVar 2) (dCons (dVar 7) dNil)))) (gTp 3 (gCn (gN 15) (gCn (gN 16) (gCn (gN 17) gNl)))))
  (dSeq (dSet 18 (dCB reprD (dCons (dTup (dCons (dC (.str "none")) (dCons (dVar 17) (dCons (dC (.bl false)) dNil)))) dNil)))
  (dRet (dAndV (dOp2 eqD (dCB reprD (dCons (dCall 3 WlAns [] (dCons (dC (.fn "meeting_sets")) (dCons (dVar 15) (dCons (dVar 16) dNil)))) dNil)) (dVar 18)) (dOp2 eqD (dCB reprD (dCons (dCall 3 WlAns [] (dCons (dC (.fn "complement_sets")) (dCons (dVar 15) (dCons (dVar 16) dNil)))) dNil)) (dVar 18))))))))
def R7 : DTS :=   (dSeq (dSet 7 (dLc (dIter (dVar 4)) (gN 6) dYes (dCall 2 WlTold [] (dCons (dVar 1) (dCons (dVar 6) dNil))) [6]))
  (dSeq (dPar 8 9 (dCons (dCB reprD (dCons (dVar 7) dNil)) (dCons (dCall 2 WlTold [] (dCons (dVar 1) (dCons (dVar 2) dNil))) dNil)))
  (dSeq (dSet 10 (dLc (dIter (dVar 3)) (gN 6) (dTru (dCall 2 WlMeets [] (dCons (dVar 6) (dCons (dVar 4) dNil)))) (dVar 6) [6]))
  (dSeq (dSet 11 (dLc (dIter (dVar 10)) (gN 6) (dTst (dOp2 eqD (dLc (dIter (dVar 10)) (gN 12) (dAnd (dTst (dOp2 neD (dVar 12) (dVar 6))) (dTru (dCall 2 WlIn [] (dCons (dVar 12) (dCons (dVar 6) dNil))))) (dVar 12) [12]) (dLst dNil))) (dVar 6) [6]))
  (dSeq (dSet 13 (dLc (dIter (dVar 4)) (gN 6) dYes (dJoin (dC (.str "")) (dLc (dIter (dVar 2)) (gN 14) (dTst (dOp2 notInD (dVar 14) (dVar 6))) (dVar 14) [14])) [6])) R10)))))
theorem lLaw_eq : T_lLaw WlWell WlOne WlSets WlBad WlDraw WlTold WlMeets Wmeeting WlAns Wcompl WlIn = (dSeq (dSet 1 (dCall 2 WlWell [] (dCons (dVar 0) (dCons (dC (.int 0)) dNil))))
  (dSeq (dSet 2 (dCall 2 WlOne [] (dCons (dVar 1) (dCons (dLst (dCons (dC (.str "abcd")) (dCons (dC (.str "abcd")) (dCons (dC (.str "abc")) (dCons (dC (.str "abd")) (dCons (dC (.str "bd")) (dCons (dC (.str "c")) (dCons (dC (.str "")) dNil)))))))) dNil))))
  (dSeq (dSet 3 (dCall 1 WlSets [] (dCons (dVar 2) dNil)))
  (dSeq (dSet 4 (dLc (dRange (dCons (dCall 2 WlDraw [] (dCons (dVar 1) (dCons (dC (.int 6)) dNil))) dNil)) (gN 5) dYes (dCall 2 WlOne [] (dCons (dVar 1) (dCons (dVar 3) dNil))) [5]))
  (dSeq (dIfS (dTst (dOp2 gtD (dCall 2 WlDraw [] (dCons (dVar 1) (dCons (dC (.int 3)) dNil))) (dC (.int 0)))) (dSet 4 (dLc (dIter (dVar 4)) (gN 6) (dTst (dOp2 neD (dVar 6) (dC (.str "")))) (dVar 6) [6])) dNx) R7))))) := rfl
theorem well_of {ρ : DEnv} {i : Nat} {ns : List Int} {μ : Mu} {EX : EXt} {Q : D → Mu → Prop} (h1 : ρ[i]? = some (some (.scr ns))) (q : ∀ a b : Int, 0 ≤ a → Q (.cel μ.length) (μ ++ [some (.lst [.int a, .int b])])) : dCall 2 WlWell [] (dCons (dVar i) (dCons (dC (.int 0)) dNil)) ρ μ EX Q := by
  unfold dCall dCons dVar
  rw [h1]
  exact ⟨rfl, ns, rfl, q⟩
theorem sets_of {ρ : DEnv} {i : Nat} {k : Str} {μ : Mu} {EX : EXt} {Q : D → Mu → Prop} (h1 : ρ[i]? = some (some (.str k))) (hk : k ∈ KS) (q : ∀ μ', Keep μ μ' → Q (.lst ((allOf k).map .str)) μ') : dCall 1 WlSets [] (dCons (dVar i) dNil) ρ μ EX Q := by
  unfold dCall dCons dVar
  rw [h1]
  exact ⟨rfl, k, rfl, hk, q⟩
/-- the slots of the law, from the fifth on told -/
abbrev envL (ns : List Int) (n : Nat) (k : Str) (os : List Str) : DEnv := [some (.scr ns), some (.cel n), some (.str k), some (.lst ((allOf k).map .str)), some (.lst (os.map .str)), none, none, none, none, none, none, none, none, none, none, none, none, none, none]
abbrev endsL (EX : EX0) (Q : D → Mu → Prop) : DEnds := { nx := fun _ => Q .non, rt := Q, bk := fun _ _ => False, ct := fun _ _ => False, ex := fun _ => EX }
def sp_R7 : Prop := ∀ (ns : List Int) (n : Nat) (k : Str) (os : List Str) (m : Mu) (EX : EX0) (Q : D → Mu → Prop), k ∈ KS → (∀ o ∈ os, o ∈ allOf k) → os.length ≤ 5 → Box n m → (∀ μ', Q (.bl true) μ') → R7 (endsL EX Q) (envL ns n k os) m
theorem lc_rng {ρ : DEnv} {T T2 : DTE} {Tg : DTG} {C : DTT} {vs : List Nat} {μ : Mu} {EX : EXt} {Q : D → Mu → Prop} : dLc (dRange (dCons T dNil)) Tg C T2 vs ρ μ EX Q = T ρ μ EX fun x μ1 => ∃ ds, rangeD [x] = some ds ∧ dActL Tg C (uAdd T2) (wipeD ρ vs) noChk ds μ1 [] fun out μ2 => Q (.lst out) μ2 := rfl
theorem all_small : ∀ k ∈ KS, 0 < (allOf k).length ∧ (allOf k).length ≤ 16 := by decide +kernel
theorem sp_lLaw (r7 : sp_R7) (ds : List D) (μ : Mu) (EX : EX0) (Q : D → Mu → Prop) (h : WlLaw ds μ EX Q) : clW (dwp n_lLaw.length (T_lLaw WlWell WlOne WlSets WlBad WlDraw WlTold WlMeets Wmeeting WlAns Wcompl WlIn)) ds μ EX Q := by
  obtain ⟨ns, rfl, h⟩ := h
  refine clW_of ?_
  have h7 : (7 : Nat) ≤ sizeLine := by decide
  rw [lLaw_eq]
  simp [dwp, dSeq, dIfS, dTst, dTru, dNot, dOp2, dOp1, dVar, dC, dSet, dSetI, dRet, dRetN, dNx, dNo, dCB, dCons, dNil, dAnd, dOr, dDrop, dTup, dLst, dLstC, dIfE, dAndV, dOrV, dNotV, dFrz, fzD, env0, endsF, drf_non, drf_bl, drf_int, drf_str, drf_lst, drf_tup, drf_scr, drf_val, drf_fn, drf_exc, modD_i, fdivD_i, subD_i, addD_i, andD_i, gtD_i, ltD_i, geD_i, leD_i, eqD_i, neD_i, eqD_s, neD_s, intD_i, absD_i, ixD_0, ixD_1, ixD_t0, ixD_t1, truth]
  refine well_of rfl fun a b ha => ?_
  have B0 : Box μ.length (μ ++ [some (D.lst [.int a, .int b])]) := ⟨a, b, ha, by simp⟩
  generalize hn : μ.length = n at B0 ⊢
  generalize μ ++ [some (D.lst [.int a, .int b])] = m0 at B0 ⊢
  refine one_of (x := .lst [.str "abcd", .str "abcd", .str "abc", .str "abd", .str "bd", .str "c", .str ""]) rfl (fun k q => ?_) rfl (fun a b => rfl) (by simp) (by simp) B0 fun kd mk a1 b1 k1 => ?_
  · simp [dwp, dSeq, dIfS, dTst, dTru, dNot, dOp2, dOp1, dVar, dC, dSet, dSetI, dRet, dRetN, dNx, dNo, dCB, dCons, dNil, dAnd, dOr, dDrop, dTup, dLst, dLstC, dIfE, dAndV, dOrV, dNotV, dFrz, fzD, env0, endsF, drf_non, drf_bl, drf_int, drf_str, drf_lst, drf_tup, drf_scr, drf_val, drf_fn, drf_exc, modD_i, fdivD_i, subD_i, addD_i, andD_i, gtD_i, ltD_i, geD_i, leD_i, eqD_i, neD_i, eqD_s, neD_s, intD_i, absD_i, ixD_0, ixD_1, ixD_t0, ixD_t1, truth, h7]
    exact q
  obtain ⟨k, hk, rfl⟩ : ∃ k ∈ KS, kd = .str k := by
    simp only [List.mem_cons, List.mem_nil_iff, or_false] at mk
    rcases mk with rfl | rfl | rfl | rfl | rfl | rfl | rfl <;> exact ⟨_, by decide +kernel, rfl⟩
  have B1 := B0.set (a := a1) (b := b1) k1
  generalize m0.set n (some (D.lst [.int a1, .int b1])) = m1 at B1 ⊢
  refine sets_of rfl hk fun m2 kp => ?_
  have B2 := B1.keep kp
  obtain ⟨al, al2⟩ := all_small k hk
  rw [lc_rng]
  refine draw_of rfl (by decide) (by decide) B2 fun d a2 b2 d1 d2 k2 => ?_
  have B3 := B2.set (a := a2) (b := b2) k2
  generalize m2.set n (some (D.lst [.int a2, .int b2])) = m3 at B3 ⊢
  obtain ⟨t, rfl⟩ : ∃ t : Nat, d = (t : Int) := ⟨d.toNat, by omega⟩
  have ht : t < 6 := by omega
  refine ⟨_, range_n t (by omega), ?_⟩
  refine actL_inv _ (fun i acc m => Box n m ∧ ∃ os : List Str, acc = os.map .str ∧ (∀ o ∈ os, o ∈ allOf k) ∧ os.length = i) [] m3 ⟨B3, [], rfl, by simp, rfl⟩ (fun _ _ _ _ => trivial) (fun i d acc m Q' hd ⟨hB, os, ea, ho, hl⟩ kk => ?_) fun acc m ⟨hB, os, ea, ho, hl⟩ => ?_
  · subst ea
    have hi : i < t := by simpa using (List.getElem?_eq_some_iff.mp hd).1
    have s6 : 6 < sizeLine := by decide
    simp [dwp, dSeq, dIfS, dTst, dTru, dNot, dOp2, dOp1, dVar, dC, dSet, dSetI, dRet, dRetN, dNx, dNo, dCB, dCons, dNil, dAnd, dOr, dDrop, dTup, dLst, dLstC, dIfE, dAndV, dOrV, dNotV, dFrz, fzD, env0, endsF, drf_non, drf_bl, drf_int, drf_str, drf_lst, drf_tup, drf_scr, drf_val, drf_fn, drf_exc, modD_i, fdivD_i, subD_i, addD_i, andD_i, gtD_i, ltD_i, geD_i, leD_i, eqD_i, neD_i, eqD_s, neD_s, intD_i, absD_i, ixD_0, ixD_1, ixD_t0, ixD_t1, truth, gN, dYes, uAdd, wipeD]
    refine one_of rfl (var_of rfl) rfl (fun a b => rfl) (by rw [List.length_map]; exact al) (by rw [List.length_map]; omega) hB fun x mx a b ha => ?_
    obtain ⟨o, mo, rfl⟩ := List.mem_map.mp mx
    refine ⟨by omega, kk _ _ ⟨hB.set ha, os ++ [o], by rw [List.map_append]; rfl, fun x m => ?_, by rw [List.length_append, hl]; rfl⟩⟩
    rcases List.mem_append.mp m with m | m
    · exact ho x m
    · rw [List.mem_singleton.mp m]; exact mo
  · subst ea
    rw [List.length_map, List.length_range] at hl
    refine draw_of rfl (by decide) (by decide) hB fun d a4 b4 d3 d4 k4 => ?_
    have B4 := hB.set (a := a4) (b := b4) k4
    generalize m.set n (some (D.lst [.int a4, .int b4])) = m4 at B4 ⊢
    simp [dwp, dSeq, dIfS, dTst, dTru, dNot, dOp2, dOp1, dVar, dC, dSet, dSetI, dRet, dRetN, dNx, dNo, dCB, dCons, dNil, dAnd, dOr, dDrop, dTup, dLst, dLstC, dIfE, dAndV, dOrV, dNotV, dFrz, fzD, env0, endsF, drf_non, drf_bl, drf_int, drf_str, drf_lst, drf_tup, drf_scr, drf_val, drf_fn, drf_exc, modD_i, fdivD_i, subD_i, addD_i, andD_i, gtD_i, ltD_i, geD_i, leD_i, eqD_i, neD_i, eqD_s, neD_s, intD_i, absD_i, ixD_0, ixD_1, ixD_t0, ixD_t1, truth]
    by_cases e : 0 < d
    · refine .inr ⟨e, ?_⟩
      have hsz : os.length ≤ sizeLine := Nat.le_trans (show os.length ≤ 6 by omega) (by decide)
      rw [lc_src rfl (src_lst _)]
      refine actL_g .str (fun o => !decide (o = "")) .str os [] (by simpa using hsz) trivial (fun o mo acc Q' hl q => ?_) ?_
      · simp [dwp, dSeq, dIfS, dTst, dTru, dNot, dOp2, dOp1, dVar, dC, dSet, dSetI, dRet, dRetN, dNx, dNo, dCB, dCons, dNil, dAnd, dOr, dDrop, dTup, dLst, dLstC, dIfE, dAndV, dOrV, dNotV, dFrz, fzD, env0, endsF, drf_non, drf_bl, drf_int, drf_str, drf_lst, drf_tup, drf_scr, drf_val, drf_fn, drf_exc, modD_i, fdivD_i, subD_i, addD_i, andD_i, gtD_i, ltD_i, geD_i, leD_i, eqD_i, neD_i, eqD_s, neD_s, intD_i, absD_i, ixD_0, ixD_1, ixD_t0, ixD_t1, truth, dLc, dLcA, dLcC, dLcAC, dIter, dSrc_str, dSrc_lst, dSrc_tup, dYes, gN, gTp, gCn, gNl, wipeD, uAdd, uFor, uAddX, noChk, inD_s, notInD_s, lenD_s, lenD_l, dCall]
        by_cases e : o = ""
        · rw [if_neg (by simp [e])] at q
          exact .inl ⟨e, q⟩
        · rw [if_pos (by simp [e])] at q
          exact .inr ⟨e, hl, q⟩
      · rw [List.nil_append]
        exact r7 ns n k _ m4 EX Q hk (fun o m => ho o (List.mem_filter.mp m).1) (Nat.le_trans (List.length_filter_le _ _) (by omega)) B4 h
    · refine .inl ⟨by omega, r7 ns n k os m4 EX Q hk ho (by omega) B4 h⟩
end K65
set_option Elab.async false
set_option linter.all false
set_option autoImplicit false
set_option maxRecDepth 100000
set_option maxHeartbeats 4000000
namespace K65
open PySem PySem.Spec PyProof.Rows L2 Evl Dl Cmb
theorem com_have : ∀ o ∈ cans, ∀ s ∈ cans, comB o s = !(haveS s o).isEmpty := by decide +kernel
theorem lies_lack : ∀ x ∈ cans, ∀ o ∈ cans, liesB x o = (lackS x o).isEmpty := by decide +kernel
theorem all_sub : ∀ k ∈ KS, ∀ o ∈ allOf k, ∀ c ∈ sg o, c ∈ sg k := by decide +kernel
theorem meets_eq {o : Str} (ho : o ∈ cans) : ∀ {os : List Str}, (∀ s ∈ os, s ∈ cans) → (os.filter fun b => (haveS b o).isEmpty).isEmpty = meetB os o
  | [], _ => rfl
  | s :: os, h => by
    have ih := meets_eq ho (os := os) fun x m => h x (List.mem_cons_of_mem _ m)
    have e := com_have o ho s (h s List.mem_cons_self)
    unfold meetB at ih ⊢
    rw [List.all_cons, ← ih, e]
    cases q : (haveS s o).isEmpty with
    | true => rw [List.filter_cons_of_pos (by exact q)]; rfl
    | false => rw [List.filter_cons_of_neg (by rw [q]; decide)]; rfl
/-- the slots of the law's second half -/
abbrev env2 (ns : List Int) (n : Nat) (k : Str) (os : List Str) (rs : Rows) (kept : Str) (d : D) (x : D) : DEnv := [some (.scr ns), some (.cel n), some (.str k), some (.lst ((allOf k).map .str)), some (.lst (os.map .str)), none, none, some (.lst (rs.map fun r => r.1)), some (.str kept), some d, some (.lst ((metOf k os).map .str)), some (.lst ((leastOf k os).map .str)), none, some (.lst (os.map fun o => .str (jn (lackS k o)))), none, none, none, none, none]
def sp_R10 : Prop := ∀ (ns : List Int) (n : Nat) (k : Str) (os : List Str) (rs : Rows) (kept : Str) (d : D) (la : List Str) (m : Mu) (EX : EX0) (Q : D → Mu → Prop), k ∈ KS → (∀ o ∈ os, o ∈ allOf k) → os.length ≤ 5 → ToldR k rs → (rs.map fun r => can k r.2) = os → reprD [.lst (rs.map fun r => r.1)] = some (.str kept) → Row d la → Tell k la → Box n m → (∀ μ', Q (.bl true) μ') → R10 (endsL EX Q) (env2 ns n k os rs kept d .non) m
theorem told_of {ρ : DEnv} {i j n : Nat} {o : Str} {μ : Mu} {EX : EXt} {Q : D → Mu → Prop} (h1 : ρ[i]? = some (some (.cel n))) (h2 : ρ[j]? = some (some (.str o))) (ho : o ∈ cans) (hB : Box n μ) (q : ∀ d l μ', Row d l → Tell o l → Box n μ' → Q d μ') : dCall 2 WlTold [] (dCons (dVar i) (dCons (dVar j) dNil)) ρ μ EX Q := by
  unfold dCall dCons dVar
  rw [h1]
  dsimp only
  rw [h2]
  exact ⟨rfl, n, o, rfl, ho, hB, q⟩
theorem meets_of {ρ : DEnv} {i j : Nat} {o : Str} {os : List Str} {μ : Mu} {EX : EXt} {Q : D → Mu → Prop} (h1 : ρ[i]? = some (some (.str o))) (h2 : ρ[j]? = some (some (.lst (os.map .str)))) (ho : o ∈ cans) (hos : ∀ s ∈ os, s ∈ cans) (hl : os.length ≤ 1000) (q : Q (.bl (meetB os o)) μ) : dCall 2 WlMeets [] (dCons (dVar i) (dCons (dVar j) dNil)) ρ μ EX Q := by
  unfold dCall dCons dVar
  rw [h1]
  dsimp only
  rw [h2]
  exact ⟨rfl, o, os, rfl, hl, fun b m => ⟨can_lt (hos b m), can_lay b (hos b m)⟩, by rw [meets_eq ho hos]; exact q⟩
theorem lin_of {ρ : DEnv} {i j : Nat} {x o : Str} {μ : Mu} {EX : EXt} {Q : D → Mu → Prop} (h1 : ρ[i]? = some (some (.str x))) (h2 : ρ[j]? = some (some (.str o))) (hx : x ∈ cans) (ho : o ∈ cans) (q : Q (.bl (liesB x o)) μ) : dCall 2 WlIn [] (dCons (dVar i) (dCons (dVar j) dNil)) ρ μ EX Q := by
  unfold dCall dCons dVar
  rw [h1]
  dsimp only
  rw [h2]
  exact ⟨rfl, x, o, rfl, can_lt hx, by rw [← lies_lack x hx o ho]; exact q⟩
theorem tru_call {T : DTE} {ρ : DEnv} {μ : Mu} {EX : EXt} {Q : Bool → Mu → Prop} {b : Bool} (hT : ∀ K : D → Mu → Prop, K (.bl b) μ → T ρ μ EX K) (q : Q b μ) : dTru T ρ μ EX Q := by
  unfold dTru
  exact hT _ ⟨b, rfl, q⟩
theorem above_eq (ms : List Str) (o : Str) : (ms.filter fun x => !decide (x = o) && liesB x o).isEmpty = !aboveB ms o := by
  unfold aboveB
  induction ms with
  | nil => rfl
  | cons x ms ih =>
    by_cases e : x = o
    · subst e
      rw [List.filter_cons_of_neg (by simp), List.filter_cons_of_neg (by simp)]
      exact ih
    · cases q : liesB x o with
      | true =>
        rw [List.filter_cons_of_pos (by simp [e, q]), List.filter_cons_of_pos (by simp [e]), List.any_cons, q]
        rfl
      | false =>
        rw [List.filter_cons_of_neg (by simp [q]), List.filter_cons_of_pos (by simp [e]), List.any_cons, q, Bool.false_or]
        exact ih
theorem r7_ok (r10 : sp_R10) : sp_R7 := fun ns n k os m EX Q hk hos hlen hB h => by
  have kc := KS_can k hk
  have oc : ∀ o ∈ os, o ∈ cans := fun o mo => all_cans k kc o (hos o mo)
  unfold R7
  simp [dwp, dSeq, dIfS, dTst, dTru, dNot, dOp2, dOp1, dVar, dC, dSet, dSetI, dRet, dRetN, dNx, dNo, dCB, dCons, dNil, dAnd, dOr, dDrop, dTup, dLst, dLstC, dIfE, dAndV, dOrV, dNotV, dFrz, fzD, env0, endsF, drf_non, drf_bl, drf_int, drf_str, drf_lst, drf_tup, drf_scr, drf_val, drf_fn, drf_exc, modD_i, fdivD_i, subD_i, addD_i, andD_i, gtD_i, ltD_i, geD_i, leD_i, eqD_i, neD_i, eqD_s, neD_s, intD_i, absD_i, ixD_0, ixD_1, ixD_t0, ixD_t1, truth]
  rw [lc_src rfl (src_lst _)]
  refine actL_inv _ (fun i acc m => Box n m ∧ ∃ rs : Rows, acc = rs.map (fun r => r.1) ∧ ToldR k rs ∧ (rs.map fun r => can k r.2) = os.take i) [] m ⟨hB, [], rfl, fun r mr => by simp at mr, rfl⟩ (fun _ _ _ _ => trivial) (fun i d acc m Q' hd ⟨hB, rs, ea, tr, er⟩ kk => ?_) fun acc m ⟨hB, rs, ea, tr, er⟩ => ?_
  · subst ea
    rw [List.getElem?_map] at hd
    obtain ⟨o, ho, rfl⟩ := Option.map_eq_some_iff.mp hd
    have mo := List.mem_of_getElem? ho
    have hi := (List.getElem?_eq_some_iff.mp ho).1
    have s6 : 6 < sizeLine := by decide
    have lr : rs.length = i := by
      have := congrArg List.length er
      rw [List.length_map, List.length_take] at this
      omega
    simp [dwp, dSeq, dIfS, dTst, dTru, dNot, dOp2, dOp1, dVar, dC, dSet, dSetI, dRet, dRetN, dNx, dNo, dCB, dCons, dNil, dAnd, dOr, dDrop, dTup, dLst, dLstC, dIfE, dAndV, dOrV, dNotV, dFrz, fzD, env0, endsF, drf_non, drf_bl, drf_int, drf_str, drf_lst, drf_tup, drf_scr, drf_val, drf_fn, drf_exc, modD_i, fdivD_i, subD_i, addD_i, andD_i, gtD_i, ltD_i, geD_i, leD_i, eqD_i, neD_i, eqD_s, neD_s, intD_i, absD_i, ixD_0, ixD_1, ixD_t0, ixD_t1, truth, gN, dYes, uAdd, wipeD]
    refine told_of rfl rfl (oc o mo) hB fun d l μ' row t b' => ?_
    refine ⟨by omega, kk _ _ ⟨b', rs ++ [(d, l)], by rw [List.map_append]; rfl, fun r mr => ?_, ?_⟩⟩
    · rcases List.mem_append.mp mr with mr | mr
      · exact tr r mr
      · obtain rfl := List.mem_singleton.mp mr
        exact ⟨row, o, oc o mo, all_sub k hk o (hos o mo), t⟩
    · rw [List.map_append, er, List.take_succ, ho]
      show os.take i ++ [can k l] = _
      rw [can_of kc (oc o mo) (all_sub k hk o (hos o mo)) t.mem]
      rfl
  · subst ea
    rw [List.length_map, List.take_length] at er
    have lr : rs.length = os.length := by
      have := congrArg List.length er
      rwa [List.length_map] at this
    obtain ⟨kept, ek⟩ := shw_told tr (by omega)
    simp [dwp, dSeq, dIfS, dTst, dTru, dNot, dOp2, dOp1, dVar, dC, dSet, dSetI, dRet, dRetN, dNx, dNo, dCB, dCons, dNil, dAnd, dOr, dDrop, dTup, dLst, dLstC, dIfE, dAndV, dOrV, dNotV, dFrz, fzD, env0, endsF, drf_non, drf_bl, drf_int, drf_str, drf_lst, drf_tup, drf_scr, drf_val, drf_fn, drf_exc, modD_i, fdivD_i, subD_i, addD_i, andD_i, gtD_i, ltD_i, geD_i, leD_i, eqD_i, neD_i, eqD_s, neD_s, intD_i, absD_i, ixD_0, ixD_1, ixD_t0, ixD_t1, truth, dPar, ek]
    refine told_of rfl rfl kc hB fun d la m row t hB => ?_
    rw [lc_src rfl (src_lst _)]
    have ol : os.length ≤ 1000 := by omega
    refine actL_g .str (meetB os) .str (allOf k) [] (by simpa using line_of (all_1000 k kc)) trivial (fun o mo acc Q' hl q => ?_) ?_
    · have ho := all_cans k kc o mo
      simp [dwp, dSeq, dIfS, dTst, dTru, dNot, dOp2, dOp1, dVar, dC, dSet, dSetI, dRet, dRetN, dNx, dNo, dCB, dCons, dNil, dAnd, dOr, dDrop, dTup, dLst, dLstC, dIfE, dAndV, dOrV, dNotV, dFrz, fzD, env0, endsF, drf_non, drf_bl, drf_int, drf_str, drf_lst, drf_tup, drf_scr, drf_val, drf_fn, drf_exc, modD_i, fdivD_i, subD_i, addD_i, andD_i, gtD_i, ltD_i, geD_i, leD_i, eqD_i, neD_i, eqD_s, neD_s, intD_i, absD_i, ixD_0, ixD_1, ixD_t0, ixD_t1, truth, gN, wipeD, uAdd]
      refine meets_of rfl rfl ho oc ol ?_
      cases e : meetB os o with
      | true => rw [e] at q; exact .inr ⟨rfl, hl, q⟩
      | false => rw [e] at q; exact .inl ⟨rfl, q⟩
    rw [List.nil_append]
    show dLc _ _ _ _ _ _ _ _ _
    rw [lc_src rfl (src_lst _)]
    refine actL_g .str (fun o => !aboveB (metOf k os) o) .str (metOf k os) [] (by simpa using line_of (met_len kc os)) trivial (fun o mo acc Q' hl q => ?_) ?_
    · have ho := met_can kc mo
      simp [dwp, dSeq, dIfS, dTst, dTru, dNot, dOp2, dOp1, dVar, dC, dSet, dSetI, dRet, dRetN, dNx, dNo, dCB, dCons, dNil, dAnd, dOr, dDrop, dTup, dLst, dLstC, dIfE, dAndV, dOrV, dNotV, dFrz, fzD, env0, endsF, drf_non, drf_bl, drf_int, drf_str, drf_lst, drf_tup, drf_scr, drf_val, drf_fn, drf_exc, modD_i, fdivD_i, subD_i, addD_i, andD_i, gtD_i, ltD_i, geD_i, leD_i, eqD_i, neD_i, eqD_s, neD_s, intD_i, absD_i, ixD_0, ixD_1, ixD_t0, ixD_t1, truth, gN, wipeD, uAdd]
      rw [lc_src rfl (src_lst _)]
      refine actL_g .str (fun x => !decide (x = o) && liesB x o) .str (metOf k os) [] (by simpa using line_of (met_len kc os)) trivial (fun x mx acc Q'' hl q => ?_) ?_
      · have hx := met_can kc mx
        simp [dwp, dSeq, dIfS, dTst, dTru, dNot, dOp2, dOp1, dVar, dC, dSet, dSetI, dRet, dRetN, dNx, dNo, dCB, dCons, dNil, dAnd, dOr, dDrop, dTup, dLst, dLstC, dIfE, dAndV, dOrV, dNotV, dFrz, fzD, env0, endsF, drf_non, drf_bl, drf_int, drf_str, drf_lst, drf_tup, drf_scr, drf_val, drf_fn, drf_exc, modD_i, fdivD_i, subD_i, addD_i, andD_i, gtD_i, ltD_i, geD_i, leD_i, eqD_i, neD_i, eqD_s, neD_s, intD_i, absD_i, ixD_0, ixD_1, ixD_t0, ixD_t1, truth, gN, wipeD, uAdd]
        by_cases e : x = o
        · rw [if_neg (by simp [e])] at q
          exact .inl ⟨e, q⟩
        · refine .inr ⟨e, ?_⟩
          refine lin_of rfl rfl hx ho ?_
          cases el : liesB x o with
          | true => rw [if_pos (by simp [e, el])] at q; exact .inr ⟨rfl, hl, q⟩
          | false => rw [if_neg (by simp [el])] at q; exact .inl ⟨rfl, q⟩
      · rw [List.nil_append]
        refine ⟨_, eqD_nil fun c mc => can_lay c (met_can kc (List.mem_filter.mp mc).1), ?_⟩
        rw [above_eq]
        cases ea : aboveB (metOf k os) o with
        | true => rw [ea] at q; exact .inl ⟨rfl, q⟩
        | false => rw [ea] at q; exact .inr ⟨rfl, hl, q⟩
    rw [List.nil_append]
    show dLc _ _ _ _ _ _ _ _ _
    rw [lc_src rfl (src_lst _)]
    refine actL_g .str (fun _ => true) (fun o => D.str (jn (lackS k o))) os [] (by simpa using line_of ol) trivial (fun o mo acc Q' hl q => ?_) ?_
    · have ho := oc o mo
      simp [dwp, dSeq, dIfS, dTst, dTru, dNot, dOp2, dOp1, dVar, dC, dSet, dSetI, dRet, dRetN, dNx, dNo, dCB, dCons, dNil, dAnd, dOr, dDrop, dTup, dLst, dLstC, dIfE, dAndV, dOrV, dNotV, dFrz, fzD, env0, endsF, drf_non, drf_bl, drf_int, drf_str, drf_lst, drf_tup, drf_scr, drf_val, drf_fn, drf_exc, modD_i, fdivD_i, subD_i, addD_i, andD_i, gtD_i, ltD_i, geD_i, leD_i, eqD_i, neD_i, eqD_s, neD_s, intD_i, absD_i, ixD_0, ixD_1, ixD_t0, ixD_t1, truth, gN, wipeD, uAdd, dYes]
      unfold dJoin dOp2 dC
      refine ⟨"", rfl, ?_⟩
      show dLc _ _ _ _ _ _ _ _ _
      rw [lc_src rfl fun μ Q => dSrc_str k μ Q]
      refine actL_g .str (fun c => !hasS c o) .str (sg k) [] (by simpa using (can_lt kc).line) trivial (fun c m acc Q' hl q => ?_) ?_
      · simp [dwp, dSeq, dIfS, dTst, dTru, dNot, dOp2, dOp1, dVar, dC, dSet, dSetI, dRet, dRetN, dNx, dNo, dCB, dCons, dNil, dAnd, dOr, dDrop, dTup, dLst, dLstC, dIfE, dAndV, dOrV, dNotV, dFrz, fzD, env0, endsF, drf_non, drf_bl, drf_int, drf_str, drf_lst, drf_tup, drf_scr, drf_val, drf_fn, drf_exc, modD_i, fdivD_i, subD_i, addD_i, andD_i, gtD_i, ltD_i, geD_i, leD_i, eqD_i, neD_i, eqD_s, neD_s, intD_i, absD_i, ixD_0, ixD_1, ixD_t0, ixD_t1, truth, gN, wipeD, uAdd, notInD_s]
        cases e : hasS c o with
        | true => rw [e] at q; exact .inl ⟨rfl, q⟩
        | false => rw [e] at q; exact .inr ⟨rfl, hl, q⟩
      · rw [List.nil_append]
        exact ⟨_, join_lst (l := lackS k o) (fun c m => sg_ones c (List.mem_filter.mp m).1) (Nat.le_trans (List.length_filter_le _ _) (Nat.le_trans (can_lt4 k kc) (by decide))), hl, q⟩
    rw [fT, List.nil_append]
    exact r10 ns n k os rs kept d la m EX Q hk hos hlen tr er ek row t hB h
end K65
set_option Elab.async false
set_option linter.all false
set_option autoImplicit false
set_option maxRecDepth 100000
set_option maxHeartbeats 4000000
namespace K65
open PySem PySem.Spec PyProof.Rows L2 Evl Dl Cmb
theorem kinds_tell {k : Str} (hk : k ∈ KS) {d : D} {la : List Str} (row : Row d la) (t : Tell k la) : kindsOk d la ∧ can "abcd" la = k :=
  ⟨⟨row, t.len, fun c m => KS_sub k hk c ((t.mem c).mp m)⟩, can_of abcd (KS_can k hk) (KS_sub k hk) t.mem⟩
theorem wmeet {k : Str} (hk : k ∈ KS) {a d : D} {la os : List Str} {rs : Rows} {μ : Mu} {EX : EX0} {K : D → Mu → Prop} (row : Row a la) (t : Tell k la) (lo : Lots d (rs.map fun r => r.1)) (hl : rs.length ≤ 1000) (tr : ToldR k rs) (er : (rs.map fun r => can k r.2) = os) (q : K (.tup ((leastOf k os).map .str)) μ) : Wmeeting [a, d] μ EX K := by
  obtain ⟨h1, h2⟩ := kinds_tell hk row t
  refine ⟨a, d, rfl, .inl ⟨la, rs, h1, lo, hl, ?_, ?_⟩⟩
  · rw [h2]; exact tr.good
  · rw [h2, er]; exact q
theorem wcomp {k : Str} (hk : k ∈ KS) {a d : D} {la os : List Str} {rs : Rows} {μ : Mu} {EX : EX0} {K : D → Mu → Prop} (row : Row a la) (t : Tell k la) (lo : Lots d (rs.map fun r => r.1)) (hl : rs.length ≤ 1000) (tr : ToldR k rs) (er : (rs.map fun r => can k r.2) = os) (q : K (.tup (os.map fun o => .str (jn (lackS k o)))) μ) : Wcompl [a, d] μ EX K := by
  obtain ⟨h1, h2⟩ := kinds_tell hk row t
  refine ⟨a, d, rfl, .inl ⟨la, rs, h1, lo, hl, ?_, ?_⟩⟩
  · rw [h2]; exact tr.good
  · rw [h2]
    subst er
    rw [List.map_map] at q
    exact q
theorem call2_of {ρ : DEnv} {i j : Nat} {x y : D} {W : DFn} {μ : Mu} {EX : EXt} {Q : D → Mu → Prop} (h1 : ρ[i]? = some (some x)) (h2 : ρ[j]? = some (some y)) (q : W [x, y] μ (EX ρ) Q) : dCall 2 W [] (dCons (dVar i) (dCons (dVar j) dNil)) ρ μ EX Q := by
  unfold dCall dCons dVar
  rw [h1]
  dsimp only
  rw [h2]
  exact ⟨rfl, q⟩
theorem bad_of {ρ : DEnv} {i j l n : Nat} {k : Str} {rs : Rows} {μ : Mu} {EX : EXt} {Q : D → Mu → Prop} (h1 : ρ[i]? = some (some (.cel n))) (h2 : ρ[j]? = some (some (.str k))) (h3 : ρ[l]? = some (some (.lst (rs.map fun r => r.1)))) (hk : k ∈ KS) (hl : rs.length ≤ 100) (tr : ToldR k rs) (hB : Box n μ)
    (q : ∀ a d w μ', Refuse a d w → Wr w → Box n μ' → Q (.tup [a, d, w]) μ') : dCall 3 WlBad [] (dCons (dVar i) (dCons (dVar j) (dCons (dVar l) dNil))) ρ μ EX Q := by
  unfold dCall dCons dVar
  rw [h1]
  dsimp only
  rw [h2]
  dsimp only
  rw [h3]
  exact ⟨rfl, n, k, rs, rfl, hk, hl, tr, hB, q⟩
theorem ans_of {ρ : DEnv} {i j : Nat} {x : Str} {a d w : D} {μ : Mu} {EX : EXt} {Q : D → Mu → Prop} (hx : x = "meeting_sets" ∨ x = "complement_sets") (r : Refuse a d w) (h1 : ρ[i]? = some (some a) := by rfl) (h2 : ρ[j]? = some (some d) := by rfl) (q : Q (.tup [.str "none", w, .bl false]) μ) : dCall 3 WlAns [] (dCons (dC (.fn x)) (dCons (dVar i) (dCons (dVar j) dNil))) ρ μ EX Q := by
  unfold dCall dCons dVar dC
  rw [h1]
  dsimp only
  rw [h2]
  exact ⟨rfl, x, a, d, w, rfl, hx, r, q⟩
theorem r10_ok : sp_R10 := fun ns n k os rs kept d la m EX Q hk hos hlen tr er ek row t hB h => by
  have kc := KS_can k hk
  have oc : ∀ o ∈ os, o ∈ cans := fun o mo => all_cans k kc o (hos o mo)
  have lr : rs.length = os.length := by
    have := congrArg List.length er
    rwa [List.length_map] at this
  obtain ⟨z1, e1⟩ := shw_cans (os := leastOf k os) (fun o mo => met_can kc (List.mem_filter.mp mo).1) (Nat.le_trans (List.length_filter_le _ _) (met_len kc os))
  obtain ⟨z2, e2⟩ := shw_cans (os := os.map fun o => jn (lackS k o)) (fun o mo => by
    obtain ⟨x, _, rfl⟩ := List.mem_map.mp mo
    exact (filt_can kc _).1) (by rw [List.length_map]; omega)
  rw [List.map_map] at e2
  have e2 : reprD [.tup (os.map fun o => D.str (jn (lackS k o)))] = some (.str z2) := e2
  have tk : Tell k (sg k) := ⟨by rw [sg_len]; exact Nat.le_trans (can_short k kc) (by decide), fun c => Iff.rfl⟩
  have h3 : (3 : Nat) ≤ sizeLine := by decide
  have tl : ∀ xs : List D, tupleD [.lst xs] = some (.tup xs) := fun _ => rfl
  have pk : ∀ x y : D, pick D.non [1, 0] [x, y] = [y, x] := fun _ _ => rfl
  unfold R10
  simp [dwp, dSeq, dIfS, dTst, dTru, dNot, dOp2, dOp1, dVar, dC, dSet, dSetI, dRet, dRetN, dNx, dNo, dCB, dCons, dNil, dAnd, dOr, dDrop, dTup, dLst, dLstC, dIfE, dAndV, dOrV, dNotV, dFrz, fzD, env0, endsF, drf_non, drf_bl, drf_int, drf_str, drf_lst, drf_tup, drf_scr, drf_val, drf_fn, drf_exc, modD_i, fdivD_i, subD_i, addD_i, andD_i, gtD_i, ltD_i, geD_i, leD_i, eqD_i, neD_i, eqD_s, neD_s, intD_i, absD_i, ixD_0, ixD_1, ixD_t0, ixD_t1, truth, dFor, dRange]
  refine ⟨_, range_n 2 (by decide), ?_⟩
  refine loop_inv _ (fun i ρ m' => m' = m ∧ ∃ x, ρ = (env2 ns n k os rs kept d .non).set 5 x) _ _ ⟨rfl, none, rfl⟩ (fun _ _ _ _ => trivial) (fun i dd' ρ m' K hd ⟨em, x, eρ⟩ kk => ?_) fun ρ m' ⟨em, x, eρ⟩ => ?_
  · subst em eρ
    simp [dwp, dSeq, dIfS, dTst, dTru, dNot, dOp2, dOp1, dVar, dC, dSet, dSetI, dRet, dRetN, dNx, dNo, dCB, dCons, dNil, dAnd, dOr, dDrop, dTup, dLst, dLstC, dIfE, dAndV, dOrV, dNotV, dFrz, fzD, env0, endsF, drf_non, drf_bl, drf_int, drf_str, drf_lst, drf_tup, drf_scr, drf_val, drf_fn, drf_exc, modD_i, fdivD_i, subD_i, addD_i, andD_i, gtD_i, ltD_i, geD_i, leD_i, eqD_i, neD_i, eqD_s, neD_s, intD_i, absD_i, ixD_0, ixD_1, ixD_t0, ixD_t1, truth, gN]
    refine call2_of rfl rfl (wmeet hk row t (.inl rfl) (by omega) tr er ?_)
    simp [dwp, dSeq, dIfS, dTst, dTru, dNot, dOp2, dOp1, dVar, dC, dSet, dSetI, dRet, dRetN, dNx, dNo, dCB, dCons, dNil, dAnd, dOr, dDrop, dTup, dLst, dLstC, dIfE, dAndV, dOrV, dNotV, dFrz, fzD, env0, endsF, drf_non, drf_bl, drf_int, drf_str, drf_lst, drf_tup, drf_scr, drf_val, drf_fn, drf_exc, modD_i, fdivD_i, subD_i, addD_i, andD_i, gtD_i, ltD_i, geD_i, leD_i, eqD_i, neD_i, eqD_s, neD_s, intD_i, absD_i, ixD_0, ixD_1, ixD_t0, ixD_t1, truth, e1, tl]
    refine call2_of rfl rfl (wcomp hk row t (.inl rfl) (by omega) tr er ?_)
    simp [dwp, dSeq, dIfS, dTst, dTru, dNot, dOp2, dOp1, dVar, dC, dSet, dSetI, dRet, dRetN, dNx, dNo, dCB, dCons, dNil, dAnd, dOr, dDrop, dTup, dLst, dLstC, dIfE, dAndV, dOrV, dNotV, dFrz, fzD, env0, endsF, drf_non, drf_bl, drf_int, drf_str, drf_lst, drf_tup, drf_scr, drf_val, drf_fn, drf_exc, modD_i, fdivD_i, subD_i, addD_i, andD_i, gtD_i, ltD_i, geD_i, leD_i, eqD_i, neD_i, eqD_s, neD_s, intD_i, absD_i, ixD_0, ixD_1, ixD_t0, ixD_t1, truth, e2, tl, dCallK, pk]
    refine wmeet hk (.s k) tk (.inr rfl) (by omega) tr er ?_
    simp [dwp, dSeq, dIfS, dTst, dTru, dNot, dOp2, dOp1, dVar, dC, dSet, dSetI, dRet, dRetN, dNx, dNo, dCB, dCons, dNil, dAnd, dOr, dDrop, dTup, dLst, dLstC, dIfE, dAndV, dOrV, dNotV, dFrz, fzD, env0, endsF, drf_non, drf_bl, drf_int, drf_str, drf_lst, drf_tup, drf_scr, drf_val, drf_fn, drf_exc, modD_i, fdivD_i, subD_i, addD_i, andD_i, gtD_i, ltD_i, geD_i, leD_i, eqD_i, neD_i, eqD_s, neD_s, intD_i, absD_i, ixD_0, ixD_1, ixD_t0, ixD_t1, truth, e1, tl]
    exact kk _ _ ⟨rfl, _, rfl⟩
  · subst em eρ
    simp [dwp, dSeq, dIfS, dTst, dTru, dNot, dOp2, dOp1, dVar, dC, dSet, dSetI, dRet, dRetN, dNx, dNo, dCB, dCons, dNil, dAnd, dOr, dDrop, dTup, dLst, dLstC, dIfE, dAndV, dOrV, dNotV, dFrz, fzD, env0, endsF, drf_non, drf_bl, drf_int, drf_str, drf_lst, drf_tup, drf_scr, drf_val, drf_fn, drf_exc, modD_i, fdivD_i, subD_i, addD_i, andD_i, gtD_i, ltD_i, geD_i, leD_i, eqD_i, neD_i, eqD_s, neD_s, intD_i, absD_i, ixD_0, ixD_1, ixD_t0, ixD_t1, truth, ek, dAsg]
    refine bad_of rfl rfl rfl hk (by omega) tr hB fun a dd w μ' rf wr hB' => ?_
    obtain ⟨z, ez⟩ := shw_due wr
    simp [dwp, dSeq, dIfS, dTst, dTru, dNot, dOp2, dOp1, dVar, dC, dSet, dSetI, dRet, dRetN, dNx, dNo, dCB, dCons, dNil, dAnd, dOr, dDrop, dTup, dLst, dLstC, dIfE, dAndV, dOrV, dNotV, dFrz, fzD, env0, endsF, drf_non, drf_bl, drf_int, drf_str, drf_lst, drf_tup, drf_scr, drf_val, drf_fn, drf_exc, modD_i, fdivD_i, subD_i, addD_i, andD_i, gtD_i, ltD_i, geD_i, leD_i, eqD_i, neD_i, eqD_s, neD_s, intD_i, absD_i, ixD_0, ixD_1, ixD_t0, ixD_t1, truth, gTp, gCn, gNl, gN, ez, h3]
    refine ans_of (.inl rfl) rf rfl rfl ?_
    simp [dwp, dSeq, dIfS, dTst, dTru, dNot, dOp2, dOp1, dVar, dC, dSet, dSetI, dRet, dRetN, dNx, dNo, dCB, dCons, dNil, dAnd, dOr, dDrop, dTup, dLst, dLstC, dIfE, dAndV, dOrV, dNotV, dFrz, fzD, env0, endsF, drf_non, drf_bl, drf_int, drf_str, drf_lst, drf_tup, drf_scr, drf_val, drf_fn, drf_exc, modD_i, fdivD_i, subD_i, addD_i, andD_i, gtD_i, ltD_i, geD_i, leD_i, eqD_i, neD_i, eqD_s, neD_s, intD_i, absD_i, ixD_0, ixD_1, ixD_t0, ixD_t1, truth, ez]
    refine ans_of (.inr rfl) rf rfl rfl ?_
    simp [dwp, dSeq, dIfS, dTst, dTru, dNot, dOp2, dOp1, dVar, dC, dSet, dSetI, dRet, dRetN, dNx, dNo, dCB, dCons, dNil, dAnd, dOr, dDrop, dTup, dLst, dLstC, dIfE, dAndV, dOrV, dNotV, dFrz, fzD, env0, endsF, drf_non, drf_bl, drf_int, drf_str, drf_lst, drf_tup, drf_scr, drf_val, drf_fn, drf_exc, modD_i, fdivD_i, subD_i, addD_i, andD_i, gtD_i, ltD_i, geD_i, leD_i, eqD_i, neD_i, eqD_s, neD_s, intD_i, absD_i, ixD_0, ixD_1, ixD_t0, ixD_t1, truth, ez]
    exact h _
end K65
set_option Elab.async false
set_option linter.all false
set_option autoImplicit false
set_option maxRecDepth 100000
set_option maxHeartbeats 8000000
namespace K65
open PySem PySem.Spec PyProof.Rows L2 Evl Dl
open PySem.OneXL (keyTail tail_key line_key)
theorem exm_sub {K : PySem.W.Frag} {E S : Addr} {b : Bool} (h1 : PySem.W.subIn K (.ref S) (.type "BaseException") = some true) (h2 : PySem.W.isClsIn K S = true) (h3 : PySem.W.typeIn K (.ref S) = some (.type "type")) (h4 : PySem.W.subIn K (.ref E) (.ref S) = some b) :
    PySem.W.exmOne K (.ref E) (.ref S) = some b := by
  have h2' : (PySem.W.clsIn K S).isSome = true := h2
  unfold PySem.W.exmOne PySem.W.kitCls
  rw [h1]
  show (if ((PySem.W.clsIn K S).isSome && PySem.W.typeIn K (.ref S) == some (.type "type")) = true then PySem.W.subIn K (.ref E) (.ref S) else none) = some b
  rw [h2', h3, h4]
  rfl
theorem kit_sub {K : PySem.W.Frag} {t : Value} {S : Addr} {b : Bool} (h0 : (t == Value.ref S) = false) (h2 : PySem.W.isClsIn K S = true) (h3 : PySem.W.typeIn K (.ref S) = some (.type "type")) (h4 : PySem.W.subIn K t (.ref S) = some b) :
    PySem.W.kitOne K t (.ref S) = some b := by
  have h2' : (PySem.W.clsIn K S).isSome = true := h2
  unfold PySem.W.kitOne PySem.W.kitCls
  rw [h0]
  show (if ((PySem.W.clsIn K S).isSome && PySem.W.typeIn K (.ref S) == some (.type "type")) = true then PySem.W.subIn K t (.ref S) else none) = some b
  rw [h2', h3, h4]
  rfl
/-- the classes and defs that are told by name -/
def G65 (CL fm fc CE : Addr) : Gx :=
  { ct := fun C => if C = "NoLetter" then some CL else none, ft := fun x => if x = "meeting_sets" then some fm else if x = "complement_sets" then some fc else if x = "RuelessError" then some CE else none, it := fun _ _ => none,
    ic := fun a b => if a = "NoLetter" ∧ b = "RuelessError" then some false else none, ib := fun _ _ => none, mt := fun a b => if a = "NoLetter" ∧ b = "NoLetter" then some true else none }
/-- the law, asked with a list of whole numbers -/
def spLaw (K : PySem.W.Frag) : Sp := fun vs H Q _ => ∃ (a : Addr) (ns : List Int), vs = [.ref a] ∧ SqL K H a (ns.map V.int) ∧ ∀ H', Q (.bl true) H'
theorem fn_law {P : Program} {w : World} {K : PySem.W.Frag} {mg : Str → Option Value} {base : Heap} {G : Gx} {k : Nat} (F : FD P w K mg base G "law" k p_lLaw WlLaw) : My.FnG P w K mg base CX0 k F.f F.fd ["script"] (spLaw K) := by
  refine ⟨fun vs H Q E ⟨a, ns, e, _⟩ => by rw [e]; rfl, fun A outer s H args us vs Q E gd hr e0 hb r ⟨a, ns, ev, hs, q⟩ => ?_⟩
  subst ev
  have ok : Okk K G ⟨H, fun _ => none⟩ [] H := ⟨Ex.refl _, fun n x e => by simp at e, fun n m p x y e => by simp at e, fun n _ => rfl, fun n p e => by cases e⟩
  have h := F.G.run A outer s H args us [.ref a] Q (fun _ _ _ => False) gd hr e0 hb r ⟨[.scr ns], ⟨H, fun _ => none⟩, [], fun _ _ => False, fun d _ => d = .bl true, rfl, ⟨.ref a, [], rfl, ⟨a, rfl, hs⟩, rfl⟩, ok, ⟨ns, rfl, fun _ => rfl⟩, fun v d w' μ' H' t rv e => by
    subst e
    have rv : v = .bl true := rv
    rw [rv]
    exact q H', ⟨fun _ _ _ _ _ _ _ _ _ _ _ _ _ _ _ z => z.elim, fun _ _ _ _ _ _ _ _ _ z => z.elim⟩⟩
  refine codeAny_mono h fun r s' hq => ?_
  cases r with
  | error e =>
    obtain ⟨_, _, _, _, _, _, _, _, _, _, _, _, z⟩ := hq
    exact z.elim
  | ok fl => cases fl <;> exact hq
theorem all_mk {l : PySem.W.OpenLaw} {w : World} {K : PySem.W.Frag} {h : Heap} {mg : Str → Option Value} {fa CL CE : Addr} (X : K.In h) (G : h.Ns mainGlobals mg) (hfa : mg "law" = some (.ref fa))
    {fisSeq fliesIn fisSign fhaveCom flDraw flWell flOne flSets flIn flTold flMeets fsetOf fsetsOf fallSets flacking fcompl fmeeting flAns flBad flLaw fEL : Addr} {odisSeq anisSeq odliesIn anliesIn odisSign anisSign odhaveCom anhaveCom odlDraw anlDraw odlWell anlWell odlOne anlOne odlSets anlSets odlIn anlIn odlTold anlTold odlMeets anlMeets odsetOf ansetOf odsetsOf ansetsOf odallSets anallSets odlacking anlacking odcompl ancompl odmeeting anmeeting odlAns anlAns odlBad anlBad odlLaw anlLaw odEL anEL : Option Addr} {slisSeq slliesIn slisSign slhaveCom sllDraw sllWell sllOne sllSets sllIn sllTold sllMeets slsetOf slsetsOf slallSets sllacking slcompl slmeeting sllAns sllBad sllLaw slEL : Array (Option Value)}
    {ocisSeq dcisSeq pmisSeq ctisSeq ocliesIn dcliesIn pmliesIn ctliesIn ocisSign dcisSign pmisSign ctisSign ochaveCom dchaveCom pmhaveCom cthaveCom oclDraw dclDraw pmlDraw ctlDraw oclWell dclWell pmlWell ctlWell oclOne dclOne pmlOne ctlOne oclSets dclSets pmlSets ctlSets oclIn dclIn pmlIn ctlIn oclTold dclTold pmlTold ctlTold oclMeets dclMeets pmlMeets ctlMeets ocsetOf dcsetOf pmsetOf ctsetOf ocsetsOf dcsetsOf pmsetsOf ctsetsOf ocallSets dcallSets pmallSets ctallSets oclacking dclacking pmlacking ctlacking occompl dccompl pmcompl ctcompl ocmeeting dcmeeting pmmeeting ctmeeting oclAns dclAns pmlAns ctlAns oclBad dclBad pmlBad ctlBad oclLaw dclLaw pmlLaw ctlLaw ocEL dcEL pmEL cdEL ctEL VKINDS : Value} {cdisSeq cdliesIn cdisSign cdhaveCom cdlDraw cdlWell cdlOne cdlSets cdlIn cdlTold cdlMeets cdsetOf cdsetsOf cdallSets cdlacking cdcompl cdmeeting cdlAns cdlBad cdlLaw kVisSeq kVliesIn kVisSign kVhaveCom kVlDraw kVlWell kVlOne kVlSets kVlIn kVlTold kVlMeets kVsetOf kVsetsOf kVallSets kVlacking kVcompl kVmeeting kVlAns kVlBad kVlLaw : Value}
    {nmL qL qnEL : Str} {NL : Addr} {bsL bmL : List Value} {snL : List Str} {subL : List Value} {abL : Bool} {colL : Option Bool} {ddL : Option Addr} {m0L m1L m2L m3L m5L : Option Value} {p1L p2L q1L q2L q3L q4L : Pos}
    (aE : PySem.W.nsIn K mainGlobals "RuelessError" = some (some (.ref CE)))
    (aCL : PySem.W.nsIn K mainGlobals "NoLetter" = some (some (.ref CL)))
    (xLL : K.lookup CL = some (excClassObj nmL qL CL NL bsL bmL true snL subL abL colL ddL m0L m1L m2L m3L m5L "LookupError.__new__"))
    (xTL : PySem.W.excTail keyTail bmL = true)
    (saL : PySem.W.findIn K (.ref CL) "__setattr__" = some (some (.builtin "object.__setattr__")))
    (gaL : PySem.W.findIn K (.ref CL) "__getattribute__" = some (some (.builtin "BaseException.__getattribute__")))
    (ggL : PySem.W.findIn K (.ref CL) "__getattr__" = some none)
    (nbL : PySem.W.findIn K (.ref CL) "letter" = some none)
    (a1L : PySem.W.findIn K (.ref CL) "__init__" = some (some (.ref fEL)))
    (t1L : PySem.W.typeIn K (.ref fEL) = some (.type "function"))
    (l1L : K.lookup fEL = some ⟨ocEL, odEL, .func (PySem.W.fnOf "__init__" qnEL (PySem.OneXL.iA p1L p2L) (PySem.OneXL.iB q1L q2L q3L q4L) PySem.OneXL.iS .none .none dcEL pmEL anEL cdEL ctEL), slEL⟩)
    (c1L : PySem.W.codeIn K cdEL qnEL = true)
    (kCL : PySem.W.keepIn K (.ref CL) = true)
    (eCL : PySem.W.subIn K (.ref CL) (.type "BaseException") = some true)
    (tCL : PySem.W.typeIn K (.ref CL) = some (.type "type"))
    (hCL : PySem.W.hasDictIn K CL = true)
    (iCL : PySem.W.isClsIn K CL = true)
    (sLL : PySem.W.subIn K (.ref CL) (.ref CL) = some true)
    (sLE : PySem.W.subIn K (.ref CL) (.ref CE) = some false)
    (vLE : (Value.ref CL == Value.ref CE) = false)
    (tCE : PySem.W.typeIn K (.ref CE) = some (.type "type"))
    (iCE : PySem.W.isClsIn K CE = true)
    (haL : PySem.W.findIn K (.ref CL) "__class__" = some (some (.builtin "object.__class__")))
    (hnO : PySem.W.specialIn K (.builtin "object.__class__") "__get__" = some (some (.builtin "getset_descriptor.__get__")))
    (htO : PySem.W.takesIn K (.builtin "object.__class__") = some true)
    (hmL : PySem.W.mroIn K CL (.type "object") = some true)
    (cmb : PySem.W.nsIn K mainGlobals "combinations" = some (some (.type "itertools.combinations")))
    (aisSeq : PySem.W.nsIn K mainGlobals "is_sequence" = some (some (.ref fisSeq)))
    (lisSeq : K.lookup fisSeq = some ⟨ocisSeq, odisSeq, .func (PySem.W.fnOf "is_sequence" "is_sequence" (defArgs s_isSeq) (defBody s_isSeq) (defScope s_isSeq) .none kVisSeq dcisSeq pmisSeq anisSeq cdisSeq ctisSeq), slisSeq⟩)
    (cisSeq : PySem.W.codeIn K cdisSeq "is_sequence" = true)
    (kisSeq : PySem.W.keepIn K (.ref fisSeq) = true)
    (aliesIn : PySem.W.nsIn K mainGlobals "lies_in" = some (some (.ref fliesIn)))
    (lliesIn : K.lookup fliesIn = some ⟨ocliesIn, odliesIn, .func (PySem.W.fnOf "lies_in" "lies_in" (defArgs s_liesIn) (defBody s_liesIn) (defScope s_liesIn) .none kVliesIn dcliesIn pmliesIn anliesIn cdliesIn ctliesIn), slliesIn⟩)
    (cliesIn : PySem.W.codeIn K cdliesIn "lies_in" = true)
    (kliesIn : PySem.W.keepIn K (.ref fliesIn) = true)
    (aisSign : PySem.W.nsIn K mainGlobals "is_sign" = some (some (.ref fisSign)))
    (lisSign : K.lookup fisSign = some ⟨ocisSign, odisSign, .func (PySem.W.fnOf "is_sign" "is_sign" (defArgs s_isSign) (defBody s_isSign) (defScope s_isSign) .none kVisSign dcisSign pmisSign anisSign cdisSign ctisSign), slisSign⟩)
    (cisSign : PySem.W.codeIn K cdisSign "is_sign" = true)
    (kisSign : PySem.W.keepIn K (.ref fisSign) = true)
    (ahaveCom : PySem.W.nsIn K mainGlobals "_have_common" = some (some (.ref fhaveCom)))
    (lhaveCom : K.lookup fhaveCom = some ⟨ochaveCom, odhaveCom, .func (PySem.W.fnOf "_have_common" "_have_common" (defArgs s_haveCom) (defBody s_haveCom) (defScope s_haveCom) .none kVhaveCom dchaveCom pmhaveCom anhaveCom cdhaveCom cthaveCom), slhaveCom⟩)
    (chaveCom : PySem.W.codeIn K cdhaveCom "_have_common" = true)
    (khaveCom : PySem.W.keepIn K (.ref fhaveCom) = true)
    (alDraw : PySem.W.nsIn K mainGlobals "_law_draw" = some (some (.ref flDraw)))
    (llDraw : K.lookup flDraw = some ⟨oclDraw, odlDraw, .func (PySem.W.fnOf "_law_draw" "_law_draw" (defArgs s_lDraw) (defBody s_lDraw) (defScope s_lDraw) .none kVlDraw dclDraw pmlDraw anlDraw cdlDraw ctlDraw), sllDraw⟩)
    (clDraw : PySem.W.codeIn K cdlDraw "_law_draw" = true)
    (klDraw : PySem.W.keepIn K (.ref flDraw) = true)
    (alWell : PySem.W.nsIn K mainGlobals "_law_well" = some (some (.ref flWell)))
    (llWell : K.lookup flWell = some ⟨oclWell, odlWell, .func (PySem.W.fnOf "_law_well" "_law_well" (defArgs s_lWell) (defBody s_lWell) (defScope s_lWell) .none kVlWell dclWell pmlWell anlWell cdlWell ctlWell), sllWell⟩)
    (clWell : PySem.W.codeIn K cdlWell "_law_well" = true)
    (klWell : PySem.W.keepIn K (.ref flWell) = true)
    (alOne : PySem.W.nsIn K mainGlobals "_law_one" = some (some (.ref flOne)))
    (llOne : K.lookup flOne = some ⟨oclOne, odlOne, .func (PySem.W.fnOf "_law_one" "_law_one" (defArgs s_lOne) (defBody s_lOne) (defScope s_lOne) .none kVlOne dclOne pmlOne anlOne cdlOne ctlOne), sllOne⟩)
    (clOne : PySem.W.codeIn K cdlOne "_law_one" = true)
    (klOne : PySem.W.keepIn K (.ref flOne) = true)
    (alSets : PySem.W.nsIn K mainGlobals "_law_sets" = some (some (.ref flSets)))
    (llSets : K.lookup flSets = some ⟨oclSets, odlSets, .func (PySem.W.fnOf "_law_sets" "_law_sets" (defArgs s_lSets) (defBody s_lSets) (defScope s_lSets) .none kVlSets dclSets pmlSets anlSets cdlSets ctlSets), sllSets⟩)
    (clSets : PySem.W.codeIn K cdlSets "_law_sets" = true)
    (klSets : PySem.W.keepIn K (.ref flSets) = true)
    (alIn : PySem.W.nsIn K mainGlobals "_law_in" = some (some (.ref flIn)))
    (llIn : K.lookup flIn = some ⟨oclIn, odlIn, .func (PySem.W.fnOf "_law_in" "_law_in" (defArgs s_lIn) (defBody s_lIn) (defScope s_lIn) .none kVlIn dclIn pmlIn anlIn cdlIn ctlIn), sllIn⟩)
    (clIn : PySem.W.codeIn K cdlIn "_law_in" = true)
    (klIn : PySem.W.keepIn K (.ref flIn) = true)
    (alTold : PySem.W.nsIn K mainGlobals "_law_told" = some (some (.ref flTold)))
    (llTold : K.lookup flTold = some ⟨oclTold, odlTold, .func (PySem.W.fnOf "_law_told" "_law_told" (defArgs s_lTold) (defBody s_lTold) (defScope s_lTold) .none kVlTold dclTold pmlTold anlTold cdlTold ctlTold), sllTold⟩)
    (clTold : PySem.W.codeIn K cdlTold "_law_told" = true)
    (klTold : PySem.W.keepIn K (.ref flTold) = true)
    (alMeets : PySem.W.nsIn K mainGlobals "_law_meets" = some (some (.ref flMeets)))
    (llMeets : K.lookup flMeets = some ⟨oclMeets, odlMeets, .func (PySem.W.fnOf "_law_meets" "_law_meets" (defArgs s_lMeets) (defBody s_lMeets) (defScope s_lMeets) .none kVlMeets dclMeets pmlMeets anlMeets cdlMeets ctlMeets), sllMeets⟩)
    (clMeets : PySem.W.codeIn K cdlMeets "_law_meets" = true)
    (klMeets : PySem.W.keepIn K (.ref flMeets) = true)
    (asetOf : PySem.W.nsIn K mainGlobals "_set_of" = some (some (.ref fsetOf)))
    (lsetOf : K.lookup fsetOf = some ⟨ocsetOf, odsetOf, .func (PySem.W.fnOf "_set_of" "_set_of" (defArgs s_setOf) (defBody s_setOf) (defScope s_setOf) .none kVsetOf dcsetOf pmsetOf ansetOf cdsetOf ctsetOf), slsetOf⟩)
    (csetOf : PySem.W.codeIn K cdsetOf "_set_of" = true)
    (ksetOf : PySem.W.keepIn K (.ref fsetOf) = true)
    (asetsOf : PySem.W.nsIn K mainGlobals "_sets_of" = some (some (.ref fsetsOf)))
    (lsetsOf : K.lookup fsetsOf = some ⟨ocsetsOf, odsetsOf, .func (PySem.W.fnOf "_sets_of" "_sets_of" (defArgs s_setsOf) (defBody s_setsOf) (defScope s_setsOf) .none kVsetsOf dcsetsOf pmsetsOf ansetsOf cdsetsOf ctsetsOf), slsetsOf⟩)
    (csetsOf : PySem.W.codeIn K cdsetsOf "_sets_of" = true)
    (ksetsOf : PySem.W.keepIn K (.ref fsetsOf) = true)
    (aallSets : PySem.W.nsIn K mainGlobals "_all_sets" = some (some (.ref fallSets)))
    (lallSets : K.lookup fallSets = some ⟨ocallSets, odallSets, .func (PySem.W.fnOf "_all_sets" "_all_sets" (defArgs s_allSets) (defBody s_allSets) (defScope s_allSets) .none kVallSets dcallSets pmallSets anallSets cdallSets ctallSets), slallSets⟩)
    (callSets : PySem.W.codeIn K cdallSets "_all_sets" = true)
    (kallSets : PySem.W.keepIn K (.ref fallSets) = true)
    (alacking : PySem.W.nsIn K mainGlobals "_lacking" = some (some (.ref flacking)))
    (llacking : K.lookup flacking = some ⟨oclacking, odlacking, .func (PySem.W.fnOf "_lacking" "_lacking" (defArgs s_lacking) (defBody s_lacking) (defScope s_lacking) .none kVlacking dclacking pmlacking anlacking cdlacking ctlacking), sllacking⟩)
    (clacking : PySem.W.codeIn K cdlacking "_lacking" = true)
    (klacking : PySem.W.keepIn K (.ref flacking) = true)
    (acompl : PySem.W.nsIn K mainGlobals "complement_sets" = some (some (.ref fcompl)))
    (lcompl : K.lookup fcompl = some ⟨occompl, odcompl, .func (PySem.W.fnOf "complement_sets" "complement_sets" (defArgs s_compl) (defBody s_compl) (defScope s_compl) .none kVcompl dccompl pmcompl ancompl cdcompl ctcompl), slcompl⟩)
    (ccompl : PySem.W.codeIn K cdcompl "complement_sets" = true)
    (kcompl : PySem.W.keepIn K (.ref fcompl) = true)
    (ameeting : PySem.W.nsIn K mainGlobals "meeting_sets" = some (some (.ref fmeeting)))
    (lmeeting : K.lookup fmeeting = some ⟨ocmeeting, odmeeting, .func (PySem.W.fnOf "meeting_sets" "meeting_sets" (defArgs s_meeting) (defBody s_meeting) (defScope s_meeting) .none kVmeeting dcmeeting pmmeeting anmeeting cdmeeting ctmeeting), slmeeting⟩)
    (cmeeting : PySem.W.codeIn K cdmeeting "meeting_sets" = true)
    (kmeeting : PySem.W.keepIn K (.ref fmeeting) = true)
    (alAns : PySem.W.nsIn K mainGlobals "_law_answer" = some (some (.ref flAns)))
    (llAns : K.lookup flAns = some ⟨oclAns, odlAns, .func (PySem.W.fnOf "_law_answer" "_law_answer" (defArgs s_lAns) (defBody s_lAns) (defScope s_lAns) .none kVlAns dclAns pmlAns anlAns cdlAns ctlAns), sllAns⟩)
    (clAns : PySem.W.codeIn K cdlAns "_law_answer" = true)
    (klAns : PySem.W.keepIn K (.ref flAns) = true)
    (alBad : PySem.W.nsIn K mainGlobals "_law_bad" = some (some (.ref flBad)))
    (llBad : K.lookup flBad = some ⟨oclBad, odlBad, .func (PySem.W.fnOf "_law_bad" "_law_bad" (defArgs s_lBad) (defBody s_lBad) (defScope s_lBad) .none kVlBad dclBad pmlBad anlBad cdlBad ctlBad), sllBad⟩)
    (clBad : PySem.W.codeIn K cdlBad "_law_bad" = true)
    (klBad : PySem.W.keepIn K (.ref flBad) = true)
    (alLaw : PySem.W.nsIn K mainGlobals "law" = some (some (.ref flLaw)))
    (llLaw : K.lookup flLaw = some ⟨oclLaw, odlLaw, .func (PySem.W.fnOf "law" "law" (defArgs s_lLaw) (defBody s_lLaw) (defScope s_lLaw) .none kVlLaw dclLaw pmlLaw anlLaw cdlLaw ctlLaw), sllLaw⟩)
    (clLaw : PySem.W.codeIn K cdlLaw "law" = true)
    (klLaw : PySem.W.keepIn K (.ref flLaw) = true)
    (g_KINDS : PySem.W.nsIn K mainGlobals "KINDS" = some (some VKINDS))
    (r_KINDS : RelV (.str "abcd") VKINDS)
    (z_abs : PySem.W.nsIn K mainGlobals "abs" = some none)
    (z_all : PySem.W.nsIn K mainGlobals "all" = some none)
    (z_any : PySem.W.nsIn K mainGlobals "any" = some none)
    (z_int : PySem.W.nsIn K mainGlobals "int" = some none)
    (z_isinstance : PySem.W.nsIn K mainGlobals "isinstance" = some none)
    (z_len : PySem.W.nsIn K mainGlobals "len" = some none)
    (z_list : PySem.W.nsIn K mainGlobals "list" = some none)
    (z_range : PySem.W.nsIn K mainGlobals "range" = some none)
    (z_repr : PySem.W.nsIn K mainGlobals "repr" = some none)
    (z_sorted : PySem.W.nsIn K mainGlobals "sorted" = some none)
    (z_str : PySem.W.nsIn K mainGlobals "str" = some none)
    (z_tuple : PySem.W.nsIn K mainGlobals "tuple" = some none)
    : ∃ fd : FuncData, (∀ (s : Shared) (u : Value), BindsTo s fd ⟨[u], []⟩ [("script", u)]) ∧ ∀ base : Heap, K.In base → base.Ns mainGlobals mg → My.FnG l.prog w K mg base CX0 10 fa fd ["script"] (spLaw K) := by
  have e := hfa.symm.trans (PySem.W.mg_of X G alLaw)
  cases e
  have T : Txt K mg (G65 CL fmeeting fcompl CE) := ⟨PySem.W.mg_none_of X G z_abs, PySem.W.mg_none_of X G z_all, PySem.W.mg_none_of X G z_any, PySem.W.mg_none_of X G z_int, PySem.W.mg_none_of X G z_isinstance, PySem.W.mg_none_of X G z_len, PySem.W.mg_none_of X G z_list, PySem.W.mg_none_of X G z_range, PySem.W.mg_none_of X G z_repr, PySem.W.mg_none_of X G z_sorted, PySem.W.mg_none_of X G z_str, PySem.W.mg_none_of X G z_tuple, ⟨_, PySem.W.mg_of X G g_KINDS, r_KINDS⟩, PySem.W.mg_of X G cmb⟩
  have TL : PySem.OneXL.OneTxt K mg "NoLetter" keyTail "LookupError.__new__" CL fEL :=
    { gC := PySem.W.mg_of X G aCL, cls := ⟨nmL, qL, NL, bsL, bmL, snL, subL, abL, colL, ddL, m0L, m1L, m2L, m3L, m5L, xLL, xTL⟩, sa := saL, ga := gaL, gg := ggL, noN := nbL, iC := a1L, tC := t1L, kC := kCL, exC := eCL, tyC := tCL, hdC := hCL, te := exm_sub eCL iCL tCL sLL,
      fn := ⟨_, _, _, _, _, _, _, _, _, _, _, _, _, _, _, l1L, c1L⟩ }
  let EL : ErrL K mg (G65 CL fmeeting fcompl CE) := ⟨CL, fEL, TL, rfl, ⟨gaL, ggL, eCL, hCL, haL, hnO, htO, hmL⟩, fun C p b hp hb => ?ic, fun T b hb => (by cases hb), fun C c' b hc hb => ?mt⟩
  case ic =>
    have hb : (if ("NoLetter" : Str) = "NoLetter" ∧ C = "RuelessError" then some false else none) = some b := hb
    split at hb
    · rename_i q
      cases hb
      obtain ⟨_, rfl⟩ := q
      have hp : some CE = some p := hp
      cases hp
      exact kit_sub vLE iCE tCE sLE
    · cases hb
  case mt =>
    have hb : (if C = "NoLetter" ∧ ("NoLetter" : Str) = "NoLetter" then some true else none) = some b := hb
    split at hb
    · rename_i q
      cases hb
      obtain ⟨rfl, _⟩ := q
      have hc : some CL = some c' := hc
      cases hc
      exact exm_sub eCL iCL tCL sLL
    · cases hb
  have FisSeq := fun_mk (st := s_isSeq) lisSeq cisSeq kisSeq
  have bisSeq := FisSeq.binds (ps := ["value"]) fun _ _ _ _ _ _ us hl => match us, hl with | [_], _ => rfl
  let RisSeq : RawFn K mg "is_sequence" s_isSeq p_isSeq := ⟨fisSeq, _, FisSeq, PySem.W.mg_of X G aisSeq, kisSeq, bisSeq⟩
  have FliesIn := fun_mk (st := s_liesIn) lliesIn cliesIn kliesIn
  have bliesIn := FliesIn.binds (ps := ["some", "others"]) fun _ _ _ _ _ _ us hl => match us, hl with | [_, _], _ => rfl
  let RliesIn : RawFn K mg "lies_in" s_liesIn p_liesIn := ⟨fliesIn, _, FliesIn, PySem.W.mg_of X G aliesIn, kliesIn, bliesIn⟩
  have FisSign := fun_mk (st := s_isSign) lisSign cisSign kisSign
  have bisSign := FisSign.binds (ps := ["value", "signs"]) fun _ _ _ _ _ _ us hl => match us, hl with | [_, _], _ => rfl
  let RisSign : RawFn K mg "is_sign" s_isSign p_isSign := ⟨fisSign, _, FisSign, PySem.W.mg_of X G aisSign, kisSign, bisSign⟩
  have FhaveCom := fun_mk (st := s_haveCom) lhaveCom chaveCom khaveCom
  have bhaveCom := FhaveCom.binds (ps := ["one", "other"]) fun _ _ _ _ _ _ us hl => match us, hl with | [_, _], _ => rfl
  let RhaveCom : RawFn K mg "_have_common" s_haveCom p_haveCom := ⟨fhaveCom, _, FhaveCom, PySem.W.mg_of X G ahaveCom, khaveCom, bhaveCom⟩
  have FlDraw := fun_mk (st := s_lDraw) llDraw clDraw klDraw
  have blDraw := FlDraw.binds (ps := ["well", "many"]) fun _ _ _ _ _ _ us hl => match us, hl with | [_, _], _ => rfl
  let RlDraw : RawFn K mg "_law_draw" s_lDraw p_lDraw := ⟨flDraw, _, FlDraw, PySem.W.mg_of X G alDraw, klDraw, blDraw⟩
  have FlWell := fun_mk (st := s_lWell) llWell clWell klWell
  have blWell := FlWell.binds (ps := ["script", "k"]) fun _ _ _ _ _ _ us hl => match us, hl with | [_, _], _ => rfl
  let RlWell : RawFn K mg "_law_well" s_lWell p_lWell := ⟨flWell, _, FlWell, PySem.W.mg_of X G alWell, klWell, blWell⟩
  have FlOne := fun_mk (st := s_lOne) llOne clOne klOne
  have blOne := FlOne.binds (ps := ["well", "some"]) fun _ _ _ _ _ _ us hl => match us, hl with | [_, _], _ => rfl
  let RlOne : RawFn K mg "_law_one" s_lOne p_lOne := ⟨flOne, _, FlOne, PySem.W.mg_of X G alOne, klOne, blOne⟩
  have FlSets := fun_mk (st := s_lSets) llSets clSets klSets
  have blSets := FlSets.binds (ps := ["kinds"]) fun _ _ _ _ _ _ us hl => match us, hl with | [_], _ => rfl
  let RlSets : RawFn K mg "_law_sets" s_lSets p_lSets := ⟨flSets, _, FlSets, PySem.W.mg_of X G alSets, klSets, blSets⟩
  have FlIn := fun_mk (st := s_lIn) llIn clIn klIn
  have blIn := FlIn.binds (ps := ["one", "other"]) fun _ _ _ _ _ _ us hl => match us, hl with | [_, _], _ => rfl
  let RlIn : RawFn K mg "_law_in" s_lIn p_lIn := ⟨flIn, _, FlIn, PySem.W.mg_of X G alIn, klIn, blIn⟩
  have FlTold := fun_mk (st := s_lTold) llTold clTold klTold
  have blTold := FlTold.binds (ps := ["well", "one"]) fun _ _ _ _ _ _ us hl => match us, hl with | [_, _], _ => rfl
  let RlTold : RawFn K mg "_law_told" s_lTold p_lTold := ⟨flTold, _, FlTold, PySem.W.mg_of X G alTold, klTold, blTold⟩
  have FlMeets := fun_mk (st := s_lMeets) llMeets clMeets klMeets
  have blMeets := FlMeets.binds (ps := ["one", "others"]) fun _ _ _ _ _ _ us hl => match us, hl with | [_, _], _ => rfl
  let RlMeets : RawFn K mg "_law_meets" s_lMeets p_lMeets := ⟨flMeets, _, FlMeets, PySem.W.mg_of X G alMeets, klMeets, blMeets⟩
  have FsetOf := fun_mk (st := s_setOf) lsetOf csetOf ksetOf
  have bsetOf := FsetOf.binds (ps := ["letters", "value"]) fun _ _ _ _ _ _ us hl => match us, hl with | [_, _], _ => rfl
  let RsetOf : RawFn K mg "_set_of" s_setOf p_setOf := ⟨fsetOf, _, FsetOf, PySem.W.mg_of X G asetOf, ksetOf, bsetOf⟩
  have FsetsOf := fun_mk (st := s_setsOf) lsetsOf csetsOf ksetsOf
  have bsetsOf := FsetsOf.binds (ps := ["letters", "sets"]) fun _ _ _ _ _ _ us hl => match us, hl with | [_, _], _ => rfl
  let RsetsOf : RawFn K mg "_sets_of" s_setsOf p_setsOf := ⟨fsetsOf, _, FsetsOf, PySem.W.mg_of X G asetsOf, ksetsOf, bsetsOf⟩
  have FallSets := fun_mk (st := s_allSets) lallSets callSets kallSets
  have ballSets := FallSets.binds (ps := ["kinds"]) fun _ _ _ _ _ _ us hl => match us, hl with | [_], _ => rfl
  let RallSets : RawFn K mg "_all_sets" s_allSets p_allSets := ⟨fallSets, _, FallSets, PySem.W.mg_of X G aallSets, kallSets, ballSets⟩
  have Flacking := fun_mk (st := s_lacking) llacking clacking klacking
  have blacking := Flacking.binds (ps := ["kinds", "sets"]) fun _ _ _ _ _ _ us hl => match us, hl with | [_, _], _ => rfl
  let Rlacking : RawFn K mg "_lacking" s_lacking p_lacking := ⟨flacking, _, Flacking, PySem.W.mg_of X G alacking, klacking, blacking⟩
  have Fcompl := fun_mk (st := s_compl) lcompl ccompl kcompl
  have bcompl := Fcompl.binds (ps := ["kinds", "sets"]) fun _ _ _ _ _ _ us hl => match us, hl with | [_, _], _ => rfl
  let Rcompl : RawFn K mg "complement_sets" s_compl p_compl := ⟨fcompl, _, Fcompl, PySem.W.mg_of X G acompl, kcompl, bcompl⟩
  have Fmeeting := fun_mk (st := s_meeting) lmeeting cmeeting kmeeting
  have bmeeting := Fmeeting.binds (ps := ["kinds", "sets"]) fun _ _ _ _ _ _ us hl => match us, hl with | [_, _], _ => rfl
  let Rmeeting : RawFn K mg "meeting_sets" s_meeting p_meeting := ⟨fmeeting, _, Fmeeting, PySem.W.mg_of X G ameeting, kmeeting, bmeeting⟩
  have FlAns := fun_mk (st := s_lAns) llAns clAns klAns
  have blAns := FlAns.binds (ps := ["call", "kinds", "told"]) fun _ _ _ _ _ _ us hl => match us, hl with | [_, _, _], _ => rfl
  let RlAns : RawFn K mg "_law_answer" s_lAns p_lAns := ⟨flAns, _, FlAns, PySem.W.mg_of X G alAns, klAns, blAns⟩
  have FlBad := fun_mk (st := s_lBad) llBad clBad klBad
  have blBad := FlBad.binds (ps := ["well", "kinds", "told"]) fun _ _ _ _ _ _ us hl => match us, hl with | [_, _, _], _ => rfl
  let RlBad : RawFn K mg "_law_bad" s_lBad p_lBad := ⟨flBad, _, FlBad, PySem.W.mg_of X G alBad, klBad, blBad⟩
  have FlLaw := fun_mk (st := s_lLaw) llLaw clLaw klLaw
  have blLaw := FlLaw.binds (ps := ["script"]) fun _ _ _ _ _ _ us hl => match us, hl with | [_], _ => rfl
  let RlLaw : RawFn K mg "law" s_lLaw p_lLaw := ⟨fa, _, FlLaw, PySem.W.mg_of X G alLaw, klLaw, blLaw⟩
  refine ⟨PySem.W.fnOf "law" "law" (defArgs s_lLaw) (defBody s_lLaw) (defScope s_lLaw) .none kVlLaw dclLaw pmlLaw anlLaw cdlLaw ctlLaw, ?bind, fun base _ _ => ?run⟩
  case run =>
    let DisSeq : FD l.prog w K mg base (G65 CL fmeeting fcompl CE) "is_sequence" 1 p_isSeq WisSeq := (raw_isSeq T RisSeq ).weak mono_isSeq sp_isSeq
    let DliesIn : FD l.prog w K mg base (G65 CL fmeeting fcompl CE) "lies_in" 1 p_liesIn WliesIn := (raw_liesIn T RliesIn ).weak mono_liesIn sp_liesIn
    let DisSign : FD l.prog w K mg base (G65 CL fmeeting fcompl CE) "is_sign" 1 p_isSign WisSign := (raw_isSign T RisSign ).weak mono_isSign sp_isSign
    let DhaveCom : FD l.prog w K mg base (G65 CL fmeeting fcompl CE) "_have_common" 1 p_haveCom WhaveCom := (raw_haveCom T RhaveCom ).weak mono_haveCom sp_haveCom
    let DlDraw : FD l.prog w K mg base (G65 CL fmeeting fcompl CE) "_law_draw" 1 p_lDraw WlDraw := (raw_lDraw T RlDraw ).weak mono_lDraw sp_lDraw
    let DlWell : FD l.prog w K mg base (G65 CL fmeeting fcompl CE) "_law_well" 1 p_lWell WlWell := (raw_lWell T RlWell ).weak mono_lWell sp_lWell
    let DlOne : FD l.prog w K mg base (G65 CL fmeeting fcompl CE) "_law_one" 2 p_lOne WlOne := (raw_lOne T RlOne DlDraw).weak mono_lOne sp_lOne
    let DlSets : FD l.prog w K mg base (G65 CL fmeeting fcompl CE) "_law_sets" 1 p_lSets WlSets := (raw_lSets T RlSets ).weak mono_lSets sp_lSets
    let DlIn : FD l.prog w K mg base (G65 CL fmeeting fcompl CE) "_law_in" 1 p_lIn WlIn := (raw_lIn T RlIn ).weak mono_lIn sp_lIn
    let DlTold : FD l.prog w K mg base (G65 CL fmeeting fcompl CE) "_law_told" 3 p_lTold WlTold := (raw_lTold T RlTold DlOne DlDraw).weak mono_lTold sp_lTold
    let DlMeets : FD l.prog w K mg base (G65 CL fmeeting fcompl CE) "_law_meets" 1 p_lMeets WlMeets := (raw_lMeets T RlMeets ).weak mono_lMeets sp_lMeets
    let DsetOf : FD l.prog w K mg base (G65 CL fmeeting fcompl CE) "_set_of" 2 p_setOf WsetOf := (raw_setOf T RsetOf DisSign EL).weak mono_setOf sp_setOf
    let DsetsOf : FD l.prog w K mg base (G65 CL fmeeting fcompl CE) "_sets_of" 3 p_setsOf WsetsOf := (raw_setsOf T RsetsOf DisSeq DsetOf EL).weak mono_setsOf sp_setsOf
    let DallSets : FD l.prog w K mg base (G65 CL fmeeting fcompl CE) "_all_sets" 1 p_allSets WallSets := (raw_allSets T RallSets ).weak mono_allSets sp_allSets
    let Dlacking : FD l.prog w K mg base (G65 CL fmeeting fcompl CE) "_lacking" 3 p_lacking Wlacking := (raw_lacking T Rlacking DsetOf).weak mono_lacking sp_lacking
    let Dcompl : FD l.prog w K mg base (G65 CL fmeeting fcompl CE) "complement_sets" 4 p_compl Wcompl := (raw_compl T Rcompl DsetOf Dlacking DsetsOf).weak mono_compl sp_compl
    let Dmeeting : FD l.prog w K mg base (G65 CL fmeeting fcompl CE) "meeting_sets" 4 p_meeting Wmeeting := (raw_meeting T Rmeeting DsetOf DsetsOf DallSets DhaveCom DliesIn).weak mono_meeting sp_meeting
    have Ft : FDsB l.prog w K mg base (G65 CL fmeeting fcompl CE) 8 tab65 := by
      refine ⟨fun x n W f ht hf => ?_, fun x n W ht => ?_⟩
      · unfold tab65 at ht
        split at ht
        · rename_i e
          cases ht
          subst e
          have hf : some fmeeting = some f := hf
          cases hf
          exact ⟨_, _, _, rfl, by decide, Dmeeting.G, Dmeeting.kp, Dmeeting.b⟩
        · split at ht
          · rename_i e
            cases ht
            subst e
            have hf : some fcompl = some f := hf
            cases hf
            exact ⟨_, _, _, rfl, by decide, Dcompl.G, Dcompl.kp, Dcompl.b⟩
          · cases ht
      · unfold tab65 at ht
        split at ht
        · cases ht; exact mono_meeting
        · split at ht
          · cases ht; exact mono_compl
          · cases ht
    let AE : At mg (G65 CL fmeeting fcompl CE) "RuelessError" := ⟨CE, PySem.W.mg_of X G aE, rfl⟩
    let DlAns : FD l.prog w K mg base (G65 CL fmeeting fcompl CE) "_law_answer" 9 p_lAns WlAns := (raw_lAns T RlAns  Ft EL AE).weak mono_lAns (sp_lAns rfl rfl)
    let DlBad : FD l.prog w K mg base (G65 CL fmeeting fcompl CE) "_law_bad" 3 p_lBad WlBad := (raw_lBad T RlBad DlOne DlDraw).weak mono_lBad sp_lBad
    let KB : Kwb K (G65 CL fmeeting fcompl CE) Dmeeting.fd p_meeting ["sets", "kinds"] 0 [1, 0] [] := ⟨[], [], fun s as ws h1 h2 => match as, ws, h1, h2 with | [], [_, _], _, _ => .of_eq rfl, .nil, fun _ => rfl, by decide, rfl⟩
    let AM : At mg (G65 CL fmeeting fcompl CE) "meeting_sets" := ⟨fmeeting, PySem.W.mg_of X G ameeting, rfl⟩
    let AC : At mg (G65 CL fmeeting fcompl CE) "complement_sets" := ⟨fcompl, PySem.W.mg_of X G acompl, rfl⟩
    let DlLaw : FD l.prog w K mg base (G65 CL fmeeting fcompl CE) "law" 10 p_lLaw WlLaw := (raw_lLaw T RlLaw DlWell DlOne DlSets DlBad DlDraw DlTold DlMeets Dmeeting DlAns Dcompl DlIn KB AM AC).weak mono_lLaw (sp_lLaw (r7_ok r10_ok))
    exact fn_law DlLaw
  case bind => exact fun s v => .of_eq rfl
end K65
set_option autoImplicit true
set_option Elab.async false
open PySem PySem.W PyProof.Rows
set_option maxRecDepth 100000 in
set_option maxHeartbeats 0 in
theorem PySem.Challenge.cw_rueless_k65_least_sets_that_meet_holds : PySem.Challenge.rw_rueless_k65_least_sets_that_meet.Holds := by
  w_on; o_law; k_head; (case hw => w_witness2)
  k_fill
  refine My.walkG (l := PySem.Challenge.rw_rueless_k65_least_sets_that_meet) (n := 63) (k := 10) (x := "script") (sp := fun K => K65.spLaw K) rfl (by decide) rfl ⟨rfl, by decide, by decide⟩ (fun w h Y => PySem.W.kIn_of Y) ?F (fun K H a ns hl hS => ⟨a, ns, rfl, hS, fun _ => rfl⟩)
  case F =>
    intro w mg fa h KX G hmg
    refine' K65.all_mk KX G hmg ?aE ?aCL ?xLL ?xTL ?saL ?gaL ?ggL ?nbL ?a1L ?t1L ?l1L ?c1L ?kCL ?eCL ?tCL ?hCL ?iCL ?sLL ?sLE ?vLE ?tCE ?iCE ?haL ?hnO ?htO ?hmL ?cmb ?aisSeq ?lisSeq ?cisSeq ?kisSeq ?aliesIn ?lliesIn ?cliesIn ?kliesIn ?aisSign ?lisSign ?cisSign ?kisSign ?ahaveCom ?lhaveCom ?chaveCom ?khaveCom ?alDraw ?llDraw ?clDraw ?klDraw ?alWell ?llWell ?clWell ?klWell ?alOne ?llOne ?clOne ?klOne ?alSets ?llSets ?clSets ?klSets ?alIn ?llIn ?clIn ?klIn ?alTold ?llTold ?clTold ?klTold ?alMeets ?llMeets ?clMeets ?klMeets ?asetOf ?lsetOf ?csetOf ?ksetOf ?asetsOf ?lsetsOf ?csetsOf ?ksetsOf ?aallSets ?lallSets ?callSets ?kallSets ?alacking ?llacking ?clacking ?klacking ?acompl ?lcompl ?ccompl ?kcompl ?ameeting ?lmeeting ?cmeeting ?kmeeting ?alAns ?llAns ?clAns ?klAns ?alBad ?llBad ?clBad ?klBad ?alLaw ?llLaw ?clLaw ?klLaw ?g_KINDS ?r_KINDS ?z_abs ?z_all ?z_any ?z_int ?z_isinstance ?z_len ?z_list ?z_range ?z_repr ?z_sorted ?z_str ?z_tuple
    (case aE => k_is)
    (case aCL => k_is)
    (case xLL => k_is)
    (case xTL => first | rfl | decide +kernel | k_is)
    (case saL => k_is)
    (case gaL => k_is)
    (case ggL => k_is)
    (case nbL => k_is)
    (case a1L => k_is)
    (case t1L => k_is)
    (case l1L => k_is)
    (case c1L => k_is)
    (case kCL => k_is)
    (case eCL => k_is)
    (case tCL => k_is)
    (case hCL => k_is)
    (case iCL => k_is)
    (case sLL => first | rfl | k_is)
    (case sLE => first | rfl | k_is)
    (case vLE => first | rfl | decide +kernel)
    (case tCE => k_is)
    (case iCE => k_is)
    (case haL => k_is)
    (case hnO => k_is)
    (case htO => k_is)
    (case hmL => k_is)
    (case cmb => k_is)
    (case aisSeq => k_is)
    (case lisSeq => k_is)
    (case cisSeq => k_is)
    (case kisSeq => k_is)
    (case aliesIn => k_is)
    (case lliesIn => k_is)
    (case cliesIn => k_is)
    (case kliesIn => k_is)
    (case aisSign => k_is)
    (case lisSign => k_is)
    (case cisSign => k_is)
    (case kisSign => k_is)
    (case ahaveCom => k_is)
    (case lhaveCom => k_is)
    (case chaveCom => k_is)
    (case khaveCom => k_is)
    (case alDraw => k_is)
    (case llDraw => k_is)
    (case clDraw => k_is)
    (case klDraw => k_is)
    (case alWell => k_is)
    (case llWell => k_is)
    (case clWell => k_is)
    (case klWell => k_is)
    (case alOne => k_is)
    (case llOne => k_is)
    (case clOne => k_is)
    (case klOne => k_is)
    (case alSets => k_is)
    (case llSets => k_is)
    (case clSets => k_is)
    (case klSets => k_is)
    (case alIn => k_is)
    (case llIn => k_is)
    (case clIn => k_is)
    (case klIn => k_is)
    (case alTold => k_is)
    (case llTold => k_is)
    (case clTold => k_is)
    (case klTold => k_is)
    (case alMeets => k_is)
    (case llMeets => k_is)
    (case clMeets => k_is)
    (case klMeets => k_is)
    (case asetOf => k_is)
    (case lsetOf => k_is)
    (case csetOf => k_is)
    (case ksetOf => k_is)
    (case asetsOf => k_is)
    (case lsetsOf => k_is)
    (case csetsOf => k_is)
    (case ksetsOf => k_is)
    (case aallSets => k_is)
    (case lallSets => k_is)
    (case callSets => k_is)
    (case kallSets => k_is)
    (case alacking => k_is)
    (case llacking => k_is)
    (case clacking => k_is)
    (case klacking => k_is)
    (case acompl => k_is)
    (case lcompl => k_is)
    (case ccompl => k_is)
    (case kcompl => k_is)
    (case ameeting => k_is)
    (case lmeeting => k_is)
    (case cmeeting => k_is)
    (case kmeeting => k_is)
    (case alAns => k_is)
    (case llAns => k_is)
    (case clAns => k_is)
    (case klAns => k_is)
    (case alBad => k_is)
    (case llBad => k_is)
    (case clBad => k_is)
    (case klBad => k_is)
    (case alLaw => k_is)
    (case llLaw => k_is)
    (case clLaw => k_is)
    (case klLaw => k_is)
    (case g_KINDS => k_is)
    (case r_KINDS => first | exact ⟨_, rfl⟩ | rfl)
    (case z_abs => k_is)
    (case z_all => k_is)
    (case z_any => k_is)
    (case z_int => k_is)
    (case z_isinstance => k_is)
    (case z_len => k_is)
    (case z_list => k_is)
    (case z_range => k_is)
    (case z_repr => k_is)
    (case z_sorted => k_is)
    (case z_str => k_is)
    (case z_tuple => k_is)
#print axioms PySem.Challenge.cw_rueless_k65_least_sets_that_meet_holds
