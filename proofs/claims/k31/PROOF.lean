import PyProof.Rows.All
import Wide.All
import OpenK.AllK
import Wide.FinOn
import KE.GoesEnum
import HandS.ForMost
import HandS.Zip
import HandS.Walk
import HandS.Evl
import HandS.SortKw
import HandS.MakeKwOnly
import HandS.Conv
import HandS.TupLe
import HandS.TupAny
import KE.DataMinMax
import HandS.Codes
import HandS.TupSets
import HandS.More
import KE.KDictSum
import HandS.DictTup
import KE.KDictCopyH
import HandS.Deep
import HandS.ForExc
import KE.KExcInit
import HandS.Lambda
import HandS.Defaults
import KE.GoesMore
import HandS.TryMany
import HandS.EndTab
import HandS.IsInst
import HandS.OwnEq
import PyProof.ReprLen
import HandS.ExcIs
import KE.KExcIs
import HandS.Text
import HandS.Steps
import HandS.Style
import HandS.Replace
import PySem.Challenge.RW_rueless_k31_machines_made_and_walked
set_option autoImplicit true
set_option Elab.async false
set_option linter.all false
set_option maxRecDepth 100000
set_option maxHeartbeats 2000000
/-! enumerate over a tuple -/
namespace My
open PySem PySem.Spec PyProof.Rows L2
section
variable {prog : Program} {w : World} {A : Around} {E : Value → Shared → Prop} {s : Shared}
theorem drawsTup (hh : A.handled = none) (it l : Addr) (hne : l ≠ it) (items : Array Value) :
    Draws prog w A it [it, l] items.size (fun i v => items[i]? = some v) (fun i h => h.IsTupleIter it l i ∧ h.IsTuple l items) := by
  refine ⟨fun i h st => ?_, fun i h h' st hk => ?_, fun i s Q E hi st hQ => ?_, fun s Q E st hE => ?_⟩
  · obtain ⟨⟨o, ho, _⟩, _⟩ := st
    exact ⟨o, ho⟩
  · exact ⟨st.1.at fun o e => hk it (by simp) o e, st.2.at fun o e => hk l (by simp) o e⟩
  · have hx : items[i]? = some items[i] := by simp [hi]
    refine RZ.nextOf_tuple_item st.1 st.2 hx fun h' hit' sb => ?_
    exact hQ _ h' s.toks hx ⟨hit', st.2.at fun o e => (sb.2 l hne).trans e⟩ sb
  · exact RZ.nextOf_tuple_end hh st.1 st.2 (by simp) hE
theorem meetsEnumT {v : Value} {o : Obj} {Hh : Heap → Prop} (B : Begins v o Hh) :
    Meets (Builtin.«enumerate.__new__» ⟨[.type "enumerate", v], []⟩) (fun _ R s => Hh s.heap ∧
      R (.ok (.ret (.ref (s.heap.push o).objs.size))) { s with heap := (s.heap.push o).push { cls := .type "enumerate", data := .fields #[.none, .bool false, .ref s.heap.objs.size, rawInt 0, .none, .none] } }) :=
  .of_wp fun prog w A R s hyp => by
    obtain ⟨hp, g, d, tk, os⟩ := s
    obtain ⟨h1, hR⟩ := hyp
    have hsub := sub_enumerate
    have it1 : ∀ {A' : Around} {E : Value → Shared → Prop} {Q : Value → Shared → Prop}, Q (.ref hp.objs.size) ⟨hp.push o, g, d, tk, os⟩ → wpAny (model prog w) A' (pyIter v) Q E ⟨hp, g, d, tk, os⟩ :=
      fun q => B.iter prog w _ _ ⟨hp, g, d, tk, os⟩ _ h1 q
    wp_walk using it1
    refine wpAny_stack_any fun st => wpAny_pure ?_
    split
    · rename_i c _ _ _ _ _
      cases (c == Value.type "enumerate") <;> (wp_walk using it1; exact ⟨_, rfl, hR⟩)
    · wp_walk using it1
      exact ⟨_, rfl, hR⟩
theorem callEnumT {v : Value} {o : Obj} {Hh : Heap → Prop} {Q : Value → Shared → Prop} (B : Begins v o Hh) (h1 : Hh s.heap)
    (k : ∀ h', IsEnum h' (s.heap.objs.size + 1) s.heap.objs.size 0 .none → h'.get? s.heap.objs.size = some o →
      (∀ b o, s.heap.get? b = some o → h'.get? b = some o) → Q (.ref (s.heap.objs.size + 1)) { s with heap := h' }) :
    wpAny (model prog w) A (call (.type "enumerate") [v]) Q E s := by
  refine callType_new F.called_enumerate (by decide) (F.typeCall_enumerate_1 _) (F.newCall_enumerate_1 _) (fun obj => F.args_object_init_2 obj _) F.entry_enumerate_new (meetsEnumT B) ⟨h1, ?_⟩
  have sz : (s.heap.push o).objs.size = s.heap.objs.size + 1 := Heap.size_push ..
  show _ ∧ _
  rw [sz]
  have he := Heap.get?_push_size (s.heap.push o) (o := { cls := .type "enumerate", data := .fields #[.none, .bool false, .ref s.heap.objs.size, rawInt 0, .none, .none] }) rfl
  rw [sz] at he
  exact ⟨⟨_, he, rfl⟩, k _ he (Heap.get?_push_of_some _ (Heap.get?_push_size _ B.free)) fun b u q => Heap.get?_push_of_some _ (Heap.get?_push_of_some _ q)⟩
end
/-- a tuple's items, each in a new pair with its number -/
def IteT (K : PySem.W.Frag) (a : Addr) : It :=
  ⟨fun i H => ∃ (xs : List V) (x : V), SqT K H a xs ∧ xs[i]? = some x,
   fun i H v H' => ∃ T x, v = .ref T ∧ H T = none ∧ H' = upd H T (.tup [.int (i : Nat), x]) ∧ ∀ xs, SqT K H a xs → xs[i]? = some x,
   fun i H => ∃ xs : List V, SqT K H a xs ∧ xs.length ≤ i⟩
theorem turnEnumT {P : Program} {w : World} {K : PySem.W.Frag} {elts : List Expr} {kk : Nat} {tpos : Pos} (a e it : Addr) :
    Turn P w K (.Tuple elts kk tpos) (IteT K a) [e, it] e (fun i h => (∃ old, IsEnum h e it ((i : Nat) : Int) old) ∧ h.IsTupleIter it a i ∧ e ≠ it ∧ a ≠ it ∧ a ≠ e) where
  mem := by simp
  obj := fun i h st b hb => by
    obtain ⟨⟨old, he⟩, ⟨o, ho, _, hd⟩, _⟩ := st
    rcases (by simpa using hb : b = e ∨ b = it) with z | z
    · rw [z]
      exact ⟨_, he, fun v q => nomatch q⟩
    · rw [z]
      exact ⟨o, ho, fun v q => by rw [hd] at q; cases q⟩
  keep := fun i h h' st k => by
    obtain ⟨⟨old, he⟩, hi, n1, n2, n3⟩ := st
    exact ⟨⟨old, k e (by simp) _ he⟩, hi.at fun o q => k it (by simp) o q, n1, n2, n3⟩
  item := by
    intro X hP hw hK hc i pins s σ H E I hf st hg
    subst hP hw hK
    obtain ⟨⟨old, he⟩, hit, hne, hna, hnae⟩ := st
    obtain ⟨xs, x, hq, hx⟩ := hg
    obtain ⟨its, rv, p, _⟩ := I.tuple hq
    obtain ⟨u, hu, ru⟩ := rv.get hx
    have lt1 : e < s.heap.objs.size := Heap.lt_size he
    have lt2 : it < s.heap.objs.size := by
      obtain ⟨_, q, _⟩ := hit
      exact Heap.lt_size q
    have hui : its.toArray[i]? = some u := by simpa using hu
    have hlt : i < its.toArray.size := by
      obtain ⟨h1, _⟩ := Array.getElem?_eq_some_iff.mp hui
      exact h1
    refine wpAny_pyNext_enum_itemD (drawsTup (A := X.A.in1) (I.ok.hd hc) it a hna its.toArray) he ⟨hit, p⟩ hlt hne (by simp [hne, Ne.symm hnae]) fun u' h' tk hu' ho st' hT sz hk => ?_
    have eu : u' = u := Option.some.inj (hu'.symm.trans hui)
    subst eu
    refine ⟨_, rfl, wpAny_letOwnedTupleGo_enum (s := { s with heap := h', toks := tk + 1 }) ho fun h'' he' sb => ?_⟩
    have hT2 : h''.get? s.heap.objs.size = some { cls := .type "tuple", data := .seq #[.int i tk, u'] } := (sb.2 _ (Nat.ne_of_gt lt1)).trans hT
    have new : ObjOk X.prog X.w (upd H s.heap.objs.size (.tup [.int (i : Nat), x])) h'' s.heap.objs.size (.tup [.int (i : Nat), x]) :=
      ⟨by show 2 ≤ sizeLine; decide, [.int i tk, u'], .cons ⟨_, rfl⟩ (.cons ru .nil), ⟨_, hT2, rfl, _, rfl⟩⟩
    have I1 : Inv X pins σ (upd H s.heap.objs.size (.tup [.int (i : Nat), x])) { s with heap := h'', toks := tk + 1 } :=
      I.turnedNew (ch := [e, it]) (fun b ob hb q => (sb.2 b (fun z => hb (by simp [z]))).trans (hk b ob (fun z => hb (by simp [z])) (fun z => hb (by simp [z])) q)) hf (Nat.le_refl _) new
    refine ⟨.ref s.heap.objs.size, _, I1, rfl, ⟨_, x, rfl, I.hok.fresh (Nat.le_refl _), rfl, fun ys hy => by rw [I.tuple_inj hy hq]; exact hx⟩, ⟨⟨u', ?_⟩, st'.1.at fun o q => (sb.2 it (Ne.symm hne)).trans q, hne, hna, hnae⟩, fun b hb => ?_⟩
    · have e1 : ((i + 1 : Nat) : Int) = (i : Int) + 1 := by omega
      rw [e1]
      exact he'
    · have lt3 : b < s.heap.objs.size := by
        rcases (by simpa using hb : b = e ∨ b = it) with z | z
        · rw [z]; exact lt1
        · rw [z]; exact lt2
      rw [upd_ne (Nat.ne_of_lt lt3)]
      exact (hf b hb).1
  done := by
    intro X hP hw hK hc i pins s σ H E I hf st hg
    subst hP hw hK
    obtain ⟨⟨old, he⟩, hit, hne, hna, hnae⟩ := st
    obtain ⟨xs, hq, hx⟩ := hg
    obtain ⟨its, rv, p, _⟩ := I.tuple hq
    obtain ⟨f0, f1, f2, f3, f4, f5⟩ := hf it (by simp)
    have hl := rv.length
    have hcase : its.toArray[i]? = none := by
      rw [Array.getElem?_eq_none_iff]
      simp
      omega
    unfold pyNext
    have hTy : s.TypeIs (.ref e) "enumerate" := ⟨_, he, rfl⟩
    refine wpAny_bind (wpAny_attempt (wpAny_callSpecial?_slot (name := Str.ofString "__next__") hTy F.slot_enumerate_next
      (wpAny_call_entry F.slot_enumerate_next hTy F.entry_enumerate_next ?_ (F.args_enumerate_next_1 _))))
    show wpAny _ _ (field (.ref e) 2 >>= _) _ _ _
    refine wpAny_bind (wpAny_field he rfl (x := .ref it) rfl ?_)
    refine wpAny_bind (RZ.nextOf_tuple_end (show X.A.in1.handled = none from I.ok.hd hc) hit p hcase fun h' x he' hx' => ?_)
    obtain ⟨o, ho, hcl⟩ := hx'
    refine wpAny_bind (wpAny_isInstance (T := "StopIteration") (b := true) ⟨o, ho, hcl⟩ isSubtype_stop ?_)
    exact wpAny_pure ⟨rfl, I.turned (t' := s.toks) (fun b o hb q => he' b o hb q) f0 f1 f3 f4 f5⟩
  self := fun A i s Q E st h => by
    obtain ⟨⟨_, he⟩, _⟩ := st
    exact wpAny_pyIter_enum he h
def iEnumT (K : PySem.W.Frag) (ta : TA) : TI := fun σ H R => ta σ H fun vs H1 => ∃ a xs, vs = [.ref a] ∧ SqT K H1 a xs ∧ R (IteT K a) H1
theorem pi_enumT {X : Cx} {e : Expr} {ta : TA} {p pos tpos : Pos} {elts : List Expr} {kk : Nat} (hg : Gl X "enumerate") (hm : X.mg "enumerate" = none) (ha : PA X [e] ta) (hs : starEach [e] X.env = [(false, eval e X.env)] := by rfl) :
    PI X (.Tuple elts kk tpos) (.Call (.Name "enumerate" p) [e] [] pos) (iEnumT X.K ta) := by
  refine ⟨fun pins s σ H R I h => ?_⟩
  refine Call_ (ld_blt I hg hm boot_enumerate (PyProof.Rows.callWith_type1 (thn (ha.run pos pins s σ H _ I h) fun us s1 ⟨vs, H1, I1, r1, q1⟩ => ?_) hs rfl))
  obtain ⟨a, xs, ex, hq, q⟩ := q1
  subst ex
  cases r1 with
  | cons r rr =>
    cases rr
    cases r
    obtain ⟨its, rv, p', _⟩ := I1.tuple hq
    have la : a < s1.heap.objs.size := by
      obtain ⟨_, q0, _⟩ := p'
      exact Heap.lt_size q0
    refine callEnumT (begins_tuple a its.toArray) p' fun h' he hit hk => wpAny_pyIter_enum he ?_
    have I2 : Inv X pins σ H1 { s1 with heap := h' } := I1.kept (t' := s1.toks) hk
    refine ⟨s1.heap.objs.size + 1, [s1.heap.objs.size + 1, s1.heap.objs.size], _, _, H1, rfl, I2, turnEnumT a (s1.heap.objs.size + 1) s1.heap.objs.size, ⟨⟨.none, he⟩, ⟨_, hit, rfl, rfl⟩, Nat.succ_ne_self _, Nat.ne_of_lt la, Nat.ne_of_lt (Nat.lt_succ_of_lt la)⟩, fun b hb => ?_, q⟩
    have hle : s1.heap.objs.size ≤ b := by
      rcases (by simpa using hb : b = s1.heap.objs.size + 1 ∨ b = s1.heap.objs.size) with z | z
      · rw [z]; exact Nat.le_add_right _ _
      · rw [z]; exact Nat.le_refl _
    exact I1.fpOk hle (I1.hok.fresh hle)
theorem walk_enumT {K : PySem.W.Frag} {a : Addr} {xs : List V} : Walk (IteT K a) xs.length (fun H => SqT K H a xs) (YPair (fun i => some (.int (i : Nat))) (fun i => xs[i]?)) := by
  refine ⟨fun i H hi q => ⟨xs, _, q, List.getElem?_eq_getElem hi⟩, fun H q => ⟨xs, q, Nat.le_refl _⟩, fun i H x H' hi q y => ?_⟩
  obtain ⟨T, x', rfl, hT, rfl, f⟩ := y
  exact ⟨T, _, x', rfl, hT, rfl, rfl, f xs q⟩
end My
set_option autoImplicit true
set_option Elab.async false
set_option linter.all false
set_option maxRecDepth 100000
set_option maxHeartbeats 2000000
/-! rules that the layer lacks: an item read for xs[i] op= e, max with a default, repr of data, a def that runs where nothing is guarded -/
namespace My
open PySem PySem.Spec PyProof.Rows L2
section
variable {X : Cx}
/-- xs[i] of a tracked list, i a place -/
def gL : V → V → Hp → VK → Prop := fun o i H Q => ∃ (p : Addr) (xs : List V) (j : Nat) (v : V), o = .ref p ∧ i = .int (j : Int) ∧ H p = some (.lst xs) ∧ xs[j]? = some v ∧ Q v H
theorem pgetL : PGet X gL := by
  intro pins s σ H o i ov iv Q I ro ri h
  obtain ⟨p, xs, j, v, rfl, rfl, hp, hx, q⟩ := h
  cases ro
  obtain ⟨t, rfl⟩ := ri
  obtain ⟨its, rv, pl, hz⟩ := I.list (SqL.of (K := X.K) hp)
  obtain ⟨u, hu, ru⟩ := rv.get hx
  have hj : j < xs.length := (List.getElem?_eq_some_iff.mp hx).1
  have line : (sizeLine : Int) < 2 ^ 63 := by decide
  have hi : its.toArray[(j : Int).toNat]? = some u := by simpa using hu
  exact wpAny_getItem_list pl.isList (Int.natCast_nonneg j) (by omega) hi ⟨v, H, I, ru, q⟩
/-- max(xs, default=d) of ints -/
def rMaxD (K : PySem.W.Frag) : List V → List V → Hp → VK → Prop := fun xs zs H Q => ∃ (a : Addr) (ns : List Int) (d : Int), xs = [.ref a] ∧ zs = [.int d] ∧ SqL K H a (ns.map V.int) ∧
  Q (.int (match ns with | [] => d | n :: r => r.foldl max n)) H
theorem dpInts {K : PySem.W.Frag} {H : Hp} : ∀ ns : List Int, DpAll K H (ns.map V.int) (ns.map PyData.int)
  | [] => .nil
  | n :: r => .cons (.int n) (dpInts r)
theorem alikeInts (ns : List Int) : PySem.W.AlikeAll (ns.map PyData.int) := by
  refine ⟨fun x hx y hy => ?_, fun x hx e => ?_⟩
  · obtain ⟨i, _, rfl⟩ := List.mem_map.mp hx
    obtain ⟨j, _, rfl⟩ := List.mem_map.mp hy
    rfl
  · obtain ⟨i, _, rfl⟩ := List.mem_map.mp hx
    cases e
theorem depthInts : ∀ ns : List Int, PyData.depthAll (ns.map PyData.int) = 0
  | [] => rfl
  | n :: r => by
    show max (PyData.depth (.int n)) (PyData.depthAll (r.map PyData.int)) = 0
    rw [depthInts r]
    rfl
theorem cr_maxD (hc : X.calm = true) (hu : X.A.units + 64 < cLine) : CallRK X (.builtin "max") ["default"] (rMaxD X.K) := by
  intro pins s σ H xs zs us ws Q I r rz h
  obtain ⟨a, ns, d, rfl, rfl, hs, q⟩ := h
  obtain ⟨u, rfl, t, rfl⟩ := vals1 rz
  obtain ⟨its, rv, pl, _⟩ := I.list hs
  rw [Vals.ref1 r]
  obtain ⟨as, hr⟩ := Dp.readsAll I _ _ its (dpInts ns) rv
  refine PySem.W.max_list_default (I.ok.hd hc) pl.isList (by simpa using hr) (alikeInts ns) (by rw [depthInts]; omega) (fun e h' tk hk => ?_) (fun y ys i v h' tk bs e hv hrd hk => ?_)
  · have e0 : ns = [] := by simpa using e
    subst e0
    exact ⟨.int d, H, I.kept hk, ⟨_, rfl⟩, q⟩
  · cases ns with
    | nil => cases e
    | cons n r0 =>
      injection e with e1 e2
      subst e1 e2
      rw [PySem.W.maxD_ints] at hrd
      cases hrd
      exact ⟨.int _, H, I.kept hk, ⟨_, rfl⟩, q⟩
/-- repr of data -/
def rRepr (K : PySem.W.Frag) : List V → Hp → VK → Prop := fun xs H Q => ∃ (v : V) (d : PyData), xs = [v] ∧ Dp K H v d ∧ isDisplay d = true ∧ d.showable = true ∧ d.hasDict = false ∧ d.depth ≤ 60 ∧ d.shown.length ≤ sizeLine ∧ Q (.str d.shown) H
theorem cr_repr (hg : X.A.guards = some []) (hu : X.A.units + 64 < cLine) : CallR X (.builtin "repr") (rRepr X.K) := by
  intro pins s σ H xs us Q I r h
  obtain ⟨v, d, rfl, hd, hdis, hsh, hnd, hdep, hlen, q⟩ := h
  obtain ⟨u, rfl, ru⟩ := vals1 r
  obtain ⟨as, rd⟩ := Dp.reads I d v u hd ru
  obtain ⟨a, rfl⟩ := isRef_of_reads rd hdis
  exact repr_of_reads' rd hsh (PyData.noDict_hsm hnd) hg (by omega) (fun _ _ e => e) (fun h' t tk hk => ⟨.str d.shown, H, I.kept hk, ⟨_, rfl⟩, q⟩) hlen
end
end My
set_option autoImplicit true
set_option Elab.async false
set_option linter.all false
set_option maxRecDepth 100000
set_option maxHeartbeats 2000000
/-! a def that is run where no guard stands (repr asks it): its promise, its call, the end of a law's row -/
namespace My
open PySem PySem.Spec PyProof.Rows L2
/-- as FnOk, asked only where no guard stands around -/
structure FnG (P : Program) (w : World) (K : PySem.W.Frag) (mg : Str → Option Value) (base : Heap) (CX : CXT) (k : Nat) (f : Addr) (fd : FuncData) (ps : List Str) (sp : Sp) : Prop where
  len : ∀ vs H Q E, sp vs H Q E → vs.length = ps.length
  run : ∀ (A : Around) (outer : List Env) (s : Shared) (H : Hp) (args : Args) (us : List Value) (vs : List V) (Q : VK) (E : XK), A.guards = some [] → Room k A → Env0 P w K mg base A outer s H → BindsTo s fd args (ps.zip us) → Vals vs us →
    sp vs H Q E → codeAny (model P w) A (.call (.ref f) args) (CR CX outer P w H s Q E) s
section
variable {P : Program} {w : World} {K : PySem.W.Frag} {mg : Str → Option Value} {base : Heap}
theorem okG {x qual : Str} {st : Stmt} {f : Addr} {fd : FuncData} {N ps : List Str} {k : Nat} {sp : Sp} (F : Fun K x qual st f fd) (S : FnScope N ps (defScope st)) (len : ∀ vs H Q E, sp vs H Q E → vs.length = ps.length)
    (hbody : ∀ (cdv : Value) (A : Around) (outer : List Env) (s : Shared) (H : Hp) (vs : List V) (Q : VK) (E : XK), A.guards = some [] → Room k (A.deeper (envOfC qual (defScope st) s.heap.objs.size f cdv)) → sp vs H Q E →
      ∃ t, PSs (cxOf CX0 P w K mg base N qual (defScope st) f cdv A outer s H E).nox (defBody st) t ∧ t { nx := fun _ H' => Q .non H', rt := Q } (start N vs) H) : FnG P w K mg base CX0 (k + 1) f fd ps sp := by
  obtain ⟨oc, od, kV, doc, pm, an, cdv, ct, osl, rfl, lk, hcd⟩ := F.ex
  refine ⟨len, fun A outer s H args us vs Q E gd hr e0 hb r hsp => ?_⟩
  have same := e0.bs
  have KX : K.In s.heap := e0.mod.kin.keeps fun b o e => (same b o e).1
  have lim : s.heap.NoLimit := e0.mod.nolimit.keeps fun b o e => (same b o e).1
  have nl := len _ _ _ _ hsp
  have kinds : ∀ y ∈ ps.zip us, (defScope st).names.lookup y.1 = some .local ∨ ((defScope st).names.lookup y.1 = some .cell ∧ ((cellsFrom (s.heap.objs.size + 1) (defScope st).names []).lookup y.1).isSome = true) := by
    rintro ⟨n, v⟩ hy
    have hn := S.par n (List.of_mem_zip hy).1
    exact hn.imp id fun q => ⟨q, PySem.W.cellsFrom_some _ _ _ (.inl q)⟩
  refine codeAny_call_function hr.depth (KX _ _ lk) rfl S.co S.gen rfl (PySem.W.codeRec_of KX hcd) (hb _ _ _ _ ?_)
  refine wpAny_newFunctionEnv_cells S.kind kinds fun env he s1 x => ?_
  subst he
  refine ⟨lim.keeps x.toInCall.keep, codeAny_func ?_⟩
  obtain ⟨t, ht, hq⟩ := hbody cdv A outer s H vs Q E gd (hr.deeper _) hsp
  have I : Inv (cxOf CX0 P w K mg base N qual (defScope st) f cdv A outer s H E) [] (start N vs) H s1 := inv_start S hr.hd e0 nl r x
  refine wpAny_mono (ht.nox.run [] s1 (start N vs) H _ I hq) (fun fl s' hs => ?_) fun e s' hs => hs
  cases fl with
  | ret u =>
    obtain ⟨v, σ', H', J, rv, q⟩ := hs
    exact ⟨v, H', J.os, J.bare, J.base, J.hok, rv, q⟩
  | next =>
    obtain ⟨σ', H', J, q⟩ := hs
    exact ⟨.non, H', J.os, J.bare, J.base, J.hok, rfl, q⟩
  | brk =>
    obtain ⟨_, _, _, q⟩ := hs
    exact q.elim
  | cont =>
    obtain ⟨_, _, _, q⟩ := hs
    exact q.elim
end
section
variable {X : Cx} {CX : CXT} {k : Nat} {f : Addr} {fd : FuncData} {ps : List Str} {sp : Sp} {dvs : List V} {ds : List Value} {E : XK} {x : Str} {p pos : Pos} {e : Expr} {es : List Expr} {t : TA}
theorem runG {pins : List (Addr × Obj)} {σ : L2.St} {H : Hp} {s : Shared} {Q : VK} {us : List Value} {vs : List V} (F : FnG X.prog X.w X.K X.mg X.base CX k f fd ps sp) (gd : X.A.guards = some []) (hr : Room k X.A) (hb : Binds X.K fd ps ds) (hd : Vals dvs ds)
    (hx : Passes CX X E) (I : Inv X pins σ H s) (r : Vals vs us) (h : sp (vs ++ dvs) H Q E) : wpAny (model X.prog X.w) X.A (call (.ref f) us) (EP X pins σ Q) X.xe s := by
  have r2 : Vals (vs ++ dvs) (us ++ ds) := r.append hd
  have hl : (us ++ ds).length = ps.length := r2.length.symm.trans (F.len _ _ _ _ h)
  refine wpAny_call (codeAny_mono (F.run X.A X.stack s H ⟨us, []⟩ (us ++ ds) (vs ++ dvs) Q E gd hr I.env0 (hb s us I.kIn hl) r2 h) fun r s' hq => ?_)
  match r, hq with
  | .error e, hq => exact hx pins σ H s e s' I hq
  | .ok (.ret u), hq => exact I.after hq
  | .ok .next, hq => exact False.elim hq
  | .ok .brk, hq => exact False.elim hq
  | .ok .cont, hq => exact False.elim hq
theorem pe_callG1 (F : FnG X.prog X.w X.K X.mg X.base CX k f fd ps sp) (gd : X.A.guards = some []) (hr : Room k X.A) (hg : Gl X x) (hm : X.mg x = some (.ref f)) (hk : PySem.W.keepIn X.K (.ref f) = true) (hb : Binds X.K fd ps ds) (hd : Vals dvs ds) (hx : Passes CX X E)
    (ha : PA X (e :: es) t) (hs : starEach (e :: es) X.env = (false, eval e X.env) :: starEach es X.env := by rfl) (hpl : (backTo pos (starEach es X.env)).any (·.1) = false := by rfl) (hdb : (x == ("__debug__" : Str)) = false := by decide) :
    PE X (.Call (.Name x p) (e :: es) [] pos) (tCall sp dvs E t) := by
  refine ⟨fun pins s σ H Q I h => ?_⟩
  refine wpAny_Call_Name_kw (ld_glob I hg hm ?_ hdb)
  refine PySem.W.callWith_K (h₀ := X.base) I.ok.mod.kin hk (thn (ha.run pos pins s σ H _ I h) fun us s1 ⟨vs, H1, I1, r1, q1⟩ => ⟨I1.kIn, ?_⟩) hs hpl
  exact runG F gd hr hb hd hx I1 r1 q1
end
end My
set_option autoImplicit true
set_option Elab.async false
set_option linter.all false
set_option maxRecDepth 100000
set_option maxHeartbeats 2000000
namespace My
open PySem PySem.Spec PyProof.Rows L2
/-! ### the end of a row whose law is run where no guard stands -/
theorem lawG {P : Program} {w : World} {K : PySem.W.Frag} {mg mb : Str → Option Value} {k : Nat} {fa a : Addr} {fd : FuncData} {x : Str} {sp : Sp} {s1 : Shared} {vs : List Value} {ns : List Int}
    (KX : K.In s1.heap) (hns : s1.heap.Ns mainGlobals mg) (hb : s1.heap.Ns builtinsNs mb) (hbb : ∀ x : Str, x ≠ "__name__" → mb x = bootBuiltins x) (hlim : s1.heap.NoLimit) (hgen : s1.gens = #[])
    (ha : s1.heap.get? a = some { cls := .type "list", data := .seq vs.toArray }) (hi : IntsAre vs ns) (hl : ns.length ≤ sizeLine) (hr : Room k callerA)
    (F : ∀ base : Heap, K.In base → base.Ns mainGlobals mg → FnG P w K mg base CX0 k fa fd [x] sp) (hbind : ∀ (s : Shared) (u : Value), BindsTo s fd ⟨[u], []⟩ [(x, u)])
    (hsp : ∀ H : Hp, Only H → SqL K H a (ns.map V.int) → sp [.ref a] H (fun v _ => v = .bl true) fun _ _ _ => False) :
    codeAny (model P w) callerA (.call (.ref fa) ⟨[.ref a], []⟩) (fun r s' => r = .ok (.ret (.bool true)) ∧ OldK s1.heap s'.heap ∧ s'.os = s1.os ∧ AllBare s'.gens) s1 := by
  have rv := vals_ints hi
  have nV := hi.length
  have main : ∀ H : Hp, Only H → SqL K H a (ns.map V.int) → HOk P w H s1.heap → (∀ b, H b ≠ none → b = a) → (H a ≠ none → K.lookup a = none) →
      codeAny (model P w) callerA (.call (.ref fa) ⟨[.ref a], []⟩) (fun r s' => r = .ok (.ret (.bool true)) ∧ OldK s1.heap s'.heap ∧ s'.os = s1.os ∧ AllBare s'.gens) s1 := by
    intro H hO hS hok hA hK
    have hid : ∀ {b : Addr} {o : Obj}, s1.heap.get? b = some o → H b = none → (hidT s1.heap H).get? b = some o := fun e n => hidT_get e n
    have free : ∀ {b : Addr} {o : Obj}, s1.heap.get? b = some o → (b = a → False) → H b = none := fun {b o} e d => by
      cases q : H b with
      | none => rfl
      | some u => exact (d (hA b (by rw [q]; simp))).elim
    have dictFree : ∀ {b : Addr} {o : Obj} {es : Array DictEntry} {ep : Nat}, s1.heap.get? b = some o → o.data = .dict es ep → H b = none := fun {b o es ep} e d => free e fun z => by
      subst z
      rw [ha] at e
      cases e
      cases d
    have nsB : ∀ {b : Addr} {m : Str → Option Value}, s1.heap.Ns b m → (hidT s1.heap H).Ns b m := fun {b m} q => by
      obtain ⟨o, es, ep, e, d, r⟩ := q
      exact ⟨o, es, ep, hid e (dictFree e d), d, r⟩
    have kinB : K.In (hidT s1.heap H) := fun b o e => hid (KX b o e) (by
      cases q : H b with
      | none => rfl
      | some u =>
        have z : b = a := hA b (by rw [q]; simp)
        subst z
        rw [hK (by rw [q]; simp)] at e
        cases e)
    have limB : (hidT s1.heap H).NoLimit := by
      obtain ⟨mc, h1, h2⟩ := hlim
      exact ⟨mc, nsB h1, h2⟩
    have e0 : Env0 P w K mg (hidT s1.heap H) callerA [] s1 H := by
      refine ⟨rfl, ⟨kinB, nsB hns, ⟨mb, nsB hb, hbb⟩, limB⟩, fun b o e => of_hidT e, Nat.le_of_eq (hidT_size _ _), trivial, fun b hb' => ?_, hok, .of_eq hgen⟩
      cases hb'
    refine codeAny_mono ((F _ kinB (nsB hns)).run callerA [] s1 H ⟨[.ref a], []⟩ [.ref a] [.ref a] _ _ rfl hr e0 (hbind s1 (.ref a)) (.cons rfl .nil) (hsp H hO hS)) fun r s' h => ?_
    match r, h with
    | .error e, h => exact (show False from h).elim
    | .ok .next, h => exact (show False from h).elim
    | .ok .brk, h => exact (show False from h).elim
    | .ok .cont, h => exact (show False from h).elim
    | .ok (.ret u), h =>
      obtain ⟨v, H', os, bare, un, hok', r', q⟩ := h
      have q' : v = .bl true := q
      subst q'
      obtain rfl : u = Value.bool true := r'
      refine ⟨rfl, OldK.of_keep fun b o e => ?_, os, bare⟩
      cases q : H b with
      | none => exact un.keep b o e q (fun z => by cases z) (fun z => by cases z)
      | some u =>
        rcases hO b with z | ⟨ob, xs, z⟩
        · rw [q] at z
          cases z
        · obtain ⟨e1, _⟩ := hok b _ z
          obtain ⟨e2, _⟩ := hok' b _ (un.frzs b ob _ z)
          rw [e] at e1
          cases e1
          exact e2
  cases hk : K.lookup a with
  | some o =>
    have e := KX a o hk
    rw [ha] at e
    cases e
    refine main (fun _ => none) (fun _ => .inl rfl) (.inr ⟨_, vs.toArray, _, hk, rfl, rfl, rfl, by rw [List.size_toArray, nV]; exact hl, by simpa using rv⟩) (fun b u z => by cases (show (none : Option HO) = some u from z)) (fun b z => absurd rfl z) fun z => absurd rfl z
  | none =>
    have at_a : ∀ b, b = a → (if b = a then some (HO.frz { cls := .type "list", data := .seq vs.toArray } (.lst (ns.map V.int))) else none) = some (HO.frz { cls := .type "list", data := .seq vs.toArray } (.lst (ns.map V.int))) := fun b h => if_pos h
    refine main (fun b => if b = a then some (.frz { cls := .type "list", data := .seq vs.toArray } (.lst (ns.map V.int))) else none) (fun b => ?_) (.inl (.inr ⟨_, at_a a rfl⟩)) (fun b u z => ?_) (fun b z => ?_) fun _ => hk
    · by_cases hb' : b = a
      · exact .inr ⟨_, _, at_a b hb'⟩
      · exact .inl (if_neg hb')
    · by_cases hb' : b = a
      · cases (at_a b hb').symm.trans z
        subst hb'
        exact ⟨ha, by rw [List.length_map]; exact hl, vs, _, rv, ha⟩
      · cases (if_neg hb').symm.trans z
    · exact Classical.byContradiction fun hb' => z (if_neg hb')
theorem walkG {l : PySem.W.OpenLaw} {n k : Nat} {q : Program} {loose : List Str} {XP : (Str → Option Value) → Heap → Prop} {YP : World → Heap → Prop} {d : DefRec} {K : Params → PySem.W.Frag} {sp : PySem.W.Frag → Sp} {x : Str}
    (hn : l.most = some n) (hn2 : n ≤ sizeLine) (hdf : d.params.defaults = []) (hr : Room k callerA) (hY : ∀ (w : World) (h : Heap), YP w h → (K w.params).In h)
    (F : ∀ (w : World) (mg : Str → Option Value) (fa : Addr) (h : Heap), (K w.params).In h → h.Ns mainGlobals mg → mg d.name = some (.ref fa) →
      ∃ fd : FuncData, (∀ (s : Shared) (u : Value), BindsTo s fd ⟨[u], []⟩ [(x, u)]) ∧ ∀ base : Heap, (K w.params).In base → base.Ns mainGlobals mg → FnG l.prog w (K w.params) mg base CX0 k fa fd [x] (sp (K w.params)))
    (hsp : ∀ (K : PySem.W.Frag) (H : Hp) (a : Addr) (ns : List Int), ns.length ≤ n → SqL K H a (ns.map V.int) → sp K [.ref a] H (fun v _ => v = .bl true) fun _ _ _ => False) :
    PySem.W.WalkO q loose XP YP l.row.toRowW d [] (fun f vs => PySem.call f vs) := by
  refine Att.attach_call hn hdf fun w s0 s1 mg mb fa o pm cd doc a vs ns G Y ho hd hcd hmg hobj hints hlen hgen => ?_
  have KX := hY w _ Y
  obtain ⟨fd, hb, hF⟩ := F w mg fa _ KX G.T.g hmg
  exact lawG KX G.T.g G.T.b G.T.builtins G.T.nolimit hgen hobj hints (Nat.le_trans hlen hn2) hr hF hb fun H _ hS => hsp _ H a ns hlen hS
end My
set_option Elab.async false
set_option linter.all false
set_option autoImplicit false
set_option maxRecDepth 100000
set_option maxHeartbeats 2000000
namespace My
open PySem PySem.Spec PyProof.Rows L2 Evl
/-! ### what is new in H', seen from H -/
def nw (H H' : Hp) : Hp := fun b => if (H b).isSome = true then none else H' b
theorem nw_none {H H' : Hp} {b : Addr} (h : H b = none) : nw H H' b = H' b := by
  unfold nw
  rw [h]
  rfl
theorem nw_some {H H' : Hp} {b : Addr} {o : HO} (h : H b = some o) : nw H H' b = none := by
  unfold nw
  rw [h]
  rfl
theorem nw_get {H H' : Hp} {b : Addr} {o : HO} (h : nw H H' b = some o) : H b = none ∧ H' b = some o := by
  cases e : H b with
  | none => exact ⟨rfl, (nw_none e).symm.trans h⟩
  | some u => rw [nw_some e] at h; cases h
theorem nw_ex {H H' : Hp} : Ex (nw H H') H' := fun _ _ h => (nw_get h).2
theorem nw_grow {H H1 H2 : Hp} (e : Ex H1 H2) : Ex (nw H H1) (nw H H2) := fun b o h => by
  obtain ⟨h1, h2⟩ := nw_get h
  rw [nw_none h1]
  exact e b o h2
theorem nw_back {H H1 H2 : Hp} (e : Ex H H1) : Ex (nw H1 H2) (nw H H2) := fun b o h => by
  obtain ⟨h1, h2⟩ := nw_get h
  rw [nw_none (fresh_back e h1)]
  exact h2
theorem nw_upd {H H' : Hp} {p : Addr} {o : HO} (h : H p = none) : nw H (upd H' p o) p = some o := by
  rw [nw_none h, upd_same]
/-- an object that H knows is written: what is new stays -/
theorem nw_old {H H' : Hp} {p : Addr} {o u : HO} (h : H p = some u) : Ex (nw H H') (nw H (upd H' p o)) := fun b w hb => by
  obtain ⟨h1, h2⟩ := nw_get hb
  rw [nw_none h1, upd_ne]
  · exact h2
  · rintro rfl
    rw [h] at h1
    cases h1
/-! ### data -/
mutual
theorem dp_ex {K : PySem.W.Frag} {H H' : Hp} (e : Ex H H') : ∀ {v : V} {d : PyData}, Dp K H v d → Dp K H' v d
  | _, _, .non => .non
  | _, _, .bl b => .bl b
  | _, _, .int i => .int i
  | _, _, .str x => .str x
  | _, _, .lst h t => .lst (ex_l e h) (dpAll_ex e t)
  | _, _, .tup h t => .tup (ex_t e h) (dpAll_ex e t)
theorem dpAll_ex {K : PySem.W.Frag} {H H' : Hp} (e : Ex H H') : ∀ {vs : List V} {ds : List PyData}, DpAll K H vs ds → DpAll K H' vs ds
  | _, _, .nil => .nil
  | _, _, .cons h t => .cons (dp_ex e h) (dpAll_ex e t)
end
section
variable {K : PySem.W.Frag} {H H' : Hp}
theorem dpAll_len : ∀ {vs : List V} {ds : List PyData}, DpAll K H vs ds → vs.length = ds.length
  | _, _, .nil => rfl
  | _, _, .cons _ t => congrArg (· + 1) (dpAll_len t)
theorem dpAll_get : ∀ {vs : List V} {ds : List PyData} {i : Nat} {d : PyData}, DpAll K H vs ds → ds[i]? = some d → ∃ v, vs[i]? = some v ∧ Dp K H v d
  | _, _, i, d, .nil, h => by simp at h
  | _, _, 0, d, .cons h t, e => ⟨_, rfl, by simp at e; subst e; exact h⟩
  | _, _, i + 1, d, .cons h t, e => by
    obtain ⟨v, h1, h2⟩ := dpAll_get (i := i) t (by simpa using e)
    exact ⟨v, by simpa using h1, h2⟩
theorem dpAll_app : ∀ {vs ws : List V} {ds es : List PyData}, DpAll K H vs ds → DpAll K H ws es → DpAll K H (vs ++ ws) (ds ++ es)
  | _, _, _, _, .nil, h => h
  | _, _, _, _, .cons h t, r => .cons h (dpAll_app t r)
theorem dpAll_one {v : V} {d : PyData} (h : Dp K H v d) : DpAll K H [v] [d] := .cons h .nil
theorem dpAll_map {α : Type} {f : α → V} {g : α → PyData} : ∀ (l : List α), (∀ x ∈ l, Dp K H (f x) (g x)) → DpAll K H (l.map f) (l.map g)
  | [], _ => .nil
  | x :: l, h => .cons (h x (by simp)) (dpAll_map l fun y hy => h y (by simp [hy]))
theorem dp_tup {v : V} {ds : List PyData} (h : Dp K H v (.tuple ds)) : ∃ a xs, v = .ref a ∧ SqT K H a xs ∧ DpAll K H xs ds := by
  cases h with
  | tup h t => exact ⟨_, _, rfl, h, t⟩
theorem dp_lst {v : V} {ds : List PyData} (h : Dp K H v (.list ds)) : ∃ a xs, v = .ref a ∧ SqL K H a xs ∧ DpAll K H xs ds := by
  cases h with
  | lst h t => exact ⟨_, _, rfl, h, t⟩
theorem dp_int {v : V} {i : Int} (h : Dp K H v (.int i)) : v = .int i := by
  cases h
  rfl
theorem dp_bl {v : V} {b : Bool} (h : Dp K H v (.bool b)) : v = .bl b := by
  cases h
  rfl
theorem dp_non {v : V} (h : Dp K H v .none) : v = .non := by
  cases h
  rfl
/-- by a function over the places -/
theorem dpAll_fn {xs : List V} {n : Nat} {f : Nat → PyData} (h : DpAll K H xs ((List.range n).map f)) : xs.length = n ∧ ∀ i, i < n → ∃ v, xs[i]? = some v ∧ Dp K H v (f i) := by
  refine ⟨by rw [dpAll_len h, List.length_map, List.length_range], fun i hi => dpAll_get h ?_⟩
  rw [List.getElem?_map, List.getElem?_range hi]
  rfl
end
/-! ### tuples stay -/
def TEx (H H' : Hp) : Prop := (∀ b xs, H b = some (.tup xs) → H' b = some (.tup xs)) ∧ ∀ b o u, H b = some (.frz o u) → H' b = some (.frz o u)
theorem TEx.refl (H : Hp) : TEx H H := ⟨fun _ _ h => h, fun _ _ _ h => h⟩
theorem TEx.trans {H H1 H2 : Hp} (a : TEx H H1) (b : TEx H1 H2) : TEx H H2 := ⟨fun c xs h => b.1 c xs (a.1 c xs h), fun c o u h => b.2 c o u (a.2 c o u h)⟩
theorem Ex.tex {H H' : Hp} (e : Ex H H') : TEx H H' := ⟨fun b xs h => e b _ h, fun b o u h => e b _ h⟩
theorem tex_upd {H : Hp} {p : Addr} {o : HO} {xs : List V} (h : H p = some (.lst xs)) : TEx H (upd H p o) := by
  refine ⟨fun b ys hb => ?_, fun b u w hb => ?_⟩
  · rw [upd_ne]
    · exact hb
    · rintro rfl
      rw [h] at hb
      cases hb
  · rw [upd_ne]
    · exact hb
    · rintro rfl
      rw [h] at hb
      cases hb
theorem TEx.t {K : PySem.W.Frag} {H H' : Hp} (e : TEx H H') {a : Addr} {xs : List V} (h : SqT K H a xs) : SqT K H' a xs := by
  rcases h with (h | ⟨o, h⟩) | h
  · exact .inl (.inl (e.1 _ _ h))
  · exact .inl (.inr ⟨o, e.2 _ _ _ h⟩)
  · exact .inr h
mutual
def tupOnly : PyData → Bool
  | .list _ => false
  | .dict _ => false
  | .tuple ds => tupAll ds
  | _ => true
def tupAll : List PyData → Bool
  | [] => true
  | d :: ds => tupOnly d && tupAll ds
end
theorem tupAll_iff : ∀ {ds : List PyData}, tupAll ds = true ↔ ∀ d ∈ ds, tupOnly d = true
  | [] => by simp [tupAll]
  | d :: ds => by
    simp only [tupAll, Bool.and_eq_true, List.mem_cons]
    rw [tupAll_iff]
    constructor
    · rintro ⟨h1, h2⟩ x (rfl | hx)
      · exact h1
      · exact h2 x hx
    · exact fun h => ⟨h d (.inl rfl), fun x hx => h x (.inr hx)⟩
mutual
theorem dp_tex {K : PySem.W.Frag} {H H' : Hp} (e : TEx H H') : ∀ {v : V} {d : PyData}, Dp K H v d → tupOnly d = true → Dp K H' v d
  | _, _, .non, _ => .non
  | _, _, .bl b, _ => .bl b
  | _, _, .int i, _ => .int i
  | _, _, .str x, _ => .str x
  | _, _, .lst h t, z => by cases z
  | _, _, .tup h t, z => .tup (e.t h) (dpAll_tex e t z)
theorem dpAll_tex {K : PySem.W.Frag} {H H' : Hp} (e : TEx H H') : ∀ {vs : List V} {ds : List PyData}, DpAll K H vs ds → tupAll ds = true → DpAll K H' vs ds
  | _, _, .nil, _ => .nil
  | _, _, .cons h t, z => by
    simp only [tupAll, Bool.and_eq_true] at z
    exact .cons (dp_tex e h z.1) (dpAll_tex e t z.2)
end
end My
set_option Elab.async false
set_option linter.all false
set_option autoImplicit false
set_option maxRecDepth 100000
set_option maxHeartbeats 2000000
namespace My
open PySem PySem.Spec PyProof.Rows L2 Evl
theorem range_filter_succ {α : Type} (p : Nat → Bool) (f : Nat → α) (i : Nat) : ((List.range (i + 1)).filter p).map f = ((List.range i).filter p).map f ++ (if p i = true then [f i] else []) := by
  rw [List.range_succ, List.filter_append, List.map_append]
  congr 1
  by_cases h : p i = true
  · simp [h]
  · simp [h]
section
variable {K : PySem.W.Frag} {J : It} {n : Nat} {G : Hp → Prop} {Y : Nat → Hp → V → Hp → Prop}
/-- what a comprehension's list holds behind i turns -/
def Held (K : PySem.W.Frag) (H1 : Hp) (D : Addr) (ds : List PyData) (H : Hp) : Prop :=
  Ex H1 H ∧ ∃ acc, H D = some (.lst acc) ∧ DpAll K (nw (upd H1 D (.lst [])) H) acc ds
theorem held_start {H1 : Hp} {D : Addr} (h : H1 D = none) : Held K H1 D [] (upd H1 D (.lst [])) := ⟨Ex.new h, [], upd_same, .nil⟩
theorem held_ex {H1 H H' : Hp} {D : Addr} {ds : List PyData} (h : Held K H1 D ds H) (e : Ex H H') : Held K H1 D ds H' := by
  obtain ⟨e1, acc, h1, h2⟩ := h
  exact ⟨e1.trans e, acc, e D _ h1, dpAll_ex (nw_grow e) h2⟩
theorem held_known {H1 H : Hp} {D : Addr} {ds : List PyData} (h : Held K H1 D ds H) : ∀ b, H b = none → (upd H1 D (.lst [])) b = none := by
  obtain ⟨e1, acc, h1, _⟩ := h
  intro b hb
  rw [upd_ne]
  · exact fresh_back e1 hb
  · rintro rfl
    rw [h1] at hb
    cases hb
theorem nw_back' {H0 H1 H2 : Hp} (e : ∀ b, H1 b = none → H0 b = none) : Ex (nw H1 H2) (nw H0 H2) := fun b o h => by
  obtain ⟨h1, h2⟩ := nw_get h
  rw [nw_none (e b h1)]
  exact h2
/-- one item more, new behind H -/
theorem held_add {H1 H H4 : Hp} {D : Addr} {ds : List PyData} {y : V} {d : PyData} (hD : H1 D = none) (h : Held K H1 D ds H) (e : Ex H H4) (hy : Dp K (nw H H4) y d) :
    ∃ acc, H4 D = some (.lst acc) ∧ acc.length = ds.length ∧ Held K H1 D (ds ++ [d]) (upd H4 D (.lst (acc ++ [y]))) := by
  obtain ⟨e1, acc, h1, h2⟩ := held_ex h e
  refine ⟨acc, h1, dpAll_len h2, Ex.mut e1 hD, acc ++ [y], upd_same, ?_⟩
  have keep : Ex (nw (upd H1 D (.lst [])) H4) (nw (upd H1 D (.lst [])) (upd H4 D (.lst (acc ++ [y])))) := nw_old (u := .lst []) upd_same
  exact dpAll_app (dpAll_ex keep h2) (dpAll_one (dp_ex keep (dp_ex (nw_back' (held_known h)) hy)))
theorem held_end {H1 H : Hp} {D : Addr} {ds : List PyData} (h1 : H1 D = none) (h : Held K H1 D ds H) : ∃ ys, Ex H1 H ∧ H D = some (.lst ys) ∧ DpAll K (nw H1 H) ys ds := by
  obtain ⟨e1, acc, h2, h3⟩ := h
  exact ⟨acc, e1, h2, dpAll_ex (nw_back (Ex.new h1)) h3⟩
/-- one item of a comprehension: where the test says no, nothing; else a new datum -/
def Item (K : PySem.W.Frag) (H : Hp) (b : Bool) (d : PyData) (N : Hp → Prop) (A : V → Hp → Prop) : Prop :=
  (b = false → ∀ H3, Ex H H3 → N H3) ∧ (b = true → ∀ y H4, Ex H H4 → Dp K (nw H H4) y d → A y H4)
theorem held_item {H1 H : Hp} {D : Addr} {ds : List PyData} {b : Bool} {d : PyData} {N : Hp → Prop} (hD : H1 D = none) (h : Held K H1 D ds H) (hl : ds.length < 100000)
    (k : ∀ H', Held K H1 D (ds ++ (if b = true then [d] else [])) H' → N H') :
    Item K H b d N (fun y H4 => ∃ acc, H4 D = some (.lst acc) ∧ acc.length < sizeLine ∧ N (upd H4 D (.lst (acc ++ [y])))) := by
  refine ⟨fun hb H3 e => k H3 ?_, fun hb y H4 e hy => ?_⟩
  · rw [hb]
    simp
    exact held_ex h e
  · obtain ⟨acc, q1, q2, q3⟩ := held_add hD h e hy
    refine ⟨acc, q1, by rw [q2]; exact sz_lt hl, k _ ?_⟩
    rw [hb]
    exact q3
theorem lcD (w : Walk J n G Y) {g : TG} {tt : TT} {te : TE} {vs : List Nat} {σ : L2.St} {H1 : Hp} {D : Addr} {Qd : Hp → Prop} (p : Nat → Bool) (f : Nat → PyData) (hn : n ≤ 100000) (hD : H1 D = none) (hG : ∀ H, Ex H1 H → G H)
    (hs : ∀ i x H H', i < n → Ex H1 H → Y i H x H' → ∀ (N : Hp → Prop) (A : V → Hp → Prop), Item K H (p i) (f i) N A →
      g x (wipe σ vs) H' fun σ2 H2 => wipe σ2 vs = wipe σ vs ∧ tt σ2 H2 fun b H3 => if b = true then te σ2 H3 A else N H3)
    (hd : ∀ H ys, Ex H1 H → H D = some (.lst ys) → DpAll K (nw H1 H) ys (((List.range n).filter p).map f) → Qd H) :
    ∃ W : Nat → Nat → Hp → Prop, (∃ m, W 0 m (upd H1 D (.lst []))) ∧ ∀ i m H, W i m H →
      (J.stop i H ∧ Qd H) ∨ (J.go i H ∧ ∃ Nx : Hp → Prop, (∀ H', Nx H' → ∃ m', m' < m ∧ W (i + 1) m' H') ∧ ∀ x H', J.yld i H x H' → g x (wipe σ vs) H' fun σ2 H2 => wipe σ2 vs = wipe σ vs ∧ tt σ2 H2 fun b H3 =>
        if b = true then te σ2 H3 fun y H4 => ∃ acc, H4 D = some (.lst acc) ∧ acc.length < sizeLine ∧ Nx (upd H4 D (.lst (acc ++ [y]))) else Nx H3) := by
  refine lc_it w (fun i H => Held K H1 D (((List.range i).filter p).map f) H) (held_start hD) (fun i H _ h => hG H h.1) (fun i x H H' hi h y => ?_) (fun H h => ?_)
  · refine hs i x H H' hi h.1 y _ _ (held_item hD h ?_ fun H3 h3 => ?_)
    · rw [List.length_map]
      exact Nat.lt_of_le_of_lt (List.length_filter_le _ _) (by rw [List.length_range]; omega)
    · show Held K H1 D (((List.range (i + 1)).filter p).map f) H3
      rw [range_filter_succ]
      exact h3
  · obtain ⟨ys, e1, e2, e3⟩ := held_end hD h
    exact hd H ys e1 e2 e3
/-- no test -/
theorem lcDA (w : Walk J n G Y) {g : TG} {te : TE} {vs : List Nat} {σ : L2.St} {H1 : Hp} {D : Addr} {Qd : Hp → Prop} (f : Nat → PyData) (hn : n ≤ 100000) (hD : H1 D = none) (hG : ∀ H, Ex H1 H → G H)
    (hs : ∀ i x H H', i < n → Ex H1 H → Y i H x H' → ∀ (A : V → Hp → Prop), (∀ y H4, Ex H H4 → Dp K (nw H H4) y (f i) → A y H4) →
      g x (wipe σ vs) H' fun σ2 H2 => wipe σ2 vs = wipe σ vs ∧ te σ2 H2 A)
    (hd : ∀ H ys, Ex H1 H → H D = some (.lst ys) → DpAll K (nw H1 H) ys ((List.range n).map f) → Qd H) :
    ∃ W : Nat → Nat → Hp → Prop, (∃ m, W 0 m (upd H1 D (.lst []))) ∧ ∀ i m H, W i m H →
      (J.stop i H ∧ Qd H) ∨ (J.go i H ∧ ∃ Nx : Hp → Prop, (∀ H', Nx H' → ∃ m', m' < m ∧ W (i + 1) m' H') ∧ ∀ x H', J.yld i H x H' → g x (wipe σ vs) H' fun σ2 H2 => wipe σ2 vs = wipe σ vs ∧ tYes σ2 H2 fun b H3 =>
        if b = true then te σ2 H3 fun y H4 => ∃ acc, H4 D = some (.lst acc) ∧ acc.length < sizeLine ∧ Nx (upd H4 D (.lst (acc ++ [y]))) else Nx H3) := by
  refine lcD (K := K) (tt := tYes) w (fun _ => true) f hn hD hG (fun i x H H' hi e y N A it => ?_) (fun H ys e1 e2 e3 => hd H ys e1 e2 ?_)
  · exact hs i x H H' hi e y _ (it.2 rfl)
  · rw [List.filter_eq_self.mpr (fun _ _ => rfl)] at e3
    exact e3
/-- two fors, the test behind the second one -/
theorem lc2D (w : Walk J n G Y) {g g1 : TG} {wi1 : TI} {tt1 : TT} {te : TE} {vs vs1 : List Nat} {σ : L2.St} {H1 : Hp} {D : Addr} {Qd : Hp → Prop} (m : Nat → Nat) (p : Nat → Nat → Bool) (f : Nat → Nat → PyData)
    (hn : n ≤ 300) (hm : ∀ i, i < n → m i ≤ 300) (hD : H1 D = none) (hG : ∀ H, Ex H1 H → G H) (S : Nat → L2.St → Prop)
    (hs : ∀ i x H H', i < n → Ex H1 H → Y i H x H' → ∀ P : L2.St → It → Hp → Prop,
      (∀ σ2 J1 H4 G1 Y1, S i σ2 → Ex H H4 → Walk J1 (m i) G1 Y1 → (∀ H, Ex H1 H → G1 H) →
        (∀ j x H H', j < m i → Ex H1 H → Y1 j H x H' → ∀ (N : Hp → Prop) (A : V → Hp → Prop), Item K H (p i j) (f i j) N A →
          g1 x (wipe σ2 vs1) H' fun σ3 H5 => wipe σ3 vs1 = wipe σ2 vs1 ∧ tt1 σ3 H5 fun b H6 => if b = true then te σ3 H6 A else N H6) → P σ2 J1 H4) →
      g x (wipe σ vs) H' fun σ2 H2 => wipe σ2 vs = wipe σ vs ∧ wi1 σ2 H2 fun J1 H4 => P σ2 J1 H4)
    (hd : ∀ H ys, Ex H1 H → H D = some (.lst ys) → DpAll K (nw H1 H) ys ((List.range n).flatMap fun i => ((List.range (m i)).filter (p i)).map (f i)) → Qd H) :
    ∃ W : Nat → Nat → Hp → Prop, (∃ k, W 0 k (upd H1 D (.lst []))) ∧ ∀ i k H, W i k H →
      (J.stop i H ∧ Qd H) ∨ (J.go i H ∧ ∃ Nx : Hp → Prop, (∀ H', Nx H' → ∃ m', m' < k ∧ W (i + 1) m' H') ∧ ∀ x H', J.yld i H x H' → g x (wipe σ vs) H' fun σ2 H2 => wipe σ2 vs = wipe σ vs ∧ tYes σ2 H2 fun b H3 =>
        if b = true then wi1 σ2 H3 fun J1 H4 => ∃ W1 : Nat → Nat → Hp → Prop, (∃ m, W1 0 m H4) ∧ ∀ j k H, W1 j k H →
          (J1.stop j H ∧ Nx H) ∨ (J1.go j H ∧ ∃ Nx1 : Hp → Prop, (∀ H', Nx1 H' → ∃ k', k' < k ∧ W1 (j + 1) k' H') ∧ ∀ x H', J1.yld j H x H' → g1 x (wipe σ2 vs1) H' fun σ3 H5 => wipe σ3 vs1 = wipe σ2 vs1 ∧ tt1 σ3 H5 fun b H6 =>
            if b = true then te σ3 H6 fun y H7 => ∃ acc, H7 D = some (.lst acc) ∧ acc.length < sizeLine ∧ Nx1 (upd H7 D (.lst (acc ++ [y]))) else Nx1 H6)
        else Nx H3) := by
  have flat : ∀ i, ((List.range (i + 1)).flatMap fun i => ((List.range (m i)).filter (p i)).map (f i)) = ((List.range i).flatMap fun i => ((List.range (m i)).filter (p i)).map (f i)) ++ ((List.range (m i)).filter (p i)).map (f i) := fun i => by
    rw [List.range_succ, List.flatMap_append]
    simp
  have flen : ∀ i, i ≤ n → ((List.range i).flatMap fun i => ((List.range (m i)).filter (p i)).map (f i)).length ≤ i * 300 := by
    intro i
    induction i with
    | zero => intro _; simp
    | succ i ih =>
      intro hi
      rw [flat, List.length_append, List.length_map]
      have h1 := ih (by omega)
      have h2 := List.length_filter_le (p i) (List.range (m i))
      rw [List.length_range] at h2
      have h3 := hm i (by omega)
      omega
  refine ⟨fun i k H => k = n - i ∧ i ≤ n ∧ Held K H1 D ((List.range i).flatMap fun i => ((List.range (m i)).filter (p i)).map (f i)) H, ⟨n, by simp, Nat.zero_le _, held_start hD⟩, ?_⟩
  rintro i k H ⟨rfl, hi, h⟩
  have q := hG H h.1
  by_cases hlt : i < n
  · refine .inr ⟨w.goes i H hlt q, fun H => Held K H1 D ((List.range (i + 1)).flatMap fun i => ((List.range (m i)).filter (p i)).map (f i)) H, fun H' p' => ⟨n - (i + 1), by omega, rfl, hlt, p'⟩, fun x H' y => ?_⟩
    refine hs i x H H' hlt h.1 (w.yields i H x H' hlt q y) _ fun σ2 J1 H4 G1 Y1 hS e4 w1 hG1 hel => ?_
    refine ⟨fun j k H' => k = m i - j ∧ j ≤ m i ∧ Held K H1 D (((List.range i).flatMap fun i => ((List.range (m i)).filter (p i)).map (f i)) ++ ((List.range j).filter (p i)).map (f i)) H', ⟨m i, by simp, Nat.zero_le _, ?_⟩, ?_⟩
    · simpa using held_ex h e4
    · rintro j k H5 ⟨rfl, hj, h5⟩
      have q5 := hG1 H5 h5.1
      by_cases jlt : j < m i
      · refine .inr ⟨w1.goes j H5 jlt q5, fun H' => Held K H1 D (((List.range i).flatMap fun i => ((List.range (m i)).filter (p i)).map (f i)) ++ ((List.range (j + 1)).filter (p i)).map (f i)) H', fun H' p' => ⟨m i - (j + 1), by omega, rfl, jlt, p'⟩, fun x' H'' y' => ?_⟩
        refine hel j x' H5 H'' jlt h5.1 (w1.yields j H5 x' H'' jlt q5 y') _ _ (held_item hD h5 ?_ fun H6 h6 => ?_)
        · rw [List.length_append, List.length_map]
          have h1 := flen i hi
          have h2 := List.length_filter_le (p i) (List.range j)
          rw [List.length_range] at h2
          have h3 := hm i hlt
          have h4 : i * 300 ≤ 300 * 300 := Nat.mul_le_mul_right 300 (by omega)
          omega
        · rw [range_filter_succ, ← List.append_assoc]
          exact h6
      · have e : j = m i := by omega
        subst e
        refine .inl ⟨w1.stops H5 q5, ?_⟩
        show Held K H1 D _ H5
        rw [flat]
        exact h5
  · have e : i = n := by omega
    subst e
    obtain ⟨ys, e1, e2, e3⟩ := held_end hD h
    exact .inl ⟨w.stops H q, hd H ys e1 e2 e3⟩
end
end My
set_option Elab.async false
set_option linter.all false
set_option autoImplicit false
set_option maxRecDepth 100000
set_option maxHeartbeats 2000000
/-! the layer's rules with the written part as a letter: so they stand within a comprehension's block, too -/
namespace My
open PySem PySem.Spec PyProof.Rows L2 Evl
section
variable {X : Cx} (K : PySem.W.Frag)
theorem ixL (hK : X.K = K := by rfl) : IxR X (rIxL K) := by
  subst hK
  exact ix_list
theorem ixT (hK : X.K = K := by rfl) : IxR X (rIxT K) := by
  subst hK
  exact ix_tup
def rTupS (K : PySem.W.Frag) : List V → Hp → VK → Prop := fun xs H Q => ∃ p ys, xs = [.ref p] ∧ ((SqL K H p ys ∧ ∀ l, H l = none → Q (.ref l) (upd H l (.tup ys))) ∨ (SqT K H p ys ∧ Q (.ref p) H))
theorem crTup (hK : X.K = K := by rfl) : CallR X (.type "tuple") (rTupS K) := by
  subst hK
  exact call_tuple_of
theorem crLen (hK : X.K = K := by rfl) : CallR X (.builtin "len") (rLenS K) := by
  subst hK
  exact call_len_seq
theorem crListOf (hK : X.K = K := by rfl) : CallR X (.type "list") (rListS K) := by
  subst hK
  exact call_list_of
theorem crAll (hc : X.calm = true) (hK : X.K = K := by rfl) : CallR X (.builtin "all") (rAll K) := by
  subst hK
  exact cr_all hc
def rInt1 : List V → Hp → VK → Prop := fun xs H Q => (∃ i, xs = [.int i] ∧ Q (.int i) H) ∨ ∃ k, xs = [.bl k] ∧ Q (.int (if k then 1 else 0)) H
theorem crInt : CallR X (.type "int") rInt1 := call_int1
theorem crMax2 (hc : X.calm = true) : CallR X (.builtin "max") rMax2 := call_max2 hc
theorem crMaxD (hc : X.calm = true) (hu : X.A.units + 64 < cLine) (hK : X.K = K := by rfl) : CallRK X (.builtin "max") ["default"] (rMaxD K) := by
  subst hK
  exact cr_maxD hc hu
theorem crRepr (hg : X.A.guards = some []) (hu : X.A.units + 64 < cLine) (hK : X.K = K := by rfl) : CallR X (.builtin "repr") (rRepr K) := by
  subst hK
  exact cr_repr hg hu
theorem opEqD (hu : X.A.units + 64 < cLine) (hK : X.K = K := by rfl) : OpR X (compareOp .Eq) (rEqD K) := by
  subst hK
  exact op_eqD hu
theorem opNeD (hu : X.A.units + 64 < cLine) (hK : X.K = K := by rfl) : OpR X (compareOp .NotEq) (rNeD K) := by
  subst hK
  exact op_neD hu
def rIsNon : R2 := fun x y H Q => y = .non ∧ Q (.bl (decide (x = .non))) H
def rNotNon : R2 := fun x y H Q => y = .non ∧ Q (.bl (!decide (x = .non))) H
theorem opIsN : OpR X (compareOp .Is) rIsNon := op_isN
theorem opNotN : OpR X (compareOp .IsNot) rNotNon := op_notN
def rLt : R2 := rI0 fun i j => .bl (decide (i < j))
theorem opLt : OpR X (compareOp .Lt) rLt := op_lt
theorem piL {tg l : Expr} {tl : TE} (h : PE X l tl) (hK : X.K = K := by rfl) : PI X tg l (iList K tl) := by
  subst hK
  exact pi_list h
theorem piT {tg l : Expr} {tl : TE} (h : PE X l tl) (hK : X.K = K := by rfl) : PI X tg l (iTup K tl) := by
  subst hK
  exact pi_tup h
theorem piEnum {e : Expr} {ta : TA} {p pos tpos : Pos} {elts : List Expr} {kk : Nat} (hg : Gl X "enumerate") (hm : X.mg "enumerate" = none) (ha : PA X [e] ta) (hs : starEach [e] X.env = [(false, eval e X.env)] := by rfl) (hK : X.K = K := by rfl) :
    PI X (.Tuple elts kk tpos) (.Call (.Name "enumerate" p) [e] [] pos) (iEnum K ta) := by
  subst hK
  exact pi_enum hg hm ha hs
theorem piEnumT {e : Expr} {ta : TA} {p pos tpos : Pos} {elts : List Expr} {kk : Nat} (hg : Gl X "enumerate") (hm : X.mg "enumerate" = none) (ha : PA X [e] ta) (hs : starEach [e] X.env = [(false, eval e X.env)] := by rfl) (hK : X.K = K := by rfl) :
    PI X (.Tuple elts kk tpos) (.Call (.Name "enumerate" p) [e] [] pos) (iEnumT K ta) := by
  subst hK
  exact pi_enumT hg hm ha hs
theorem peFld {e : Expr} {f : Str} {pos : Pos} {ta : TE} (he : PE X e ta) (hb : attributeBase e f X.env (eval e X.env) = eval e X.env := by rfl) (hK : X.K = K := by rfl) : PE X (.Attribute e f pos) (tFld K ta f) := by
  subst hK
  exact pe_fld he hb
def tTru (K : PySem.W.Frag) (ta : TE) : TT := fun σ H Q => ta σ H fun x H' => ∃ k, TruV K x H' k ∧ Q k H'
theorem ptTru {a : Expr} {ta : TE} (h : PE X a ta) (he : ∀ whole, isTrue a X.env whole = (do let v ← whole; standAt a.pos; holding [v] (truthy v)) := by intro _; rfl) (hK : X.K = K := by rfl) : PT X a (tTru K ta) := by
  subst hK
  exact pt_truth h he
end
section
variable {J : It} {n : Nat} {G : Hp → Prop} {Y : Nat → Hp → V → Hp → Prop}
/-- a comprehension without a test -/
theorem lcA (w : Walk J n G Y) {g : TG} {te : TE} {vs : List Nat} {σ : L2.St} {H1 : Hp} {D : Addr} {Qd : Hp → Prop} (Pv : Nat → Hp → Prop) (h0 : Pv 0 (upd H1 D (.lst []))) (hG : ∀ i H, i ≤ n → Pv i H → G H)
    (hs : ∀ i x H H', i < n → Pv i H → Y i H x H' → g x (wipe σ vs) H' fun σ2 H2 => wipe σ2 vs = wipe σ vs ∧ te σ2 H2 fun y H4 => ∃ acc, H4 D = some (.lst acc) ∧ acc.length < sizeLine ∧ Pv (i + 1) (upd H4 D (.lst (acc ++ [y]))))
    (hd : ∀ H, Pv n H → Qd H) :
    ∃ W : Nat → Nat → Hp → Prop, (∃ m, W 0 m (upd H1 D (.lst []))) ∧ ∀ i m H, W i m H →
      (J.stop i H ∧ Qd H) ∨ (J.go i H ∧ ∃ Nx : Hp → Prop, (∀ H', Nx H' → ∃ m', m' < m ∧ W (i + 1) m' H') ∧ ∀ x H', J.yld i H x H' → g x (wipe σ vs) H' fun σ2 H2 => wipe σ2 vs = wipe σ vs ∧ tYes σ2 H2 fun b H3 =>
        if b = true then te σ2 H3 fun y H4 => ∃ acc, H4 D = some (.lst acc) ∧ acc.length < sizeLine ∧ Nx (upd H4 D (.lst (acc ++ [y]))) else Nx H3) :=
  lc_it w (tt := tYes) Pv h0 hG hs hd
end
end My
set_option Elab.async false
set_option linter.all false
set_option autoImplicit false
set_option maxRecDepth 100000
set_option maxHeartbeats 2000000
namespace My
open PySem PySem.Spec PyProof.Rows L2 Evl
section
variable {J : It} {n : Nat} {G : Hp → Prop} {Y : Nat → Hp → V → Hp → Prop}
/-- the references cc 0, cc 1, .. -/
def refs (n : Nat) (cc : Nat → Addr) : List V := (List.range n).map fun j => V.ref (cc j)
theorem refs_len (n : Nat) (cc : Nat → Addr) : (refs n cc).length = n := by
  unfold refs
  rw [List.length_map, List.length_range]
theorem refs_at {n : Nat} {cc : Nat → Addr} {j : Nat} (h : j < n) : (refs n cc)[j]? = some (.ref (cc j)) := by
  unfold refs
  rw [List.getElem?_map, List.getElem?_range h]
  rfl
theorem refs_succ {n : Nat} {cc cd : Nat → Addr} {p : Addr} (h : ∀ j, j < n → cd j = cc j) (hp : cd n = p) : refs n cc ++ [.ref p] = refs (n + 1) cd := by
  unfold refs
  rw [List.range_succ, List.map_append, List.map_cons, List.map_nil, hp]
  congr 1
  refine List.map_congr_left fun j hj => ?_
  rw [h j (List.mem_range.mp hj)]
/-- a comprehension each of whose items is a new object -/
theorem lcFresh (w : Walk J n G Y) {g : TG} {te : TE} {vs : List Nat} {σ : L2.St} {H1 : Hp} {D : Addr} {Qd : Hp → Prop} (o : Nat → HO) (hn : n ≤ 100000) (hD : H1 D = none) (hG : ∀ H, Ex H1 H → G H)
    (hs : ∀ i x H H', i < n → Ex H1 H → Y i H x H' → ∀ (A : V → Hp → Prop), (∀ p H4, H p = none → Ex H H4 → H4 p = some (o i) → A (.ref p) H4) →
      g x (wipe σ vs) H' fun σ2 H2 => wipe σ2 vs = wipe σ vs ∧ te σ2 H2 A)
    (hd : ∀ H cc, Ex H1 H → H D = some (.lst (refs n cc)) → (∀ j, j < n → H1 (cc j) = none ∧ cc j ≠ D ∧ H (cc j) = some (o j)) → (∀ i j, i < n → j < n → cc i = cc j → i = j) → Qd H) :
    ∃ W : Nat → Nat → Hp → Prop, (∃ m, W 0 m (upd H1 D (.lst []))) ∧ ∀ i m H, W i m H →
      (J.stop i H ∧ Qd H) ∨ (J.go i H ∧ ∃ Nx : Hp → Prop, (∀ H', Nx H' → ∃ m', m' < m ∧ W (i + 1) m' H') ∧ ∀ x H', J.yld i H x H' → g x (wipe σ vs) H' fun σ2 H2 => wipe σ2 vs = wipe σ vs ∧ tYes σ2 H2 fun b H3 =>
        if b = true then te σ2 H3 fun y H4 => ∃ acc, H4 D = some (.lst acc) ∧ acc.length < sizeLine ∧ Nx (upd H4 D (.lst (acc ++ [y]))) else Nx H3) := by
  refine lcA w (fun i H => Ex H1 H ∧ ∃ cc : Nat → Addr, H D = some (.lst (refs i cc)) ∧ (∀ j, j < i → H1 (cc j) = none ∧ cc j ≠ D ∧ H (cc j) = some (o j)) ∧ ∀ k j, k < i → j < i → cc k = cc j → k = j)
    ⟨Ex.new hD, fun _ => D, upd_same, fun j h => by omega, fun k j h => by omega⟩ (fun i H _ h => hG H h.1) ?_ ?_
  · rintro i x H H' hi ⟨e1, cc, hl, hc, inj⟩ y
    refine hs i x H H' hi e1 y _ fun p H4 hp e4 ho => ⟨refs i cc, e4 D _ hl, by rw [refs_len]; exact sz_lt (by omega), ?_⟩
    have npD : p ≠ D := (ne_of_none hl hp).symm
    have old : ∀ j, j < i → cc j ≠ p := fun j hj => ne_of_none (hc j hj).2.2 hp
    refine ⟨Ex.mut (e1.trans e4) hD, fun j => if j = i then p else cc j, ?_, fun j hj => ?_, fun k j hk hj e => ?_⟩
    · rw [upd_same]
      rw [refs_succ (cd := fun j => if j = i then p else cc j) (fun j hj => if_neg (by omega)) (if_pos rfl)]
    · by_cases q : j = i
      · simp only [q, if_true]
        exact ⟨fresh_back e1 hp, npD, by rw [upd_ne npD]; exact ho⟩
      · simp only [if_neg q]
        obtain ⟨q1, q2, q3⟩ := hc j (by omega)
        exact ⟨q1, q2, by rw [upd_ne q2]; exact e4 _ _ q3⟩
    · by_cases q : k = i <;> by_cases r : j = i
      · omega
      · simp only [q, if_true, if_neg r] at e
        exact (old j (by omega) e.symm).elim
      · simp only [r, if_true, if_neg q] at e
        exact (old k (by omega) e).elim
      · simp only [if_neg q, if_neg r] at e
        exact inj k j (by omega) (by omega) e
  · rintro H ⟨e1, cc, hl, hc, inj⟩
    exact hd H cc e1 hl hc inj
end
section
variable {X : Cx} (K : PySem.W.Frag)
theorem pgT {es : List Expr} {k : Nat} {pos : Pos} {t : TGs} {n : Nat} (hc : X.calm = true) (h : PGs X es t) (hn : (assignEach es X.env).length = n := by rfl) (hst : (assignEach es X.env).findIdx? (·.1) = none := by rfl) (hK : X.K = K := by rfl) : PG X (.Tuple es k pos) (gTup K n t) := by
  subst hK
  exact pg_tup hc h hn hst
theorem peBm {T : String} {name : Str} {id : String} {o e : Expr} {es : List Expr} {to : TE} {t : TA} {r : V → List V → Hp → VK → Prop} {apos cpos : Pos} (pa : PlainAttrs T) (slot : Slot T name id) (hty : typeOf (.builtin id) = pure (.type "method_descriptor")) (hm : MtR X id r) (ho : PE X o to) (ha : PA X (e :: es) t)
    (hbase : attributeBase o name X.env (eval o X.env) = eval o X.env := by rfl)
    (hfew : ((backTo cpos (starEach (e :: es) X.env)).all (fun x => !x.1) && (backToKw cpos (keywordEach [] X.env)).all (fun x => x.1.isSome)
      && decide ((e :: es).length + ([] : List Keyword).length + (if ([] : List Keyword).isEmpty then 0 else 1) < 30)) = true := by rfl)
    (hline : (apos.endLine == cpos.line) = true := by rfl) (hs : starEach (e :: es) X.env = (false, eval e X.env) :: starEach es X.env := by rfl) (hplain : (backTo cpos (starEach es X.env)).any (·.1) = false := by rfl) (hK : X.K = K := by rfl) :
    PE X (.Call (.Attribute o name apos) (e :: es) [] cpos) (tBM K T r to t) := by
  subst hK
  exact pe_bm pa slot hty hm ho ha hbase hfew hline hs hplain
end
end My
set_option Elab.async false
set_option linter.all false
set_option autoImplicit false
set_option maxRecDepth 100000
set_option maxHeartbeats 2000000
namespace My
open PySem PySem.Spec PyProof.Rows L2 Evl
section
variable {K : PySem.W.Frag} {J : It} {n : Nat} {G : Hp → Prop} {Y : Nat → Hp → V → Hp → Prop}
/-- each item a new datum of which something is known -/
theorem lcDE (w : Walk J n G Y) {g : TG} {te : TE} {vs : List Nat} {σ : L2.St} {H1 : Hp} {D : Addr} {Qd : Hp → Prop} (PP : Nat → PyData → Prop) (hn : n ≤ 100000) (hD : H1 D = none) (hG : ∀ H, Ex H1 H → G H)
    (hs : ∀ i x H H', i < n → Ex H1 H → Y i H x H' → ∀ (A : V → Hp → Prop), (∀ y H4 d, PP i d → Ex H H4 → Dp K (nw H H4) y d → A y H4) →
      g x (wipe σ vs) H' fun σ2 H2 => wipe σ2 vs = wipe σ vs ∧ te σ2 H2 A)
    (hd : ∀ H ys ds, Ex H1 H → H D = some (.lst ys) → ds.length = n → (∀ i d, ds[i]? = some d → PP i d) → DpAll K (nw H1 H) ys ds → Qd H) :
    ∃ W : Nat → Nat → Hp → Prop, (∃ m, W 0 m (upd H1 D (.lst []))) ∧ ∀ i m H, W i m H →
      (J.stop i H ∧ Qd H) ∨ (J.go i H ∧ ∃ Nx : Hp → Prop, (∀ H', Nx H' → ∃ m', m' < m ∧ W (i + 1) m' H') ∧ ∀ x H', J.yld i H x H' → g x (wipe σ vs) H' fun σ2 H2 => wipe σ2 vs = wipe σ vs ∧ tYes σ2 H2 fun b H3 =>
        if b = true then te σ2 H3 fun y H4 => ∃ acc, H4 D = some (.lst acc) ∧ acc.length < sizeLine ∧ Nx (upd H4 D (.lst (acc ++ [y]))) else Nx H3) := by
  refine lcA w (fun i H => ∃ ds, ds.length = i ∧ (∀ j d, ds[j]? = some d → PP j d) ∧ Held K H1 D ds H) ⟨[], rfl, by simp, held_start hD⟩ (fun i H _ h => ?_) ?_ ?_
  · obtain ⟨_, _, _, h⟩ := h
    exact hG H h.1
  · rintro i x H H' hi ⟨ds, hl, hp, h⟩ y
    refine hs i x H H' hi h.1 y _ fun v H4 d pd e4 hv => ?_
    obtain ⟨acc, q1, q2, q3⟩ := held_add hD h e4 hv
    refine ⟨acc, q1, by rw [q2, hl]; exact sz_lt (by omega), ds ++ [d], by simp [hl], fun j d' hj => ?_, q3⟩
    rcases Nat.lt_or_ge j ds.length with z | z
    · rw [List.getElem?_append_left z] at hj
      exact hp j d' hj
    · rw [List.getElem?_append_right z] at hj
      have : j - ds.length = 0 := by
        cases q : j - ds.length with
        | zero => rfl
        | succ k => rw [q] at hj; simp at hj
      rw [this] at hj
      simp at hj
      subst hj
      have : j = i := by omega
      subst this
      exact pd
  · rintro H ⟨ds, hl, hp, h⟩
    obtain ⟨ys, e1, e2, e3⟩ := held_end hD h
    exact hd H ys ds e1 e2 hl hp e3
/-- each item a new list of new objects -/
theorem lcFresh2 (w : Walk J n G Y) {g : TG} {te : TE} {vs : List Nat} {σ : L2.St} {H1 : Hp} {D : Addr} {Qd : Hp → Prop} (m : Nat) (o : Nat → Nat → HO) (hn : n ≤ 100000) (hD : H1 D = none) (hG : ∀ H, Ex H1 H → G H)
    (hs : ∀ i x H H', i < n → Ex H1 H → Y i H x H' → ∀ (A : V → Hp → Prop), (∀ p rw H4, H p = none → Ex H H4 → H4 p = some (.lst (refs m rw)) → (∀ x, x < m → H (rw x) = none ∧ rw x ≠ p ∧ H4 (rw x) = some (o i x)) →
        (∀ x y, x < m → y < m → rw x = rw y → x = y) → A (.ref p) H4) →
      g x (wipe σ vs) H' fun σ2 H2 => wipe σ2 vs = wipe σ vs ∧ te σ2 H2 A)
    (hd : ∀ H (lb : Nat → Addr) (rl : Nat → Nat → Addr), Ex H1 H → H D = some (.lst (refs n lb)) → (∀ l, l < n → H1 (lb l) = none ∧ lb l ≠ D ∧ H (lb l) = some (.lst (refs m (rl l)))) →
      (∀ l x, l < n → x < m → H1 (rl l x) = none ∧ rl l x ≠ D ∧ (∀ k, k < n → rl l x ≠ lb k) ∧ H (rl l x) = some (o l x)) → (∀ l x k y, l < n → x < m → k < n → y < m → rl l x = rl k y → l = k ∧ x = y) → Qd H) :
    ∃ W : Nat → Nat → Hp → Prop, (∃ m, W 0 m (upd H1 D (.lst []))) ∧ ∀ i m H, W i m H →
      (J.stop i H ∧ Qd H) ∨ (J.go i H ∧ ∃ Nx : Hp → Prop, (∀ H', Nx H' → ∃ m', m' < m ∧ W (i + 1) m' H') ∧ ∀ x H', J.yld i H x H' → g x (wipe σ vs) H' fun σ2 H2 => wipe σ2 vs = wipe σ vs ∧ tYes σ2 H2 fun b H3 =>
        if b = true then te σ2 H3 fun y H4 => ∃ acc, H4 D = some (.lst acc) ∧ acc.length < sizeLine ∧ Nx (upd H4 D (.lst (acc ++ [y]))) else Nx H3) := by
  refine lcA w (fun i H => Ex H1 H ∧ ∃ (lb : Nat → Addr) (rl : Nat → Nat → Addr), H D = some (.lst (refs i lb)) ∧ (∀ l, l < i → H1 (lb l) = none ∧ lb l ≠ D ∧ H (lb l) = some (.lst (refs m (rl l)))) ∧
      (∀ l x, l < i → x < m → H1 (rl l x) = none ∧ rl l x ≠ D ∧ (∀ k, k < i → rl l x ≠ lb k) ∧ H (rl l x) = some (o l x)) ∧ (∀ l x k y, l < i → x < m → k < i → y < m → rl l x = rl k y → l = k ∧ x = y))
    ⟨Ex.new hD, fun _ => D, fun _ _ => D, upd_same, fun l h => by omega, fun l x h => by omega, fun l x k y h => by omega⟩ (fun i H _ h => hG H h.1) ?_ ?_
  · rintro i x H H' hi ⟨e1, lb, rl, hl, h1, h2, h3⟩ y
    refine hs i x H H' hi e1 y _ fun p rw H4 hp e4 ho hr inj => ⟨refs i lb, e4 D _ hl, by rw [refs_len]; exact sz_lt (by omega), ?_⟩
    have npD : p ≠ D := (ne_of_none hl hp).symm
    have nrD : ∀ x, x < m → rw x ≠ D := fun x hx => (ne_of_none hl (hr x hx).1).symm
    refine ⟨Ex.mut (e1.trans e4) hD, fun j => if j = i then p else lb j, fun j => if j = i then rw else rl j, ?_, fun l hlt => ?_, fun l x hlt hx => ?_, fun l x k y hlt hx hk hy e => ?_⟩
    · rw [upd_same, refs_succ (cd := fun j => if j = i then p else lb j) (fun j hj => if_neg (by omega)) (if_pos rfl)]
    · by_cases q : l = i
      · simp only [q, if_true]
        exact ⟨fresh_back e1 hp, npD, by rw [upd_ne npD]; exact ho⟩
      · simp only [if_neg q]
        obtain ⟨q1, q2, q3⟩ := h1 l (by omega)
        exact ⟨q1, q2, by rw [upd_ne q2]; exact e4 _ _ q3⟩
    · by_cases q : l = i
      · simp only [q, if_true]
        obtain ⟨q1, q2, q3⟩ := hr x hx
        refine ⟨fresh_back e1 q1, nrD x hx, fun k hk => ?_, by rw [upd_ne (nrD x hx)]; exact q3⟩
        by_cases z : k = i
        · simp only [z, if_true]
          exact q2
        · simp only [if_neg z]
          exact (ne_of_none (h1 k (by omega)).2.2 q1).symm
      · simp only [if_neg q]
        obtain ⟨q1, q2, q3, q4⟩ := h2 l x (by omega) hx
        refine ⟨q1, q2, fun k hk => ?_, by rw [upd_ne q2]; exact e4 _ _ q4⟩
        by_cases z : k = i
        · simp only [z, if_true]
          exact ne_of_none q4 hp
        · simp only [if_neg z]
          exact q3 k (by omega)
    · by_cases q : l = i <;> by_cases r : k = i
      · simp only [q, r, if_true] at e
        exact ⟨q.trans r.symm, inj x y hx hy e⟩
      · simp only [q, if_true, if_neg r] at e
        exact (ne_of_none (h2 k y (by omega) hy).2.2.2 (hr x hx).1 e.symm).elim
      · simp only [r, if_true, if_neg q] at e
        exact (ne_of_none (h2 l x (by omega) hx).2.2.2 (hr y hy).1 e).elim
      · simp only [if_neg q, if_neg r] at e
        exact h3 l x k y (by omega) hx (by omega) hy e
  · rintro H ⟨e1, lb, rl, hl, h1, h2, h3⟩
    exact hd H lb rl e1 hl h1 h2 h3
end
end My
set_option Elab.async false
set_option linter.all false
set_option autoImplicit false
set_option maxRecDepth 100000
set_option maxHeartbeats 2000000
/-! sorted of a dict whose keys are tuples of numbers -/
namespace My
open PySem PySem.Spec PyProof.Rows L2
def rSortedDT (K : PySem.W.Frag) (d : Nat) (B : Int) : List V → Hp → VK → Prop := fun xs H Q => ∃ (a : Addr) (kvs : List (List Key × V)), xs = [.ref a] ∧ Rd H a (.dT kvs) ∧ kvs.length < 64 ∧ (∀ kv ∈ kvs, ∃ ns : List Int, kv.1 = ns.map Sum.inl ∧ ns.length = d ∧ TS.Bd B ns) ∧
  ∀ (ys : List V) (p : Addr) (bs : List Addr), IsKeys H kvs bs → ys.Perm (bs.map V.ref) → ys.Pairwise (fun x y => ∀ n m, TupI K H x n → TupI K H y m → TS.code B n ≤ TS.code B m) → H p = none → Q (.ref p) (upd H p (.lst ys))
section
variable {X : Cx}
theorem isKeys_mem {H : Hp} {b : Addr} : ∀ {kvs : List (List Key × V)} {bs : List Addr}, IsKeys H kvs bs → b ∈ bs → ∃ kv ∈ kvs, H b = some (.tup (kv.1.map kV))
  | [], [], _, h => by cases h
  | p :: ks, c :: bs, q, h => by
    cases q with
    | cons h1 t =>
      rcases List.mem_cons.mp h with rfl | h
      · exact ⟨p, List.mem_cons_self, h1⟩
      · obtain ⟨kv, m, e⟩ := isKeys_mem t h
        exact ⟨kv, List.mem_cons_of_mem _ m, e⟩
  | [], c :: bs, q, _ => by cases q
  | p :: ks, [], q, _ => by cases q
theorem inl_kV (ns : List Int) : (ns.map Sum.inl : List Key).map kV = ns.map V.int := by
  rw [List.map_map]
  rfl
theorem cr_sortedDT {d : Nat} {B : Int} (hd1 : 1 ≤ d) (hc : X.calm = true) : CallR X (.builtin "sorted") (rSortedDT X.K d B) := by
  intro pins s σ H xs us Q I r h
  obtain ⟨a, kvs, rfl, hd, h64, hns, q⟩ := h
  obtain ⟨u, rfl, rx⟩ := vals1 r
  cases rx
  obtain ⟨z, hs, ks, pr, o, es, ep, ho, hx, hdt, he, hn⟩ := (show ObjOk X.prog X.w H s.heap a (.dT kvs) from hd.ok I.hok)
  have l1 : es.size = ks.length := size_of_entries he
  have l2 : kvs.length = ks.length := Paired.length pr
  refine Calls.call_function_entry PyProof.Rows.kind_sorted PyProof.Rows.plain_sorted PyProof.Rows.entry_sorted (PyProof.Rows.args_sorted1 _) ?_
  unfold Builtin.«sorted»
  refine wpAny_bind (m := checkCount "sorted" 1 1 _) (wpAny_pure ?_)
  refine wpAny_bind (PySem.W.kdu_collect (A := X.A.in1) (kdl_raw hs hx hdt) (I.ok.hd hc) ho (by rw [l1, ← l2, sizeLine_eq]; omega) fun h' tk acc' hk it => ?_)
  have ea : acc'.toList = ks.map fun x => Value.ref x.2.1 := by
    have hl : acc'.toList.length = ks.length := by rw [Array.length_toList, it.1]; exact l1
    apply List.ext_getElem?
    intro j
    rw [List.getElem?_map]
    cases hj : acc'.toList[j]? with
    | none =>
      have h1 := List.getElem?_eq_none_iff.mp hj
      rw [List.getElem?_eq_none (by omega)]
      all_goals rfl
    | some v =>
      obtain ⟨en, hen, hv⟩ := it.2 j v (by rw [← Array.getElem?_toList]; exact hj)
      have qe := entry_at he j
      rw [hen] at qe
      cases hb : ks[j]? with
      | none =>
        rw [hb] at qe
        exact nomatch (show some en = none from qe)
      | some b =>
        rw [hb] at qe
        have e2 : en = entryOfKey (tupleKind (mixKind X.prog X.w)) b := Option.some.inj qe
        rw [hv, e2]
        all_goals rfl
  have ik := isKeys_of pr
  have eb : acc'.toList = (ks.map fun x => x.2.1).map Value.ref := by rw [ea, List.map_map]; all_goals rfl
  generalize (ks.map fun x => x.2.1) = bs at ik eb
  have lb : bs.length = kvs.length := (Paired.length ik).symm
  have lacc : acc'.toList.length = bs.length := by rw [eb, List.length_map]
  have I1 : Inv X pins σ H { s with heap := h', toks := tk } := I.kept hk
  have tk1 : ∀ b ∈ bs, ∃ ns : List Int, SqT X.K H b (ns.map V.int) ∧ ns.length = d ∧ TS.Bd B ns := fun b hb => by
    obtain ⟨kv, hm, e⟩ := isKeys_mem ik hb
    obtain ⟨ns, e1, e2, e3⟩ := hns kv hm
    rw [e1, inl_kV] at e
    exact ⟨ns, SqT.of e, e2, e3⟩
  refine wpAny_bind (wpAny_newList ?_ (by rw [lacc, lb, sizeLine_eq]; omega))
  have hoL : (h'.push (seqObj "list" acc'.toList.toArray 0)).get? h'.objs.size = some (seqObj "list" acc'.toList.toArray 0) := Heap.get?_push_size _ rfl
  have ok0 : TS.TupsOk h' d B acc'.toList := fun v hv => by
    rw [eb] at hv
    obtain ⟨b, hb, rfl⟩ := List.mem_map.mp hv
    obtain ⟨ns, h1, h2, h3⟩ := tk1 b hb
    exact ⟨ns, tupI_raw I1 h1, h2, h3⟩
  have keep : ∀ b o, h'.get? b = some o → o.cls = .type "tuple" → (h'.push (seqObj "list" acc'.toList.toArray 0)).get? b = some o := fun b o e _ => Heap.get?_push_of_some _ e
  show wpAny _ _ _ _ _ { s with heap := h'.push (seqObj "list" acc'.toList.toArray 0), toks := tk }
  refine wpAny_bind (wpAny_holding (wpAny_call_entry PyProof.Rows.slot_list_sort ⟨_, hoL, rfl⟩ PyProof.Rows.entry_list_sort
    (TS.sort_tups (s := { s with heap := h'.push (seqObj "list" acc'.toList.toArray 0), toks := tk }) hoL (by rw [lacc, lb]; exact h64) hd1 (ok0.keeps keep) (fun v => TS.code B (TS.intsOf h' v)) (fun v hv ns t => ?_) fun out a1 a2 => ⟨_, rfl, ?_⟩)
    (PyProof.Rows.args_list_sort _)))
  · obtain ⟨ns0, t0, _⟩ := ok0 v hv
    have e : ns = ns0 := t.ints.symm.trans (t0.keeps keep).ints
    rw [e]
    show TS.code B (TS.intsOf h' v) = TS.code B ns0
    rw [t0.ints]
  obtain ⟨e', he'⟩ := PyProof.Rows.sortedHeap_at (vs := acc'.toList) (out := out) hoL
  have h3 : ∀ u ∈ out.toList, ∃ a, u = Value.ref a := fun u hu => by
    have := a1.mem_iff.mp hu
    rw [eb] at this
    obtain ⟨b, _, rfl⟩ := List.mem_map.mp this
    exact ⟨b, rfl⟩
  have hp : (out.toList.map bkV).Perm (bs.map V.ref) := by
    have := a1.map bkV
    rw [eb, List.map_map] at this
    exact this
  have hlen : (out.toList.map bkV).length ≤ sizeLine := by
    rw [hp.length_eq, List.length_map, lb, sizeLine_eq]
    omega
  refine wpAny_pure ⟨_, rfl, .ref h'.objs.size, upd H h'.objs.size (.lst (out.toList.map bkV)), I1.laid (t' := tk) (fun b u e => ?_) (Nat.le_refl _)
    (show ObjOk X.prog X.w _ _ _ (.lst (out.toList.map bkV)) from ⟨hlen, out.toList, e', bkV_vals h3, by rw [Array.toArray_toList]; exact he'⟩), rfl, q _ _ bs ik hp ?_ (I1.hok.fresh (Nat.le_refl _))⟩
  · have hb : b < h'.objs.size := Heap.lt_size e
    rw [PyProof.Rows.sortedHeap_old (Nat.ne_of_lt hb) (by rw [size_push']; exact Nat.lt_succ_of_lt hb)]
    exact Heap.get?_push_of_some _ e
  · rw [List.pairwise_map]
    refine List.Pairwise.imp (fun {u v} huv n m hn hm => ?_) a2
    obtain ⟨t, et, ht⟩ := hn
    obtain ⟨t', et', ht'⟩ := hm
    have eu := bkV_ref et
    have ev := bkV_ref et'
    have i1 : TS.intsOf h' u = n := by
      rw [eu]
      exact (tupI_raw I1 ht).ints
    have i2 : TS.intsOf h' v = m := by
      rw [ev]
      exact (tupI_raw I1 ht').ints
    rw [← i1, ← i2]
    exact huv
end
end My
set_option Elab.async false
set_option linter.all false
set_option autoImplicit false
set_option maxRecDepth 100000
set_option maxHeartbeats 2000000
/-! the values of a dict whose keys are tuples: the view, its list -/
namespace My
open PySem PySem.Spec PyProof.Rows L2
section
variable {prog : Program} {w : World} {A : Around} {E : Value → Shared → Prop} {s : Shared}
theorem meetsVals {d : Addr} {es : Array DictEntry} {ep : Nat} (hd : (d == sysModules) = false) :
    MeetsIn prog w (Builtin.«dict.values» ⟨[.ref d], []⟩) (fun _ R s => s.heap.DictRaw d es ep ∧
      R (.ok (.ret (.ref s.heap.objs.size))) { s with heap := s.heap.push { cls := .type "dict_values", data := .fields #[.ref d] } }) :=
  .of_wp fun A R s ⟨hm, h⟩ => by
    refine wpAny_bind ?_
    unfold Builtin.Dict.noArgs
    refine wpAny_bind (wpAny_notOrdered_dict hm.typeIs ?_)
    show wpAny _ _ (pure d) _ _ s
    refine wpAny_pure ?_
    show wpAny _ _ (Builtin.Dict.showsAll d >>= _) _ _ s
    unfold Builtin.Dict.showsAll
    rw [if_neg (by rw [hd]; exact Bool.false_ne_true)]
    refine wpAny_bind (wpAny_pure ?_)
    exact wpAny_bind (wpAny_newObj_type (wpAny_pure ⟨_, rfl, h⟩))
theorem callVals {d : Addr} {es : Array DictEntry} {ep : Nat} {Q : Value → Shared → Prop} (hd : (d == sysModules) = false) (hm : s.heap.DictRaw d es ep)
    (h : Q (.ref s.heap.objs.size) { s with heap := s.heap.push { cls := .type "dict_values", data := .fields #[.ref d] } }) : wpAny (model prog w) A (call (.builtin "dict.values") [.ref d]) Q E s :=
  call_meetsIn PySem.F.slot_dict_values hm.typeIs PySem.F.entry_dict_values (PySem.F.args_dict_values_1 _) (meetsVals (es := es) (ep := ep) hd) ⟨hm, h⟩
end
/-- the view d.values() at p -/
def valsO (p d : Addr) : HO := .ext fun h => h.IsValuesView p d
theorem valsO_ok {P : Program} {w : World} {H : Hp} {h : Heap} {p d : Addr} (e : h.get? p = some { cls := .type "dict_values", data := .fields #[.ref d] }) : ObjOk P w H h p (valsO p d) :=
  ⟨⟨_, e, rfl, rfl⟩, ⟨_, e⟩, fun h1 h2 x k => let ⟨o, ho, r⟩ := x; ⟨o, k o ho, r⟩⟩
section
variable {X : Cx}
def rValsT : V → List V → Hp → VK → Prop := fun x xs H Q => ∃ (a : Addr) (kvs : List (List L2.Key × V)), x = .ref a ∧ xs = [] ∧ H a = some (.dT kvs) ∧ ∀ p, H p = none → Q (.ref p) (upd H p (valsO p a))
theorem mt_valsT : MtR X "dict.values" rValsT := by
  intro pins s σ H x xs v us Q I rx rxs h
  obtain ⟨a, kvs, rfl, rfl, ha, q⟩ := h
  cases rx
  cases rxs
  obtain ⟨z, hd, xs', rel, o, es, ep, ho, hx, hdat, _⟩ := dt_of I.hok ha
  refine callVals (es := es) (ep := ep) hd ⟨o, ho, hx, hdat⟩ ?_
  have hf : H s.heap.objs.size = none := I.hok.fresh (Nat.le_refl _)
  exact ⟨.ref s.heap.objs.size, upd H s.heap.objs.size (valsO s.heap.objs.size a), I.laid (t' := s.toks) (fun b u e => Heap.get?_push_of_some _ e) (Nat.le_refl _) (valsO_ok (Heap.get?_push_size _ rfl)), rfl, q _ hf⟩
theorem kt_vals {H : Hp} : ∀ {kvs : List (List L2.Key × V)} {xs : List (List L2.Key × Addr × Value)}, KT H kvs xs → Vals (kvs.map (·.2)) (xs.map fun x => x.2.2)
  | _, _, Paired.nil => .nil
  | _, _, Paired.cons h t => .cons h.2.2 (kt_vals t)
def rListVals : List V → Hp → VK → Prop := fun xs H Q => ∃ (p a : Addr) (kvs : List (List L2.Key × V)), xs = [.ref p] ∧ H p = some (valsO p a) ∧ H a = some (.dT kvs) ∧ ∀ q, H q = none → Q (.ref q) (upd H q (.lst (kvs.map (·.2))))
theorem cr_listVals (hc : X.calm = true) : CallR X (.type "list") rListVals := by
  intro pins s σ H xs us Q I r h
  obtain ⟨p, a, kvs, rfl, hp, ha, q⟩ := h
  obtain ⟨u, rfl, rx⟩ := r.one
  cases rx
  obtain ⟨z, hs, ks, pr, o, es, ep, ho, hx, hdt, he, hn⟩ := (show ObjOk X.prog X.w H s.heap a (.dT kvs) from I.hok a _ ha)
  have hv : s.heap.IsValuesView p a := (show ObjOk X.prog X.w H s.heap p (valsO p a) from I.hok p _ hp).1
  have l1 : es.size = ks.length := size_of_entries he
  have l2 : kvs.length = ks.length := Paired.length pr
  refine PySem.W.kdl_call (KdlSrc.rawValues (es := es) (ep := ep)) (I.ok.hd hc) ⟨hv, o, ho, hx, hdt⟩ (by omega) fun h' tk acc' c' kp e it => ?_
  have ea : acc'.toList = ks.map fun x => x.2.2 := by
    have hl : acc'.toList.length = ks.length := by rw [Array.length_toList, it.1]; exact l1
    apply List.ext_getElem?
    intro j
    rw [List.getElem?_map]
    cases hj : acc'.toList[j]? with
    | none =>
      have h1 := List.getElem?_eq_none_iff.mp hj
      rw [List.getElem?_eq_none (by omega)]
      all_goals rfl
    | some v =>
      obtain ⟨hi, hv⟩ := it.2 j v (by rw [← Array.getElem?_toList]; exact hj)
      have qe := entry_at he j
      rw [Array.getElem?_eq_getElem hi] at qe
      cases hb : ks[j]? with
      | none =>
        rw [hb] at qe
        exact nomatch (show some es[j] = none from qe)
      | some b =>
        rw [hb] at qe
        have e2 : es[j] = entryOfKey (tupleKind (mixKind X.prog X.w)) b := Option.some.inj qe
        rw [hv, e2]
        all_goals rfl
  have rv : Vals (kvs.map (·.2)) acc'.toList := by rw [ea]; exact kt_vals pr
  have hz : (kvs.map (·.2)).length ≤ sizeLine := by rw [List.length_map]; omega
  refine ⟨.ref s.heap.objs.size, _, I.laid (t' := tk) (o := .lst (kvs.map (·.2))) kp (Nat.le_refl _) ?_, rfl, q _ (I.hok.fresh (Nat.le_refl _))⟩
  exact ⟨hz, acc'.toList, c', rv, by rw [Array.toArray_toList]; exact e⟩
end
end My
set_option Elab.async false
set_option linter.all false
set_option autoImplicit false
set_option maxRecDepth 100000
set_option maxHeartbeats 2000000
/-! x in t: t a tuple of data -/
namespace My
open PySem PySem.Spec PyProof.Rows L2
def rInDT (K : PySem.W.Frag) : R2 := fun x y H Q => ∃ d ds, Dp K H x d ∧ Dp K H y (.tuple ds) ∧ SeqAt.shaped d = true ∧ SeqAt.shaped (.tuple ds) = true ∧ Q (.bl (ds.any fun z => PyData.eqv z d)) H
theorem op_inDT {X : Cx} (hu : X.A.units + 65 < cLine) : OpR X (compareOp .In) (rInDT X.K) := by
  intro pins s σ H x y v u Q I rx ry h
  obtain ⟨d, ds, hd, he, sd, se, q⟩ := h
  obtain ⟨as, r1⟩ := Dp.reads I d x v hd rx
  obtain ⟨bs, r2⟩ := Dp.reads I (.tuple ds) y u he ry
  exact SeqAt.in_tuple_reads r2 r1 (SeqAt.canLay_of_shaped se) (SeqAt.canLay_of_shaped sd) (room_in_shaped sd hu) ⟨.bl _, H, I, rfl, q⟩
/-- the same with the written part as a letter -/
theorem opInDT {X : Cx} (K : PySem.W.Frag) (hu : X.A.units + 65 < cLine) (hK : X.K = K := by rfl) : OpR X (compareOp .In) (rInDT K) := by
  subst hK
  exact op_inDT hu
theorem opInDL {X : Cx} (K : PySem.W.Frag) (hu : X.A.units + 65 < cLine) (hK : X.K = K := by rfl) : OpR X (compareOp .In) (rInD K) := by
  subst hK
  exact op_inD hu
theorem opNotInDL {X : Cx} (K : PySem.W.Frag) (hu : X.A.units + 65 < cLine) (hK : X.K = K := by rfl) : OpR X (compareOp .NotIn) (rNotInD K) := by
  subst hK
  exact op_notInD hu
theorem opInS {X : Cx} (K : PySem.W.Frag) (hK : X.K = K := by rfl) : OpR X (compareOp .In) (rIn K false) := by
  subst hK
  exact op_in_seq
theorem opNotInS {X : Cx} (K : PySem.W.Frag) (hK : X.K = K := by rfl) : OpR X (compareOp .NotIn) (rIn K true) := by
  subst hK
  exact op_notIn_seq
theorem crSortT {X : Cx} (K : PySem.W.Frag) {d : Nat} {B : Int} (hd : 1 ≤ d) (hK : X.K = K := by rfl) : CallR X (.builtin "sorted") (rSortU K d B) := by
  subst hK
  exact cr_sortT hd
theorem crSortedDT {X : Cx} (K : PySem.W.Frag) {d : Nat} {B : Int} (hd : 1 ≤ d) (hc : X.calm = true) (hK : X.K = K := by rfl) : CallR X (.builtin "sorted") (rSortedDT K d B) := by
  subst hK
  exact cr_sortedDT hd hc
theorem peBm0 {X : Cx} (K : PySem.W.Frag) {T : String} {name : Str} {id : String} {o : Expr} {to : TE} {r : V → List V → Hp → VK → Prop} {apos cpos : Pos} (pa : PlainAttrs T) (slot : Slot T name id) (hty : typeOf (.builtin id) = pure (.type "method_descriptor")) (hm : MtR X id r) (ho : PE X o to)
    (hbase : attributeBase o name X.env (eval o X.env) = eval o X.env := by rfl) (hline : (apos.endLine == cpos.line) = true := by rfl) (hK : X.K = K := by rfl) : PE X (.Call (.Attribute o name apos) [] [] cpos) (tBM0 K T r to) := by
  subst hK
  exact pe_bm0 pa slot hty hm ho hbase hline
end My
set_option Elab.async false
set_option linter.all false
set_option autoImplicit false
set_option maxRecDepth 100000
set_option maxHeartbeats 4000000
/-! own exceptions with one field, over any built-in base (after skel/42, which speaks of ValueError) -/
namespace PySem
namespace OneX
open PySem.W PySem.Calls PyProof.Rows PySem.HandSPX Builtin.ObjectAttr
/-- what is asked of a built-in base's line of classes -/
structure Tail (bmB : List Value) : Prop where
  pass : ∀ self : Value, refuseLoop self "__setattr__" bmB = pure ()
  obj : bmB.contains (.type "object") = true
abbrev exTail : List Value := [.type "Exception", .type "BaseException", .type "object"]
theorem tail_ex : Tail exTail := ⟨fun self => by kernel_rfl, by decide +kernel⟩
section
variable {prog : Program} {w : World} {A : Around} {R : Result → Shared → Prop} {hp : Heap} {g : Array GenState} {d : Drawn} {t : Nat} {os : OsState}
/-- self.name = v on a fresh exception -/
theorem osaX {bmB : List Value} (TB : Tail bmB) {K : Frag} {name : Str} {tk : Tok} {v : Value} {x C : Addr} {fv : Array Value} {cd : ClassData} (X : K.In hp) (hx : hp.get? x = some { cls := .ref C, data := .fields fv }) (hcd : clsIn K C = some cd)
    (hm : excTail bmB cd.mro = true) (hh : cd.hasDict = true) (ha : findIn K (.ref C) name = some none)
    (hq : ∀ h' tk' dx, (∀ b o, b ≠ x → hp.get? b = some o → h'.get? b = some o) → hp.objs.size ≤ dx → dx ≠ x → h'.get? x = some { cls := .ref C, dict := some dx, data := .fields fv } → h'.Ns1 dx (fun y => if y = name then some v else none) → R (.ok (.ret .none)) ⟨h', g, d, tk', os⟩) :
    codeAny (model prog w) A (.call (.builtin "object.__setattr__") ⟨[.ref x, .str name tk, v], []⟩) R ⟨hp, g, d, t, os⟩ := by
  have ob : cd.mro.contains (.type "object") = true := by rw [excTail_contains "object" _ hm]; exact TB.obj
  have ne : cd.mro.isEmpty = false := by
    cases e : cd.mro with
    | nil => rw [e] at ob; cases ob
    | cons _ _ => rfl
  have at_x : InstAt hp x { cls := .ref C, data := .fields fv } C none := ⟨hx, rfl, rfl, trivial⟩
  have xs : x ≠ hp.objs.size := fun z => Nat.lt_irrefl _ (by have := Heap.lt_size hx; rw [← z] at this; exact this)
  have isObj : Looks (model prog w) hp (isInstance (.ref x) (.type "object")) true := at_x.type.andThen (looks_mroIn X (by unfold mroIn; rw [hcd, Option.bind_some, if_neg (by rw [ne]; exact Bool.false_ne_true), ob]))
  have lm : Looks (model prog w) hp (mroOf (.ref C)) cd.mro := (looks_clsIn X hcd).andThen .now
  have lc : Looks (model prog w) hp (classData C) cd := looks_clsIn X hcd
  refine codeAny_call_builtin F.store_object.slot.plain F.store_object.entry (@check_slot (model prog w) _ _ ⟨hp, g, d, t, os⟩ "object.__setattr__" "object" "__setattr__" (.ref x) [.str name tk, v] [] _ F.store_object.kind F.store_object.split isObj (F.store_object.args (.ref x) (.str name tk) v) ?_)
  rw [osa_eq, refuse_eq]
  refine wpAny_bind (wpAny_bind (at_x.type.at (wpAny_bind (lm.at ?_))))
  rw [excTail_pass (.ref x) (TB.pass _) _ hm]
  have lt : Looks (model prog w) hp (storeTaker? none) none := .now
  refine wpAny_pure (wpAny_bind (at_x.type.at (wpAny_bind ((looks_findIn X ha).at (wpAny_bind (lt.at ?_))))))
  show wpAny _ _ (storeInOwnDict (.ref x) (.ref C) (.str name tk) name v false) _ _ _
  obtain ⟨c1, c2, c3, c4, c5, c6, c7, c8, c9, c10, c11⟩ := cd
  dsimp only at hh
  subst hh
  unfold storeInOwnDict ownDictForStores
  repeat (first | with_reducible refine store_in_new ?_ ?_ | with_reducible refine wpAny_loadPart_at hx ?_ | with_reducible refine lc.at ?_ | wp_step)
  · refine ⟨_, #[], _, (Heap.get?_update_ne _ _ _ _ xs.symm).trans (Heap.get?_push_at rfl rfl), rfl, fun e he => absurd he (by simp), fun _ => rfl⟩
  · intro h' tk' hn' hs
    have x1 : (hp.push { cls := .type "dict", data := .dict #[] }).get? x = some { cls := .ref C, data := .fields fv } := Heap.get?_push_of_some _ hx
    refine hq h' tk' hp.objs.size (fun b o hb ho => ?_) (Nat.le_refl _) xs.symm ((hs.2 x xs).trans (Heap.get?_update_self _ x1 rfl)) hn'
    have nb : b ≠ hp.objs.size := Nat.ne_of_lt (Heap.lt_size ho)
    exact (hs.2 b nb).trans ((Heap.get?_update_ne _ _ _ _ hb).trans (Heap.get?_push_of_some _ ho))
end
/-! ### the text of __init__(self, at): self.at = at -/
def iA (p1 p2 : Pos) : Arguments := { posonlyargs := [], args := [{ arg := "self", annotation := none, pos := p1 }, { arg := "at", annotation := none, pos := p2 }], vararg := none, kwonlyargs := [], kw_defaults := [], kwarg := none, defaults := [] }
def iB (q1 q2 q3 q4 : Pos) : List Stmt := [.Assign [.Attribute (.Name "self" q1) "at" q2] (.Name "at" q3) q4]
def iS : Scope := { kind := .function, names := [(PySem.Str.ofString "self", .local), (PySem.Str.ofString "at", .local)], isGenerator := false, isCoroutine := false, more := [] }
/-- what the written part says of the class nm at C over the built-in base of newId, bmB, and of its __init__ at fI -/
structure OneTxt (K : Frag) (mg : Str → Option Value) (nm : Str) (bmB : List Value) (newId : String) (C fI : Addr) : Prop where
  gC : mg nm = some (.ref C)
  cls : ∃ n0 q N bs bm sn sub ab col dd k0 k1 k2 k3 k5, K.lookup C = some (excClassObj n0 q C N bs bm true sn sub ab col dd k0 k1 k2 k3 k5 newId) ∧ excTail bmB bm = true
  sa : findIn K (.ref C) "__setattr__" = some (some (.builtin "object.__setattr__"))
  ga : findIn K (.ref C) "__getattribute__" = some (some (.builtin "BaseException.__getattribute__"))
  gg : findIn K (.ref C) "__getattr__" = some none
  noN : findIn K (.ref C) "at" = some none
  iC : findIn K (.ref C) "__init__" = some (some (.ref fI))
  tC : typeIn K (.ref fI) = some (.type "function")
  kC : keepIn K (.ref C) = true
  exC : subIn K (.ref C) (.type "BaseException") = some true
  tyC : typeIn K (.ref C) = some (.type "type")
  hdC : hasDictIn K C = true
  te : exmOne K (.ref C) (.ref C) = some true
  fn : ∃ (qn : Str) (oc : Value) (od : Option Addr) (doc pm : Value) (an : Option Addr) (cdv ct : Value) (osl : Array (Option Value)) (p1 p2 q1 q2 q3 q4 : Pos),
    K.lookup fI = some ⟨oc, od, .func (fnOf "__init__" qn (iA p1 p2) (iB q1 q2 q3 q4) iS .none .none doc pm an cdv ct), osl⟩ ∧ codeIn K cdv qn = true
theorem one_size (v : Value) : [v].length ≤ sizeLine := by
  rw [sizeLine_eq]
  exact (by decide : 1 ≤ 16777216)
theorem ldC {M : Model} {s : Shared} {name : Str} {scope : Scope} {L a : Addr} {cd : Value} {m : Str → Option Value} {x : Str} {pos : Pos} {v : Value} {Q : Value → Shared → Prop} {A : Around} {E : Value → Shared → Prop} (hn : s.heap.Ns L m) (hv : m x = some v) (h : Q v s)
    (hk : scope.kind = .function := by rfl) (hl : (envOfC name scope L a cd).kindOf x = some .local := by rfl) (hd : (x == ("__debug__" : Str)) = false := by decide) :
    wpAny M A (eval (.Name x pos) (envOfC name scope L a cd)) Q E s := wpAny_Name (wpAny_loadName_local hk hl hn hv h) hd
/-- what __init__ leaves of a fresh exception at x -/
structure InitEnd (h h' : Heap) (x C dx t1 : Addr) (v : Value) : Prop where
  keep : ∀ b o, b ≠ x → h.get? b = some o → h'.get? b = some o
  obj : h'.get? x = some { cls := .ref C, dict := some dx, data := .fields #[.ref t1, .none, .none, .none, .bool false, .none] }
  dbig : h.objs.size ≤ dx
  dne : dx ≠ x
  ns : h'.Ns1 dx (fun y => if y = "at" then some v else none)
/-- a made one -/
structure OwnMade (h h' : Heap) (e C d : Addr) (v : Value) : Prop where
  keep : ∀ b o, h.get? b = some o → h'.get? b = some o
  new : h.objs.size ≤ e
  obj : ∃ oe vs, h'.get? e = some oe ∧ oe.cls = .ref C ∧ oe.dict = some d ∧ oe.data = .fields vs ∧ vs[1]? = some .none
  dbig : h.objs.size ≤ d
  dne : d ≠ e
  ns : h'.Ns1 d (fun y => if y = "at" then some v else none)
section
variable {prog : Program} {w : World} {A : Around} {E : Value → Shared → Prop} {R : Result → Shared → Prop} {s : Shared} {K : Frag} {mg : Str → Option Value} {nm : Str} {bmB : List Value} {B newId initId : String} {C fI : Addr}
theorem one_init (T : OneTxt K mg nm bmB newId C fI) (TB : Tail bmB) {x t0 : Addr} {v : Value} (X : K.In s.heap) (hlim : s.heap.NoLimit) (hx : s.heap.get? x = some (excO C t0)) (hnx : K.lookup x = none) (hroom : A.depth < recursionLimit)
    (hq : ∀ h' tk dx, InitEnd s.heap h' x C dx t0 v → R (.ok (.ret .none)) { s with heap := h', toks := tk }) :
    codeAny (model prog w) A (.call (.ref fI) ⟨[.ref x, v], []⟩) R s := by
  obtain ⟨qn, oc, od, doc, pm, an, cdv, ct, osl, p1, p2, q1, q2, q3, q4, ho, hcd⟩ := T.fn
  obtain ⟨n0, q, N, bs, bm, sn, sub, ab, col, dd, k0, k1, k2, k3, k5, hC, hbm⟩ := T.cls
  have hcl : clsIn K C = some { name := n0, bases := bs, mro := .ref C :: bm, ns := N, qualname := q, hasDict := true, slotNames := sn, subclasses := sub, abstract := ab, collection := col, hasDel := false } := by unfold clsIn; rw [hC] <;> rfl
  refine Att.call_fn (binds := [("self", .ref x), ("at", v)]) X hlim ho hcd hroom (BindsTo.of_eq (by first | rfl | with_unfolding_all rfl)) (by first | rfl | decide | with_unfolding_all rfl) (fun s₁ IC => ?_) rfl rfl rfl
  obtain ⟨h₁, tk₁, rfl⟩ := IC.toInCall.same
  have k : ∀ b o, s.heap.get? b = some o → h₁.get? b = some o := IC.toInCall.keep
  have hn := IC.toInCall.ns
  have hxL : s.heap.objs.size ≠ x := Nat.ne_of_gt (Heap.lt_size hx)
  have X₁ : K.In h₁ := X.keeps k
  have hx₁ := k _ _ hx
  show wpAny _ _ (execs _ _) _ _ _
  refine wpAny_execs_cons (plainObj_wpAny_Assign_Attribute ?_)
  refine ldC (v := v) hn (by first | rfl | with_unfolding_all rfl | kernel_rfl) (ldC (v := .ref x) hn (by first | rfl | with_unfolding_all rfl | kernel_rfl) ?_)
  refine set_plain X₁ (ox := excO C t0) (od := none) ⟨hx₁, rfl, rfl, trivial⟩ T.sa ?_
  refine osaX TB X₁ hx₁ hcl (show excTail bmB (.ref C :: bm) = true from hbm) rfl T.noN (fun h₃ tk₃ dx k₃ dn dne hx₃ hn₃ => ?_)
  show wpAny _ _ (execs _ _) _ _ _
  have z : s.heap.objs.size < h₁.objs.size := hn.lt
  exact wpAny_execs_nil (hq h₃ tk₃ dx ⟨fun b o hb e => k₃ b o hb (k b o e), hx₃, Nat.le_of_lt (Nat.lt_of_lt_of_le z dn), dne, hn₃⟩)
theorem one_made (T : OneTxt K mg nm bmB newId C fI) (TB : Tail bmB) (F : ExcBaseFacts B newId initId bmB) {v : Value} (X : K.In s.heap) (hlim : s.heap.NoLimit) (hroom : A.depth + 1 < recursionLimit)
    (hq : ∀ h' tk e d, OwnMade s.heap h' e C d v → R (.ok (.ret (.ref e))) { s with heap := h', toks := tk }) :
    codeAny (model prog w) A (.call (.ref C) ⟨[v], []⟩) R s := by
  obtain ⟨n0, q, N, bs, bm, sn, sub, ab, col, dd, k0, k1, k2, k3, k5, hC, hbm⟩ := T.cls
  obtain ⟨hp, g, dr, tk, os⟩ := s
  have k : ∀ b o, hp.get? b = some o → ((hp.push (kdv_tup [v])).push (excO C hp.objs.size)).get? b = some o := fun b o e => Heap.get?_push_of_some _ (Heap.get?_push_of_some _ e)
  have hget : ((hp.push (kdv_tup [v])).push (excO C hp.objs.size)).get? (hp.objs.size + 1) = some (excO C hp.objs.size) := by heap_get
  have hnx : K.lookup (hp.objs.size + 1) = none := by
    cases e : K.lookup (hp.objs.size + 1) with
    | none => rfl
    | some o =>
      have z : hp.get? (hp.objs.size + 1) = some o := X _ _ e
      exact absurd (Nat.lt_of_succ_lt (Heap.lt_size z)) (Nat.lt_irrefl _)
  refine call_own F (fun Y => excTail_contains Y bm hbm) (X _ _ hC) (looks_findIn X T.iC) (fun self => bind_fn X self T.tC) (one_size v) ?_
  refine one_init (s := ⟨(hp.push (kdv_tup [v])).push (excO C hp.objs.size), g, dr, tk, os⟩) T TB (X.keeps k) (hlim.keeps k) hget hnx ?_ fun h' tk' dx ⟨k', hx, dn, dne, hns⟩ => ?_
  · show A.depth + 1 < recursionLimit
    exact hroom
  · have old : ∀ b o, hp.get? b = some o → h'.get? b = some o := fun b o e => k' b o (Nat.ne_of_lt (Nat.lt_succ_of_lt (Heap.lt_size e))) (k b o e)
    have z : hp.objs.size + 1 + 1 ≤ dx := by
      first
        | (simpa only [Heap.size_push] using dn)
        | exact dn
        | (have q := dn; rw [Heap.size_push, Heap.size_push] at q; exact q)
    exact ⟨rfl, hq h' tk' (hp.objs.size + 1) dx ⟨old, Nat.le_succ _, ⟨_, _, hx, rfl, rfl, rfl, rfl⟩, Nat.le_trans (Nat.le_trans (Nat.le_succ _) (Nat.le_succ _)) z, dne, hns⟩⟩
end
end OneX
end PySem
namespace L2
open PySem PySem.Spec PyProof.Rows
theorem relO_at {v : V} {v' : Value} (r : RelV v v') (f : Str) : RelO (List.lookup f [(("at" : Str), v)]) (if f = "at" then some v' else none) := by
  by_cases hw : f = "at"
  · subst hw
    rw [if_pos rfl]
    have q : List.lookup ("at" : Str) [(("at" : Str), v)] = some v := by simp [List.lookup]
    rw [q]
    exact r
  · rw [if_neg hw]
    have qw : (f == ("at" : Str)) = false := by simpa using hw
    have q2 : List.lookup f [(("at" : Str), v)] = none := by simp [List.lookup, qw]
    rw [q2]
    trivial
section
variable {X : Cx} {nm : Str} {bmB : List Value} {B newId initId : String} {C fI : Addr}
/-- C(e) -/
def tMkAt (C : Addr) (ta : TA) : St → Hp → XK → Prop := fun σ H Q => ta σ H fun vs H1 => ∃ v, vs = [v] ∧ ∀ d, H1 d = none → Q (.ref C) (some d) (upd H1 d (.xd [(("at" : Str), v)]))
theorem pmk_at {a : Expr} {ta : TA} {p pos : Pos} {k : Nat} (T : PySem.OneX.OneTxt X.K X.mg nm bmB newId C fI) (TB : PySem.OneX.Tail bmB) (F : ExcBaseFacts B newId initId bmB) (hr : Room k X.A) (ha : PA X [a] ta) (hg : Gl X nm := by rfl) (hdb : (nm == ("__debug__" : Str)) = false := by decide)
    (he : starEach (a :: []) X.env = (false, eval a X.env) :: starEach [] X.env := by rfl) (hpl : (backTo pos (starEach [] X.env)).any (·.1) = false := by rfl) :
    PMk X (.Call (.Name nm p) [a] [] pos) (tMkAt C ta) := by
  intro pins s σ H Q I h
  refine wpAny_Call_Name_kw (ld_glob I hg T.gC ?_ hdb)
  refine PySem.W.callWith_K (h₀ := X.base) I.ok.mod.kin T.kC (thn (ha.run pos pins s σ H _ I h) fun us s1 hh => ?_) he hpl
  obtain ⟨vs, H1, I1, r1, v, ev, q1⟩ := hh
  subst ev
  refine ⟨I1.kIn, ?_⟩
  cases r1 with
  | cons rv rn =>
    rename_i v' us'
    cases rn
    show wpAny _ _ (call (.ref C) [v']) _ _ _
    have hlim := I1.nolimit
    obtain ⟨hp, g, dr, tk, os⟩ := s1
    refine wpAny_call (PySem.OneX.one_made T TB F I1.kIn hlim (by have := hr.dp; omega) fun h' tk' e d M => ?_)
    show MkP X pins σ Q (.ref e) ⟨h', g, dr, tk', os⟩
    obtain ⟨oe, fv, hoe, hc, hd, hdat, h1⟩ := M.obj
    have hns := M.ns
    obtain ⟨G', g1, g2⟩ := restrict h' fun b => decide (b ≠ e)
    have gk : ∀ b, b ≠ e → G'.get? b = h'.get? b := fun b hb => g1 b (decide_eq_true hb)
    have ge : G'.get? e = none := g2 e (by simp)
    have old : ∀ b o, hp.get? b = some o → G'.get? b = some o := fun b o q => (gk b (Nat.ne_of_lt (Nat.lt_of_lt_of_le (Heap.lt_size q) M.new))).trans (M.keep b o q)
    have ob : ObjOk X.prog X.w (upd H1 d (.xd [(("at" : Str), v)])) G' d (.xd [(("at" : Str), v)]) :=
      ⟨_, hns.at (fun o q => (gk d M.dne).trans q), fun f => relO_at rv f⟩
    have J : Inv X pins σ (upd H1 d (.xd [(("at" : Str), v)])) ⟨G', g, dr, tk', os⟩ := I1.laid (t' := tk') old M.dbig ob
    refine ⟨e, oe, fv, ⟨G', g, dr, tk', os⟩, _, .ref C, some d, rfl, J, fun b o q => ?_, ge, hoe, ⟨hc, hd⟩, hdat, h1, ?_, rfl, I1.bare, raises_own T.exC T.tyC, q1 d (I1.hok.fresh M.dbig)⟩
    · by_cases hb : b = e
      · have q' : G'.get? b = some o := q
        rw [hb, ge] at q'; cases q'
      · exact (gk b hb).symm.trans q
    · rw [upd_ne (Ne.symm M.dne)]
      exact I1.hok.fresh M.new
/-- raise C(e) -/
def tRaiseAt (C : Addr) (W : WX) (ta : TA) : TS := fun _ σ H => tMkAt C ta σ H fun cls d H' => W cls d σ H'
theorem ps_raiseAt {a : Expr} {ta : TA} {W : WX} {p pos pos2 : Pos} {k : Nat} (hc : X.calm = true) (T : PySem.OneX.OneTxt X.K X.mg nm bmB newId C fI) (TB : PySem.OneX.Tail bmB) (F : ExcBaseFacts B newId initId bmB) (hr : Room k X.A) (tk : Takes X W) (ha : PA X [a] ta) (hg : Gl X nm := by rfl) (hdb : (nm == ("__debug__" : Str)) = false := by decide)
    (he : starEach (a :: []) X.env = (false, eval a X.env) :: starEach [] X.env := by rfl) (hpl : (backTo pos (starEach [] X.env)).any (·.1) = false := by rfl) :
    PS X (.Raise (some (.Call (.Name nm p) [a] [] pos)) none pos2) (tRaiseAt C W ta) := ps_raise hc tk (pmk_at T TB F hr ha hg hdb he hpl)
/-- e.at, e the exception that the suite holds (at a; its class cls, its dict d) -/
def tByAt (C : Addr) (a : Addr) (cls : Value) (d : Option Addr) (te : TE) : TE := fun σ H Q => te σ H fun x H1 => x = .ref a ∧ cls = .ref C ∧ ∃ (dd : Addr) (v : V), d = some dd ∧ H1 dd = some (.xd [(("at" : Str), v)]) ∧ Q v H1
theorem pe_byAt {a : Addr} {oe : Obj} {cls : Value} {d : Option Addr} {pn : List (Addr × Obj)} {e : Expr} {te : TE} {pos : Pos} (T : PySem.OneX.OneTxt X.K X.mg nm bmB newId C fI) (hz : Zc cls d oe) (hf : ∃ vs, oe.data = .fields vs) (he : PE (X.suite a ((a, oe) :: pn)) e te)
    (hb : attributeBase e "at" X.env (eval e X.env) = eval e X.env := by rfl) :
    PE (X.suite a ((a, oe) :: pn)) (.Attribute e "at" pos) (tByAt C a cls d te) := by
  refine ⟨fun pins s σ H Q I h => ?_⟩
  refine attr_of hb (thn (he.run pins s σ H _ I h) fun u s1 hh => ?_)
  obtain ⟨x, H1, I1, rx, ex, ec, dd, v, ed, ea, q⟩ := hh
  subst ex
  obtain rfl : u = Value.ref a := rx
  subst ec
  subst ed
  obtain ⟨ha, _⟩ := I1.pin (a, oe) (List.mem_append_left _ List.mem_cons_self)
  obtain ⟨vs, hd⟩ := hf
  have hx : ObjOk X.prog X.w H1 s1.heap dd (.xd [(("at" : Str), v)]) := I1.hok dd _ ea
  obtain ⟨mA, hns, hr⟩ := hx
  obtain ⟨od, ho, hl⟩ := lookIn_ns hns
  have l : List.lookup ("at" : Str) [(("at" : Str), v)] = some v := by simp [List.lookup]
  obtain ⟨u, hu, ru⟩ := RelO.some_of (v := v) (o := mA "at") (by rw [← l]; exact hr "at")
  have J : PySem.W.InstAt s1.heap a oe C (some od) := ⟨ha, hz.1, by unfold PySem.W.notCls; rw [hd] <;> rfl, by rw [hz.2]; exact ho⟩
  exact HandSPX.exc_get I1.kIn J T.ga T.gg T.exC (PySem.W.findObj_own T.hdC T.noN rfl (by rw [hl, hu])) (handed_of ru) ⟨v, H1, I1.tok _, ru, q⟩
/-- a statement that is never reached -/
theorem ps_no {st : Stmt} : PS X st (fun _ _ _ => False) := ⟨fun _ _ _ _ _ _ h => h.elim⟩
theorem pss_no {b : List Stmt} : PSs X b (fun _ _ _ => False) := ⟨fun _ _ _ _ _ _ h => h.elim⟩
end
end L2
set_option Elab.async false
set_option linter.all false
set_option autoImplicit false
set_option maxRecDepth 100000
set_option maxHeartbeats 2000000
/-! a law run without guards whose code object is told; f(k = v, ..) -/
namespace My
open PySem PySem.Spec PyProof.Rows L2
section
variable {P : Program} {w : World} {K : PySem.W.Frag} {mg : Str → Option Value} {base : Heap}
theorem okGc {x qual : Str} {st : Stmt} {f : Addr} {N ps : List Str} {k : Nat} {sp : Sp} {oc kV doc pm cdv ct : Value} {od an : Option Addr} {osl : Array (Option Value)}
    (lk : K.lookup f = some ⟨oc, od, .func (PySem.W.fnOf x qual (defArgs st) (defBody st) (defScope st) .none kV doc pm an cdv ct), osl⟩) (hcd : PySem.W.codeIn K cdv qual = true) (S : FnScope N ps (defScope st)) (len : ∀ vs H Q E, sp vs H Q E → vs.length = ps.length)
    (hbody : ∀ (A : Around) (outer : List Env) (s : Shared) (H : Hp) (vs : List V) (Q : VK) (E : XK), A.guards = some [] → Room k (A.deeper (envOfC qual (defScope st) s.heap.objs.size f cdv)) → sp vs H Q E →
      ∃ t, PSs (cxOf CX0 P w K mg base N qual (defScope st) f cdv A outer s H E).nox (defBody st) t ∧ t { nx := fun _ H' => Q .non H', rt := Q } (start N vs) H) : FnG P w K mg base CX0 (k + 1) f (PySem.W.fnOf x qual (defArgs st) (defBody st) (defScope st) .none kV doc pm an cdv ct) ps sp := by
  refine ⟨len, fun A outer s H args us vs Q E gd hr e0 hb r hsp => ?_⟩
  have same := e0.bs
  have KX : K.In s.heap := e0.mod.kin.keeps fun b o e => (same b o e).1
  have lim : s.heap.NoLimit := e0.mod.nolimit.keeps fun b o e => (same b o e).1
  have nl := len _ _ _ _ hsp
  have kinds : ∀ y ∈ ps.zip us, (defScope st).names.lookup y.1 = some .local ∨ ((defScope st).names.lookup y.1 = some .cell ∧ ((cellsFrom (s.heap.objs.size + 1) (defScope st).names []).lookup y.1).isSome = true) := by
    rintro ⟨n, v⟩ hy
    have hn := S.par n (List.of_mem_zip hy).1
    exact hn.imp id fun q => ⟨q, PySem.W.cellsFrom_some _ _ _ (.inl q)⟩
  refine codeAny_call_function hr.depth (KX _ _ lk) rfl S.co S.gen rfl (PySem.W.codeRec_of KX hcd) (hb _ _ _ _ ?_)
  refine wpAny_newFunctionEnv_cells S.kind kinds fun env he s1 x => ?_
  subst he
  refine ⟨lim.keeps x.toInCall.keep, codeAny_func ?_⟩
  obtain ⟨t, ht, hq⟩ := hbody A outer s H vs Q E gd (hr.deeper _) hsp
  have I : Inv (cxOf CX0 P w K mg base N qual (defScope st) f cdv A outer s H E) [] (start N vs) H s1 := inv_start S hr.hd e0 nl r x
  refine wpAny_mono (ht.nox.run [] s1 (start N vs) H _ I hq) (fun fl s' hs => ?_) fun e s' hs => hs
  cases fl with
  | ret u =>
    obtain ⟨v, σ', H', J, rv, q⟩ := hs
    exact ⟨v, H', J.os, J.bare, J.base, J.hok, rv, q⟩
  | next =>
    obtain ⟨σ', H', J, q⟩ := hs
    exact ⟨.non, H', J.os, J.bare, J.base, J.hok, rfl, q⟩
  | brk =>
    obtain ⟨_, _, _, q⟩ := hs
    exact q.elim
  | cont =>
    obtain ⟨_, _, _, q⟩ := hs
    exact q.elim
end
def tCallKw (n : Nat) (sp : Sp) (gV : List V → List V → List V) (E : XK) (tk : TA) : TE := fun σ H Q => tk σ H fun zs H2 => zs.length = n ∧ sp (gV [] zs) H2 Q E
section
variable {X : Cx} {CX : CXT} {k : Nat} {f : Addr} {fd : FuncData} {ps ks : List Str} {sp : Sp} {E : XK} {x : Str} {p pos : Pos} {kws : List Keyword} {tk : TA} {g : List Value → List Value → List Value} {gV : List V → List V → List V}
theorem pe_callKw0 (F : FnOk X.prog X.w X.K X.mg X.base CX k f fd ps sp) (hr : Room k X.A) (hg : Gl X x) (hm : X.mg x = some (.ref f)) (hk : PySem.W.keepIn X.K (.ref f) = true) (hb : KBn X.K fd ps 0 ks g gV) (hx : Passes CX X E) (hkw : PK X kws tk)
    (hall : (backToKw pos (keywordEach kws X.env)).all (·.1.isSome) = true := by rfl) (hks : (backToKw pos (keywordEach kws X.env)).filterMap (·.1) = ks := by rfl) (hdb : (x == ("__debug__" : Str)) = false := by decide)
    (hpl : ((backTo pos (starEach [] X.env)).any (·.1) || (backToKw pos (keywordEach kws X.env)).any (·.1.isNone)) = false := by rfl) :
    PE X (.Call (.Name x p) [] kws pos) (tCallKw ks.length sp gV E tk) := by
  refine ⟨fun pins s σ H Q I h => ?_⟩
  refine wpAny_Call_Name_kw (ld_glob I hg hm ?_ hdb)
  refine PySem.W.callWith_KW0 (h₀ := X.base) I.ok.mod.kin hk hall ?_ hpl
  refine thn (hkw.run pos pins s σ H _ I h) fun ws s2 ⟨zs, H2, I2, rz, l2, q2⟩ => ⟨I2.kIn, ?_⟩
  rw [hks]
  exact run_fnN (us := []) (vs := []) F hr hb hx I2 .nil rz rfl l2 q2
end
/-- two arguments by name, the second first -/
def swV {α : Type} (us ws : List α) : List α := match us, ws with
  | [], [u, v] => [v, u]
  | _, _ => []
theorem kbn_sw {K : PySem.W.Frag} {x qual : Str} {st : Stmt} {f : Addr} {fd : FuncData} {s1 s2 : Str} (F : Fun K x qual st f fd)
    (h : ∀ (kV doc pm : Value) (an : Option Addr) (cdv ct : Value) (u v : Value), bindArgs (PySem.W.fnOf x qual (defArgs st) (defBody st) (defScope st) .none kV doc pm an cdv ct) ⟨[], [(s2, u), (s1, v)]⟩ = pure ([s1, s2].zip [v, u])) : KBn K fd [s1, s2] 0 [s2, s1] swV swV := by
  obtain ⟨oc, od, kV, doc, pm, an, cdv, ct, osl, rfl, lk, hcd⟩ := F.ex
  refine ⟨fun s us ws _ l1 l2 => ?_, fun r1 r2 => ?_⟩
  · match us, l1, ws, l2 with
    | [], _, [u, v], _ => exact .of_eq (h kV doc pm an cdv ct u v)
  · unfold swV
    cases r1 with
    | nil => cases r2 with
      | nil => exact .nil
      | cons a r2 => cases r2 with
        | nil => exact .nil
        | cons b r2 => cases r2 with
          | nil => exact .cons b (.cons a .nil)
          | cons _ _ => exact .nil
    | cons _ _ => exact .nil
end My
set_option Elab.async false
set_option linter.all false
set_option autoImplicit false
set_option maxRecDepth 100000
set_option maxHeartbeats 2000000
/-! the values of a dict whose keys are ints or texts: the view, its list -/
namespace My
open PySem PySem.Spec PyProof.Rows L2
theorem pairs_vals {prog : Program} {w : World} {κ : Type} [DecidableEq κ] {knd : KeyKind prog w κ} : ∀ {es : List DictEntry} {kvs : List (κ × Value)}, Pairs knd es kvs → es.map (·.val) = kvs.map (·.2)
  | _, _, .nil => rfl
  | _, _, .cons _ e t => by rw [List.map_cons, List.map_cons, e, pairs_vals t]
theorem kv_vals {κ : Type} : ∀ {kvs : List (κ × V)} {vs : List (κ × Value)}, KV kvs vs → Vals (kvs.map (·.2)) (vs.map (·.2))
  | _, _, Paired.nil => .nil
  | _, _, Paired.cons h t => .cons h.2 (kv_vals t)
section
variable {X : Cx}
def rValsK : V → List V → Hp → VK → Prop := fun x xs H Q => ∃ (a : Addr) (kvs : List (L2.Key × V)), x = .ref a ∧ xs = [] ∧ H a = some (.dK kvs) ∧ ∀ p, H p = none → Q (.ref p) (upd H p (valsO p a))
theorem mt_valsK : MtR X "dict.values" rValsK := by
  rintro pins s σ H x xs v us Q I rx rxs ⟨a, kvs, rfl, rfl, ha, q⟩
  cases rx
  cases rxs
  obtain ⟨_, hd, vs, _, o, es, ep, ho, hx, hdat, _⟩ := dk_of I.hok ha
  refine callVals (es := es) (ep := ep) hd ⟨o, ho, hx, hdat⟩ ?_
  have fr : H s.heap.objs.size = none := I.hok.fresh (Nat.le_refl _)
  exact ⟨.ref s.heap.objs.size, _, I.laid (t' := s.toks) (o := valsO s.heap.objs.size a) (fun b u e => Heap.get?_push_of_some _ e) (Nat.le_refl _) (valsO_ok (Heap.get?_push_size _ rfl)), rfl, q _ fr⟩
def rListValsK : List V → Hp → VK → Prop := fun xs H Q => ∃ (p a : Addr) (kvs : List (L2.Key × V)), xs = [.ref p] ∧ H p = some (valsO p a) ∧ H a = some (.dK kvs) ∧ ∀ q, H q = none → Q (.ref q) (upd H q (.lst (kvs.map (·.2))))
theorem cr_listValsK (hc : X.calm = true) : CallR X (.type "list") rListValsK := by
  rintro pins s σ H xs us Q I r ⟨p, a, kvs, rfl, hp, ha, q⟩
  obtain ⟨u, rfl, rx⟩ := r.one
  cases rx
  obtain ⟨hs, _, vs, pr, o, es, ep, ho, hx, hdt, _, hP, _⟩ := dk_of I.hok ha
  have hv : s.heap.IsValuesView p a := (show ObjOk X.prog X.w H s.heap p (valsO p a) from I.hok p _ hp).1
  have l1 : es.size = vs.length := by rw [← hP.length, Array.length_toList]
  have l2 : kvs.length = vs.length := Paired.length pr
  refine PySem.W.kdl_call (KdlSrc.rawValues (es := es) (ep := ep)) (I.ok.hd hc) ⟨hv, o, ho, hx, hdt⟩ (by omega) fun h' tk acc' c' kp e it => ?_
  have ea : acc'.toList = vs.map (·.2) := by
    rw [← pairs_vals hP]
    have hl : acc'.toList.length = es.toList.length := by rw [Array.length_toList, Array.length_toList, it.1]
    refine List.ext_getElem? fun j => ?_
    rw [List.getElem?_map]
    cases hj : acc'.toList[j]? with
    | none =>
      have := List.getElem?_eq_none_iff.mp hj
      rw [List.getElem?_eq_none (by omega)]
      rfl
    | some v =>
      obtain ⟨hi, hv⟩ := it.2 j v (by rw [← Array.getElem?_toList]; exact hj)
      rw [hv, Array.getElem?_toList, Array.getElem?_eq_getElem hi]
      rfl
  have rv : Vals (kvs.map (·.2)) acc'.toList := by
    rw [ea]
    exact kv_vals pr
  have hz : (kvs.map (·.2)).length ≤ sizeLine := by
    rw [List.length_map]
    exact hs
  refine ⟨.ref s.heap.objs.size, _, I.laid (t' := tk) (o := .lst (kvs.map (·.2))) kp (Nat.le_refl _) ?_, rfl, q _ (I.hok.fresh (Nat.le_refl _))⟩
  exact ⟨hz, acc'.toList, c', rv, by rw [Array.toArray_toList]; exact e⟩
end
theorem crSum {X : Cx} (K : PySem.W.Frag) (hc : X.calm = true := by rfl) (hK : X.K = K := by rfl) : CallR X (.builtin "sum") (rSum K) := by
  subst hK
  exact cr_sum hc
end My
set_option Elab.async false
set_option linter.all false
set_option autoImplicit false
set_option maxRecDepth 100000
set_option maxHeartbeats 2000000
/-! enumerate over a text -/
namespace My
open PySem PySem.Spec PyProof.Rows L2
/-- a text's signs, each in a new pair with its number -/
def IteS (z : Str) : It :=
  ⟨fun i _ => i < z.cps.size,
   fun i H v H' => ∃ T c, v = .ref T ∧ H T = none ∧ H' = upd H T (.tup [.int (i : Nat), .str ⟨#[c]⟩]) ∧ z.cps[i]? = some c,
   fun i _ => z.cps.size ≤ i⟩
theorem turnEnumS {P : Program} {w : World} {K : PySem.W.Frag} {elts : List Expr} {kk : Nat} {tpos : Pos} (z : Str) (t : Tok) (e it : Addr) :
    Turn P w K (.Tuple elts kk tpos) (IteS z) [e, it] e (fun i h => (∃ old, IsEnum h e it ((i : Nat) : Int) old) ∧ h.IsStrIter it (strIterType z) z t i ∧ e ≠ it ∧ i ≤ z.cps.size) where
  mem := by simp
  obj := fun i h st b hb => by
    obtain ⟨⟨old, he⟩, ⟨o, ho, _, hd⟩, _⟩ := st
    rcases (by simpa using hb : b = e ∨ b = it) with q | q
    · rw [q]
      exact ⟨_, he, fun v y => nomatch y⟩
    · rw [q]
      exact ⟨o, ho, fun v y => by rw [hd] at y; cases y⟩
  keep := fun i h h' st k => by
    obtain ⟨⟨old, he⟩, ⟨o, ho, r⟩, n1, n2⟩ := st
    exact ⟨⟨old, k e (by simp) _ he⟩, ⟨o, k it (by simp) o ho, r⟩, n1, n2⟩
  item := by
    intro X hP hw hK hc i pins s σ H E I hf st hg
    subst hP hw hK
    obtain ⟨⟨old, he⟩, hit, hne, hle⟩ := st
    have hlt : i < z.cps.size := hg
    have lt1 : e < s.heap.objs.size := Heap.lt_size he
    have lt2 : it < s.heap.objs.size := by
      obtain ⟨_, q, _⟩ := hit
      exact Heap.lt_size q
    refine wpAny_pyNext_enum_itemD (Draws.text (A := X.A.in1) (I.ok.hd hc) it z t) he hit hlt hne (by simp [hne]) fun u' h' tk hu' ho st' hT sz hk => ?_
    obtain ⟨c, u, hcx, rfl⟩ := hu'
    refine ⟨_, rfl, wpAny_letOwnedTupleGo_enum (s := { s with heap := h', toks := tk + 1 }) ho fun h'' he' sb => ?_⟩
    have hT2 : h''.get? s.heap.objs.size = some { cls := .type "tuple", data := .seq #[.int i tk, .str ⟨#[c]⟩ u] } := (sb.2 _ (Nat.ne_of_gt lt1)).trans hT
    have new : ObjOk X.prog X.w (upd H s.heap.objs.size (.tup [.int (i : Nat), .str ⟨#[c]⟩])) h'' s.heap.objs.size (.tup [.int (i : Nat), .str ⟨#[c]⟩]) :=
      ⟨by show 2 ≤ sizeLine; decide, [.int i tk, .str ⟨#[c]⟩ u], .cons ⟨_, rfl⟩ (.cons ⟨_, rfl⟩ .nil), ⟨_, hT2, rfl, _, rfl⟩⟩
    have I1 : Inv X pins σ (upd H s.heap.objs.size (.tup [.int (i : Nat), .str ⟨#[c]⟩])) { s with heap := h'', toks := tk + 1 } :=
      I.turnedNew (ch := [e, it]) (fun b ob hb q => (sb.2 b (fun y => hb (by simp [y]))).trans (hk b ob (fun y => hb (by simp [y])) (fun y => hb (by simp [y])) q)) hf (Nat.le_refl _) new
    have st'' : h''.IsStrIter it (strIterType z) z t (i + 1) := by
      obtain ⟨o, q1, q2⟩ := st'
      exact ⟨o, (sb.2 it (Ne.symm hne)).trans q1, q2⟩
    refine ⟨.ref s.heap.objs.size, _, I1, rfl, ⟨_, c, rfl, I.hok.fresh (Nat.le_refl _), rfl, hcx⟩, ⟨⟨.str ⟨#[c]⟩ u, ?_⟩, st'', hne, hlt⟩, fun b hb => ?_⟩
    · have e1 : ((i + 1 : Nat) : Int) = (i : Int) + 1 := by omega
      rw [e1]
      exact he'
    · have lt3 : b < s.heap.objs.size := by
        rcases (by simpa using hb : b = e ∨ b = it) with q | q
        · rw [q]; exact lt1
        · rw [q]; exact lt2
      rw [upd_ne (Nat.ne_of_lt lt3)]
      exact (hf b hb).1
  done := by
    intro X hP hw hK hc i pins s σ H E I hf st hg
    subst hP hw hK
    obtain ⟨⟨old, he⟩, hit, hne, hle⟩ := st
    have hi : i = z.cps.size := Nat.le_antisymm hle hg
    subst hi
    obtain ⟨f0, f1, f2, f3, f4, f5⟩ := hf it (by simp)
    exact wpAny_pyNext_enum_endD (Draws.text (A := X.A.in1) (I.ok.hd hc) it z t) he hit fun h' he' => ⟨rfl, I.turned (t' := s.toks) (fun b o hb q => he' b o hb q) f0 f1 f3 f4 f5⟩
  self := fun A i s Q E st h => by
    obtain ⟨⟨_, he⟩, _⟩ := st
    exact wpAny_pyIter_enum he h
def iEnumS (ta : TA) : TI := fun σ H R => ta σ H fun vs H1 => ∃ z, vs = [.str z] ∧ R (IteS z) H1
theorem pi_enumS {X : Cx} {e : Expr} {ta : TA} {p pos tpos : Pos} {elts : List Expr} {kk : Nat} (hg : Gl X "enumerate") (hm : X.mg "enumerate" = none) (ha : PA X [e] ta) (hs : starEach [e] X.env = [(false, eval e X.env)] := by rfl) :
    PI X (.Tuple elts kk tpos) (.Call (.Name "enumerate" p) [e] [] pos) (iEnumS ta) := by
  refine ⟨fun pins s σ H R I h => ?_⟩
  refine Call_ (ld_blt I hg hm boot_enumerate (PyProof.Rows.callWith_type1 (thn (ha.run pos pins s σ H _ I h) fun us s1 ⟨vs, H1, I1, r1, q1⟩ => ?_) hs rfl))
  obtain ⟨z, ex, q⟩ := q1
  subst ex
  cases r1 with
  | cons r rr =>
    cases rr
    obtain ⟨t, rfl⟩ := r
    refine callEnumT (begins_text z t) trivial fun h' he hit hk => wpAny_pyIter_enum he ?_
    have I2 : Inv X pins σ H1 { s1 with heap := h' } := I1.kept (t' := s1.toks) hk
    refine ⟨s1.heap.objs.size + 1, [s1.heap.objs.size + 1, s1.heap.objs.size], _, _, H1, rfl, I2, turnEnumS z t (s1.heap.objs.size + 1) s1.heap.objs.size, ⟨⟨.none, he⟩, ⟨_, hit, rfl, rfl⟩, Nat.succ_ne_self _, Nat.zero_le _⟩, fun b hb => ?_, q⟩
    have hle : s1.heap.objs.size ≤ b := by
      rcases (by simpa using hb : b = s1.heap.objs.size + 1 ∨ b = s1.heap.objs.size) with y | y
      · rw [y]; exact Nat.le_add_right _ _
      · rw [y]; exact Nat.le_refl _
    exact I1.fpOk hle (I1.hok.fresh hle)
theorem walk_enumS {z : Str} : Walk (IteS z) z.cps.size (fun _ => True) (fun i H v H' => ∃ T c, v = .ref T ∧ H T = none ∧ H' = upd H T (.tup [.int (i : Nat), .str ⟨#[c]⟩]) ∧ z.cps[i]? = some c) :=
  ⟨fun i H hi _ => hi, fun H _ => Nat.le_refl _, fun i H x H' _ _ y => y⟩
end My
set_option Elab.async false
set_option linter.all false
set_option autoImplicit false
set_option maxRecDepth 100000
set_option maxHeartbeats 2000000
/-! a text times a number -/
namespace My
open PySem PySem.Spec PyProof.Rows L2
def repS (z : Str) (n : Nat) : Str := ⟨((List.replicate n z.cps.toList).flatten).toArray⟩
def rMulS : R2 := fun x y H Q => ∃ (z : Str) (n : Nat), x = .str z ∧ y = .int (n : Int) ∧ z.cps.size ≤ 10000 ∧ n ≤ 1000 ∧ Q (.str (repS z n)) H
theorem fold_rep {z : Array Nat} : ∀ (n : Nat) (a : Array Nat), (List.replicate n z).foldl (· ++ ·) a = a ++ ((List.replicate n z.toList).flatten).toArray
  | 0, a => by simp
  | n + 1, a => by
    rw [List.replicate_succ, List.foldl_cons, fold_rep n (a ++ z), List.replicate_succ, List.flatten_cons]
    apply Array.toList_inj.mp
    simp
theorem op_mulS {X : Cx} : OpR X (binaryOp .Mult) rMulS := by
  intro pins s σ H x y v u Q I rx ry h
  obtain ⟨z, n, rfl, rfl, hz, hn, q⟩ := h
  obtain ⟨t, rfl⟩ := rx
  obtain ⟨t2, rfl⟩ := ry
  have hlen : z.length = z.cps.size := rfl
  have hb : z.cps.size * n ≤ 10000000 := by
    have := Nat.mul_le_mul hz hn
    omega
  refine PySem.P.mul_str ?_ (fun h1 h2 => ?_) (fun h1 h2 => ?_) ?_
  · rw [decide_eq_false (by omega), decide_eq_false (by omega)]
    rfl
  · have hn1 : 1 ≤ n := by omega
    have d : (1000000000 : Int) ≤ (2 ^ 63 - 1) / (n : Int) := Int.le_ediv_of_mul_le (by omega) (by omega)
    rw [hlen]
    omega
  · unfold Builtin.Str.tooLong
    rw [hlen, show ((n : Nat) : Int).toNat = n by omega]
    refine decide_eq_false ?_
    rw [sizeLine_eq]
    omega
  · have sz : (repS z n).length ≤ sizeLine := by
      show (((List.replicate n z.cps.toList).flatten).toArray).size ≤ sizeLine
      rw [List.size_toArray, List.length_flatten, List.map_replicate, List.sum_replicate_nat, Array.length_toList, sizeLine_eq, Nat.mul_comm]
      omega
    by_cases h1 : ((n : Nat) : Int) < 1
    · rw [if_pos h1]
      have e : n = 0 := by omega
      subst e
      exact ⟨by decide, .str (repS z 0), H, I.tok _, ⟨_, rfl⟩, q⟩
    · rw [if_neg h1]
      by_cases h2 : (((n : Nat) : Int) == 1 || z.length == 0) = true
      · rw [if_pos h2]
        have e : repS z n = z := by
          unfold repS
          rw [Bool.or_eq_true, beq_iff_eq, beq_iff_eq] at h2
          rcases h2 with h2 | h2
          · have e : n = 1 := by omega
            subst e
            simp
          · have ez : z.cps = #[] := Array.size_eq_zero_iff.mp h2
            have ez2 : z.cps.toList = [] := by
              rw [ez]
            have ef : (List.replicate n ([] : List Nat)).flatten = [] := by simp
            rw [ez2, ef]
            cases z
            dsimp only at ez
            rw [ez]
        rw [e] at q
        exact ⟨.str z, H, I, ⟨_, rfl⟩, q⟩
      · rw [if_neg h2]
        have e : (⟨(List.replicate ((n : Nat) : Int).toNat z.cps).foldl (· ++ ·) #[]⟩ : Str) = repS z n := by
          unfold repS
          rw [show ((n : Nat) : Int).toNat = n by omega, fold_rep]
          simp
        rw [e]
        exact ⟨sz, .str (repS z n), H, I.tok _, ⟨_, rfl⟩, q⟩
end My
set_option Elab.async false
set_option linter.all false
set_option autoImplicit false
set_option maxRecDepth 100000
set_option maxHeartbeats 4000000
/-! several except clauses, each with its name: except A as n: .. except B as n: .. -/
namespace My
open PySem PySem.Spec PyProof.Rows L2
/-- a clause: its class, the slot of its name, its suite's reading -/
abbrev Cl := Value × Nat × (Addr → Value → Option Addr → TS)
/-- behind a suite the name is gone -/
def goneE (i : Nat) (D : Ends) : Ends :=
  { nx := fun σ G => D.nx (σ.set i none) G, rt := D.rt, bk := fun σ G => D.bk (σ.set i none) G, ct := fun σ G => D.ct (σ.set i none) G }
/-- what the clauses wish of an error of the body -/
def wManyAs (K : PySem.W.Frag) (Wout : WX) (D : Ends) : List Cl → WX
  | [] => Wout
  | (c, i, ts) :: r => fun cls d σ H => ∃ b, PySem.W.exmOne K cls c = some b ∧ (b = true → ∀ a, H a = none → ts a cls d (goneE i D) (σ.set i (some (.ref a))) H) ∧ (b = false → wManyAs K Wout D r cls d σ H)
inductive HdsAs (X : Cx) : List ExceptHandler → List Cl → Prop
  | nil : HdsAs X [] []
  | cons {x n : Str} {c : Value} {i : Nat} {ts : Addr → Value → Option Addr → TS} {b0 : Stmt} {su : List Stmt} {p1 p2 : Pos} {hds : List ExceptHandler} {l : List Cl} (hN : X.N.Nodup) (hi : X.N[i]? = some n) (hln : X.env.kindOf n = some .local) (hc : Names X x c)
      (hsu : ∀ (a : Addr) (oe : Obj) (cls : Value) (d : Option Addr) (pn : List (Addr × Obj)), Zc cls d oe → (∃ vs, oe.data = .fields vs) → PSs (X.suite a ((a, oe) :: pn)) (b0 :: su) (ts a cls d)) (r : HdsAs X hds l) :
      HdsAs X (.ExceptHandler (some (.Name x p1)) (some n) (b0 :: su) p2 :: hds) ((c, i, ts) :: l)
section
variable {X : Cx} {body : List Stmt} {h0 : ExceptHandler} {hds : List ExceptHandler} {l : List Cl} {pos : Pos} {tb : WX → TS} {Wout : WX}
theorem ps_try_manyAs (hs : X.stack = X.env :: X.outer) (hf : X.env.frame = some X.env.locals) (tk : Takes X Wout)
    (hb : ∀ (W : WX) (pn : List (Addr × Obj)) (xe : Value → Shared → Prop), Takes (X.tr pn xe) W → PassesOwn (model X.prog X.w) X.A X.env xe → PSs (X.tr pn xe) body (tb W))
    (hh : HdsAs X (h0 :: hds) l) : PS X (.Try body (h0 :: hds) [] [] pos) (fun D σ H => tb (wManyAs X.K Wout D l) D σ H) := by
  refine ⟨fun pins s σ H D I h => ?_⟩
  have ok := I.ok
  have frames : X.A.frames = some (X.env :: X.outer) := ok.frames.trans (by rw [hs])
  refine wpAny_Try_except ?_
  refine wpAny_mono ((hb (wManyAs X.K Wout D l) (X.pn ++ pins) (fun e s1 => wpAny (model X.prog X.w) X.A (noteFrame e X.env) (fun _ s2 => wpAny (model X.prog X.w) X.A (setFlight e none) (fun _ s3 =>
    wpAny (model X.prog X.w) X.A (handleBy e X.env (h0 :: hds)) (SP X pins D) X.xe s3) X.xe s2) X.xe s1) (fun u s' caught => ?_) PassesOwn.looking).run [] s σ H D (I.toTry _) h) (fun f s1 done => ?_) (fun e s1 he => he)
  · skip
    obtain ⟨a, B, sI, pins', σ', H', cls, d, rfl, J', nb, up, sky, na, os, ag, w⟩ := caught
    have J : Inv X pins σ' H' sI := J'.ofTry ok
    show wpAny (model X.prog X.w) X.A (noteFrame (.ref a) X.env) _ _ _
    refine Sky.land Zc.steady frames hf (by rw [← hs]; exact sky) fun h3 fl3 up3 => ?_
    have J3 : Inv X pins σ' H' { s' with heap := h3 } := J.landed nb fl3.1 (up.trans up3) os ag
    obtain ⟨oe3, vs3, he3, hz3, hd3⟩ := fl3.there
    have off : a ∉ frs (X.env :: X.outer) := fun hm => by
      obtain ⟨_, o', e', hnf⟩ := fl3.2.2.1.mem hm
      cases he3.symm.trans e'
      exact hnf _ hd3
    have nL : a ≠ X.env.locals := fun z => off (List.mem_filterMap.mpr ⟨X.env, List.mem_cons_self, by rw [hf, z]⟩)
    have nF : a ∉ X.fs := fun hm => by
      obtain ⟨e, he, q⟩ := List.mem_filterMap.mp hm
      exact off (List.mem_filterMap.mpr ⟨e, List.mem_cons_of_mem _ he, q⟩)
    have S3 := J3.suite he3 hd3 na nL nF
    have go : ∀ {hs2 : List ExceptHandler} {l2 : List Cl}, HdsAs X hs2 l2 → wManyAs X.K Wout D l2 cls d σ' H' → wpAny (model X.prog X.w) X.A (handleBy (.ref a) X.env hs2) (SP X pins D) X.xe { s' with heap := h3 } := by
      intro hs2 l2 hk
      induction hk with
      | nil =>
        intro w
        refine wpAny_handleBy_nil ?_
        obtain ⟨k1, k2, k3, oe, vs, T, oT, ts', he, hz, hd, h1, hr⟩ := id fl3
        unfold PySem.passOn
        refine wpAny_bind (wpAny_field he hd h1 ?_)
        rw [if_neg (show ¬ ((Value.ref T == Value.none) = true) from by simp)]
        have out : wpAny (model X.prog X.w) X.A (setFlight (.ref a) X.env.frame) (fun _ s4 => wpAny (model X.prog X.w) X.A (throw (.ref a) : Sem Flow) (SP X pins D) X.xe s4) X.xe { s' with heap := h3 } := by
          rw [hf]
          refine HandSPX.setFlight_upZ fl3 fun h4 hh4 up4 => wpAny_throw (tk _ _ ?_)
          exact ⟨a, B, sI, pins, σ', H', cls, d, rfl, J, nb, (up.trans up3).trans up4, .inr (.inr (by rw [hs]; exact hh4)), na, os, ag, w⟩
        first
          | exact wpAny_bind (wpAny_pure (wpAny_bind out))
          | exact wpAny_bind out
      | @cons x n c i ts b0 su p1 p2 hds2 l3 hN hi hln hc hsu r ih =>
        intro w
        obtain ⟨b, hb1, yes, no⟩ := w
        refine wpAny_handleBy_cons (codeAny_handlers_test ?_) (by intro q; cases q)
        have looks : PySem.W.Looks (model X.prog X.w) h3 (typeOf (.ref a)) cls := fun A Q E s k q => wpAny_typeOf_ref (k _ _ he3) (by rw [hz3.1]; exact q)
        have named : ∀ {Q : Value → Shared → Prop} {E : Value → Shared → Prop}, Q c { s' with heap := h3 } → wpAny (model X.prog X.w) (X.A.mark (some (.ref a))) (eval (.Name x p1) X.env) Q E { s' with heap := h3 } := fun {Q E} q => by
          obtain ⟨hg, hdbg, hm | ⟨hm, hv, hnn⟩⟩ := hc
          · exact ld_glob (X := X.suite a ((a, oe3) :: (X.pn ++ pins))) S3 hg hm q hdbg
          · exact ld_blt (X := X.suite a ((a, oe3) :: (X.pn ++ pins))) S3 hg hm hv q hnn hdbg
        refine named ((PySem.W.exm_one (M := model X.prog X.w) (J3.kIn) looks hb1).here ?_)
        cases b with
        | false =>
          show wpAny _ X.A (handleBy (.ref a) X.env hds2) _ _ _
          exact ih (no rfl)
        | true =>
          refine codeAny_handlers_suite_as ?_
          refine HandSPX.lands_againZ fl3 fun h4 fl4 up4 => ?_
          have J4 : Inv X pins σ' H' { s' with heap := h4 } := J.landed nb fl4.1 ((up.trans up3).trans up4) os ag
          obtain ⟨oe4, vs4, he4, hz4, hd4⟩ := fl4.there
          have S4 := J4.suite he4 hd4 na nL nF
          refine store_ok (X := X.suite a ((a, oe4) :: (X.pn ++ pins))) (v := .ref a) S4 hN hi (.inl hln) rfl (fun s5 S5 => ?_) (.inr hln)
          refine wpAny_mono ((hsu a oe4 cls d (X.pn ++ pins) hz4 ⟨_, hd4⟩).run [] s5 _ H' _ S5 (yes rfl a na)) (fun f s6 done => ?_) (fun _ _ z => False.elim z)
          have left : ∀ {σ6 : L2.St} {H6 : Hp} {Q : Shared → Prop}, Inv (X.suite a ((a, oe4) :: (X.pn ++ pins))) [] σ6 H6 s6 → (∀ s7, Inv X pins (σ6.set i none) H6 s7 → Q s7) →
              wpAny (model X.prog X.w) X.A (do bindName X.env n .none; unbindBehindTheSuite X.env n p2) (fun _ s7 => Q s7) X.xe s6 := fun {σ6 H6 Q} S6 hq => gone_ok (S6.unsuite ok) hN hi hln hq
          cases f with
          | ret u =>
            obtain ⟨v6, σ6, H6, S6, r6, q6⟩ := done
            exact left S6 fun s7 J7 => ⟨_, _, _, J7, r6, q6⟩
          | next =>
            obtain ⟨σ6, H6, S6, q6⟩ := done
            exact left S6 fun s7 J7 => ⟨_, _, J7, q6⟩
          | brk =>
            obtain ⟨σ6, H6, S6, q6⟩ := done
            exact left S6 fun s7 J7 => ⟨_, _, J7, q6⟩
          | cont =>
            obtain ⟨σ6, H6, S6, q6⟩ := done
            exact left S6 fun s7 J7 => ⟨_, _, J7, q6⟩
    exact go hh w
  · cases f with
    | ret u =>
      obtain ⟨v, σ', H', J', r, q⟩ := done
      exact ⟨v, σ', H', J'.ofTry ok, r, q⟩
    | next =>
      obtain ⟨σ', H', J', q⟩ := done
      exact wpAny_execs_nil ⟨σ', H', J'.ofTry ok, q⟩
    | brk =>
      obtain ⟨σ', H', J', q⟩ := done
      exact ⟨σ', H', J'.ofTry ok, q⟩
    | cont =>
      obtain ⟨σ', H', J', q⟩ := done
      exact ⟨σ', H', J'.ofTry ok, q⟩
end
end My
set_option Elab.async false
set_option linter.all false
set_option autoImplicit false
set_option maxRecDepth 100000
set_option maxHeartbeats 4000000
/-! an own error over a built-in error that has no __new__ of its own (KeyError): what the making asks of the class's line -/
namespace My
open PySem PySem.Spec PySem.HandSPX
/-- of a class's line: the class whose __new__ is taken is in it; no attribute's or name's error -/
structure Line (B : String) (bm : List Value) : Prop where
  has : bm.contains (.type B) = true
  noA : bm.contains (.type "AttributeError") = false
  noN : bm.contains (.type "NameError") = false
section
variable {prog : Program} {w : World} {A : Around} {E : Value → Shared → Prop} {R : Result → Shared → Prop} {h : Heap} {g : Array GenState} {d : Drawn} {t : Nat} {os : OsState}
variable {nm q : Str} {C N : Addr} {bs bm bmB : List Value} {hdct : Bool} {sn : List Str} {sub : List Value} {ab : Bool} {col : Option Bool} {dd : Option Addr} {k0 k1 k2 k3 k5 : Option Value} {B newId initId : String}
theorem Line.ref (L : Line B bm) (C : Addr) : Line B (.ref C :: bm) := by
  refine ⟨?_, ?_, ?_⟩ <;> rw [List.contains_cons]
  · rw [L.has, Bool.or_true]
  · rw [L.noA]
    rfl
  · rw [L.noN]
    rfl
theorem line_check (F : ExcBaseFacts B newId initId bmB) (L : Line B bm) {M : Model} {rest : List Value} {Q : Unit → Shared → Prop} (hC : h.get? C = some (excClassObj nm q C N bs bm hdct sn sub ab col dd k0 k1 k2 k3 k5 newId)) (hq : Q () ⟨h, g, d, t, os⟩) :
    wpAny M A (checkBuiltinCall newId ⟨.ref C :: rest, []⟩) Q E ⟨h, g, d, t, os⟩ := by
  have inLine := (L.ref C).has
  have noStar := F.noStar
  simp only [checkBuiltinCall, F.newKind, F.newSplit, F.newRow]
  repeat (first
    | refine wpAny_loadPart_at hC ?_
    | (refine wpAny_isSubtype_exc hC ?_; rw [inLine])
    | refine wpAny_staticBase_exc hC ?_
    | refine wpAny_madeBy_exc hC ?_
    | simp only [bne_self_eq_false, Bool.false_eq_true, if_false]
    | wp_step)
  exact hq
theorem line_new (F : ExcBaseFacts B newId initId bmB) (L : Line B bm) {rest : List Value} (hC : h.get? C = some (excClassObj nm q C N bs bm hdct sn sub ab col dd k0 k1 k2 k3 k5 newId)) (small : rest.length ≤ sizeLine)
    (hq : R (.ok (.ret (.ref (h.objs.size + 1)))) ⟨(h.push (W.kdv_tup rest)).push (excO C h.objs.size), g, d, t, os⟩) : codeAny (model prog w) A (.builtin newId ⟨.ref C :: rest, []⟩) R ⟨h, g, d, t, os⟩ := by
  have ends := F.ends
  obtain ⟨l1, l2, l3⟩ := L.ref C
  refine codeAny_builtinAt F.entry ?_
  unfold Builtin.«BaseException.__new__»
  refine wpAt_bind ?_
  show wpAt _ _ _ (stack >>= _) _ _ _
  refine wpAt_bind (wpAt_stack fun p below => wpAt_of_wpAny ?_)
  wp_walk
  refine wpAt_of_wpAny ?_
  rw [F.owner]
  repeat (first
    | with_reducible refine wpAny_madeHere_exc F.canon hC ?_
    | with_reducible refine wpAny_loadPart_at hC ?_
    | (with_reducible refine wpAny_isSubtype_exc hC ?_; first | rw [l1] | rw [l2] | rw [l3])
    | wp_step)
  show R _ _
  rw [Heap.size_push]
  exact hq
theorem line_type (F : ExcBaseFacts B newId initId bmB) (L : Line B bm) {rest : List Value} {fI : Addr} {Q : Fin → Shared → Prop} (hC : h.get? C = some (excClassObj nm q C N bs bm hdct sn sub ab col dd k0 k1 k2 k3 k5 newId))
    (hi : W.Looks (model prog w) h (typeLookup (.ref C) "__init__") (some (.ref fI))) (hb : ∀ self, W.Looks (model prog w) h (bindSpecial (.ref fI) self) (.ref fI, [self])) (small : rest.length ≤ sizeLine)
    (hq : codeAny (model prog w) A (.call (.ref fI) ⟨.ref (h.objs.size + 1) :: rest, []⟩) (fun r s' => match r with | .ok (.ret v) => v = .none ∧ Q (.done (.ret (.ref (h.objs.size + 1)))) s' | .ok _ => False | .error e => E e s')
      ⟨(h.push (W.kdv_tup rest)).push (excO C h.objs.size), g, d, t, os⟩) : wpAny (model prog w) A (Builtin.«type.__call__» ⟨.ref C :: rest, []⟩) Q E ⟨h, g, d, t, os⟩ := by
  repeat (first
    | with_reducible refine wpAny_loadPart_at hC ?_
    | with_reducible refine wpAny_madeBy_exc hC ?_
    | wp_step)
  refine codeAny_call_builtin_code (Code.quiet_builtin _ F.quiet) (line_check F L hC (line_new F L hC small ?_))
  show wpAny _ _ _ _ _ _
  have grown : ∀ b o, h.get? b = some o → ((h.push (W.kdv_tup rest)).push (excO C h.objs.size)).get? b = some o := fun b o e => Heap.get?_push_of_some _ (Heap.get?_push_of_some _ e)
  have made : ((h.push (W.kdv_tup rest)).push (excO C h.objs.size)).get? (h.objs.size + 1) = some (excO C h.objs.size) := by heap_get
  have hC' := grown _ _ hC
  have self : (Value.ref C :: bm).contains (.ref C) = true := by simp
  unfold isInstance
  repeat (first
    | with_reducible refine wpAny_loadPart_at made ?_
    | (with_reducible refine wpAny_isSubtype_exc hC' ?_; rw [self])
    | wp_step)
  show wpAny _ _ (typeLookup (.ref C) _) _ _ _
  refine (hi.keeps grown).at ?_
  refine wpAny_holding (wpAny_bind (((hb (.ref (h.objs.size + 1))).keeps grown).at ?_))
  refine wpAny_bind (wpAny_call (codeAny_mono hq fun r s' z => ?_))
  rcases r with e | (v | _ | _ | _) <;> first | exact z | exact z.elim | skip
  obtain ⟨rfl, z⟩ := z
  first
    | exact wpAny_pure (wpAny_pure z)
    | (wp_walk; exact z)
theorem line_call (F : ExcBaseFacts B newId initId bmB) (L : Line B bm) {rest : List Value} {fI : Addr} (hC : h.get? C = some (excClassObj nm q C N bs bm hdct sn sub ab col dd k0 k1 k2 k3 k5 newId))
    (hi : W.Looks (model prog w) h (typeLookup (.ref C) "__init__") (some (.ref fI))) (hb : ∀ self, W.Looks (model prog w) h (bindSpecial (.ref fI) self) (.ref fI, [self])) (small : rest.length ≤ sizeLine)
    (hq : codeAny (model prog w) (A.under (.builtin "type.__call__" ⟨.ref C :: rest, []⟩)) (.call (.ref fI) ⟨.ref (h.objs.size + 1) :: rest, []⟩) (W.InitBack (h.objs.size + 1) R)
      ⟨(h.push (W.kdv_tup rest)).push (excO C h.objs.size), g, d, t, os⟩) : codeAny (model prog w) A (.call (.ref C) ⟨rest, []⟩) R ⟨h, g, d, t, os⟩ := by
  have look := tc_lookup
  have bind := tc_bind (.ref C)
  have isT : (⟨h, g, d, t, os⟩ : Shared).TypeIs (.ref C) "type" := ⟨_, hC, rfl⟩
  refine codeAny_of_tree ?_
  show wpAny _ _ (callAny (.ref C) _) _ _ _
  repeat (any_goals (first
    | assumption
    | with_reducible refine wpAny_loadPart_at hC ?_
    | wp_step))
  refine ⟨rfl, codeAny_call_builtin_at (Code.quiet_builtin _ (by decide +kernel)) entry_typeCall (wpAny_check_type_call_sub hC (line_type F L hC hi hb small (codeAny_mono hq fun r s' z => ?_)))⟩
  rcases r with e | (v | _ | _ | _) <;> exact z
end
end My
set_option Elab.async false
set_option linter.all false
set_option autoImplicit false
set_option maxRecDepth 100000
set_option maxHeartbeats 4000000
/-! own exceptions with one field, over any built-in base (after skel/42, which speaks of ValueError) -/
namespace PySem
namespace OneXL
open PySem.W PySem.Calls PyProof.Rows PySem.HandSPX Builtin.ObjectAttr
/-- what is asked of a built-in base's line of classes -/
structure Tail (bmB : List Value) : Prop where
  pass : ∀ self : Value, refuseLoop self "__setattr__" bmB = pure ()
  obj : bmB.contains (.type "object") = true
abbrev exTail : List Value := [.type "Exception", .type "BaseException", .type "object"]
theorem tail_ex : Tail exTail := ⟨fun self => by kernel_rfl, by decide +kernel⟩
section
variable {prog : Program} {w : World} {A : Around} {R : Result → Shared → Prop} {hp : Heap} {g : Array GenState} {d : Drawn} {t : Nat} {os : OsState}
/-- self.name = v on a fresh exception -/
theorem osaX {bmB : List Value} (TB : Tail bmB) {K : Frag} {name : Str} {tk : Tok} {v : Value} {x C : Addr} {fv : Array Value} {cd : ClassData} (X : K.In hp) (hx : hp.get? x = some { cls := .ref C, data := .fields fv }) (hcd : clsIn K C = some cd)
    (hm : excTail bmB cd.mro = true) (hh : cd.hasDict = true) (ha : findIn K (.ref C) name = some none)
    (hq : ∀ h' tk' dx, (∀ b o, b ≠ x → hp.get? b = some o → h'.get? b = some o) → hp.objs.size ≤ dx → dx ≠ x → h'.get? x = some { cls := .ref C, dict := some dx, data := .fields fv } → h'.Ns1 dx (fun y => if y = name then some v else none) → R (.ok (.ret .none)) ⟨h', g, d, tk', os⟩) :
    codeAny (model prog w) A (.call (.builtin "object.__setattr__") ⟨[.ref x, .str name tk, v], []⟩) R ⟨hp, g, d, t, os⟩ := by
  have ob : cd.mro.contains (.type "object") = true := by rw [excTail_contains "object" _ hm]; exact TB.obj
  have ne : cd.mro.isEmpty = false := by
    cases e : cd.mro with
    | nil => rw [e] at ob; cases ob
    | cons _ _ => rfl
  have at_x : InstAt hp x { cls := .ref C, data := .fields fv } C none := ⟨hx, rfl, rfl, trivial⟩
  have xs : x ≠ hp.objs.size := fun z => Nat.lt_irrefl _ (by have := Heap.lt_size hx; rw [← z] at this; exact this)
  have isObj : Looks (model prog w) hp (isInstance (.ref x) (.type "object")) true := at_x.type.andThen (looks_mroIn X (by unfold mroIn; rw [hcd, Option.bind_some, if_neg (by rw [ne]; exact Bool.false_ne_true), ob]))
  have lm : Looks (model prog w) hp (mroOf (.ref C)) cd.mro := (looks_clsIn X hcd).andThen .now
  have lc : Looks (model prog w) hp (classData C) cd := looks_clsIn X hcd
  refine codeAny_call_builtin F.store_object.slot.plain F.store_object.entry (@check_slot (model prog w) _ _ ⟨hp, g, d, t, os⟩ "object.__setattr__" "object" "__setattr__" (.ref x) [.str name tk, v] [] _ F.store_object.kind F.store_object.split isObj (F.store_object.args (.ref x) (.str name tk) v) ?_)
  rw [osa_eq, refuse_eq]
  refine wpAny_bind (wpAny_bind (at_x.type.at (wpAny_bind (lm.at ?_))))
  rw [excTail_pass (.ref x) (TB.pass _) _ hm]
  have lt : Looks (model prog w) hp (storeTaker? none) none := .now
  refine wpAny_pure (wpAny_bind (at_x.type.at (wpAny_bind ((looks_findIn X ha).at (wpAny_bind (lt.at ?_))))))
  show wpAny _ _ (storeInOwnDict (.ref x) (.ref C) (.str name tk) name v false) _ _ _
  obtain ⟨c1, c2, c3, c4, c5, c6, c7, c8, c9, c10, c11⟩ := cd
  dsimp only at hh
  subst hh
  unfold storeInOwnDict ownDictForStores
  repeat (first | with_reducible refine store_in_new ?_ ?_ | with_reducible refine wpAny_loadPart_at hx ?_ | with_reducible refine lc.at ?_ | wp_step)
  · refine ⟨_, #[], _, (Heap.get?_update_ne _ _ _ _ xs.symm).trans (Heap.get?_push_at rfl rfl), rfl, fun e he => absurd he (by simp), fun _ => rfl⟩
  · intro h' tk' hn' hs
    have x1 : (hp.push { cls := .type "dict", data := .dict #[] }).get? x = some { cls := .ref C, data := .fields fv } := Heap.get?_push_of_some _ hx
    refine hq h' tk' hp.objs.size (fun b o hb ho => ?_) (Nat.le_refl _) xs.symm ((hs.2 x xs).trans (Heap.get?_update_self _ x1 rfl)) hn'
    have nb : b ≠ hp.objs.size := Nat.ne_of_lt (Heap.lt_size ho)
    exact (hs.2 b nb).trans ((Heap.get?_update_ne _ _ _ _ hb).trans (Heap.get?_push_of_some _ ho))
end
abbrev keyTail : List Value := [.type "KeyError", .type "LookupError", .type "Exception", .type "BaseException", .type "object"]
theorem tail_key : Tail keyTail := ⟨fun self => by kernel_rfl, by decide +kernel⟩
theorem line_key : My.Line "LookupError" keyTail := ⟨by decide +kernel, by decide +kernel, by decide +kernel⟩
theorem line_ex : My.Line "Exception" exTail := ⟨by decide +kernel, by decide +kernel, by decide +kernel⟩
/-! ### the text of __init__(self, at): self.at = at -/
def iA (p1 p2 : Pos) : Arguments := { posonlyargs := [], args := [{ arg := "self", annotation := none, pos := p1 }, { arg := "letter", annotation := none, pos := p2 }], vararg := none, kwonlyargs := [], kw_defaults := [], kwarg := none, defaults := [] }
def iB (q1 q2 q3 q4 : Pos) : List Stmt := [.Assign [.Attribute (.Name "self" q1) "letter" q2] (.Name "letter" q3) q4]
def iS : Scope := { kind := .function, names := [(PySem.Str.ofString "self", .local), (PySem.Str.ofString "letter", .local)], isGenerator := false, isCoroutine := false, more := [] }
/-- what the written part says of the class nm at C over the built-in base of newId, bmB, and of its __init__ at fI -/
structure OneTxt (K : Frag) (mg : Str → Option Value) (nm : Str) (bmB : List Value) (newId : String) (C fI : Addr) : Prop where
  gC : mg nm = some (.ref C)
  cls : ∃ n0 q N bs bm sn sub ab col dd k0 k1 k2 k3 k5, K.lookup C = some (excClassObj n0 q C N bs bm true sn sub ab col dd k0 k1 k2 k3 k5 newId) ∧ excTail bmB bm = true
  sa : findIn K (.ref C) "__setattr__" = some (some (.builtin "object.__setattr__"))
  ga : findIn K (.ref C) "__getattribute__" = some (some (.builtin "BaseException.__getattribute__"))
  gg : findIn K (.ref C) "__getattr__" = some none
  noN : findIn K (.ref C) "letter" = some none
  iC : findIn K (.ref C) "__init__" = some (some (.ref fI))
  tC : typeIn K (.ref fI) = some (.type "function")
  kC : keepIn K (.ref C) = true
  exC : subIn K (.ref C) (.type "BaseException") = some true
  tyC : typeIn K (.ref C) = some (.type "type")
  hdC : hasDictIn K C = true
  te : exmOne K (.ref C) (.ref C) = some true
  fn : ∃ (qn : Str) (oc : Value) (od : Option Addr) (doc pm : Value) (an : Option Addr) (cdv ct : Value) (osl : Array (Option Value)) (p1 p2 q1 q2 q3 q4 : Pos),
    K.lookup fI = some ⟨oc, od, .func (fnOf "__init__" qn (iA p1 p2) (iB q1 q2 q3 q4) iS .none .none doc pm an cdv ct), osl⟩ ∧ codeIn K cdv qn = true
theorem one_size (v : Value) : [v].length ≤ sizeLine := by
  rw [sizeLine_eq]
  exact (by decide : 1 ≤ 16777216)
theorem ldC {M : Model} {s : Shared} {name : Str} {scope : Scope} {L a : Addr} {cd : Value} {m : Str → Option Value} {x : Str} {pos : Pos} {v : Value} {Q : Value → Shared → Prop} {A : Around} {E : Value → Shared → Prop} (hn : s.heap.Ns L m) (hv : m x = some v) (h : Q v s)
    (hk : scope.kind = .function := by rfl) (hl : (envOfC name scope L a cd).kindOf x = some .local := by rfl) (hd : (x == ("__debug__" : Str)) = false := by decide) :
    wpAny M A (eval (.Name x pos) (envOfC name scope L a cd)) Q E s := wpAny_Name (wpAny_loadName_local hk hl hn hv h) hd
/-- what __init__ leaves of a fresh exception at x -/
structure InitEnd (h h' : Heap) (x C dx t1 : Addr) (v : Value) : Prop where
  keep : ∀ b o, b ≠ x → h.get? b = some o → h'.get? b = some o
  obj : h'.get? x = some { cls := .ref C, dict := some dx, data := .fields #[.ref t1, .none, .none, .none, .bool false, .none] }
  dbig : h.objs.size ≤ dx
  dne : dx ≠ x
  ns : h'.Ns1 dx (fun y => if y = "letter" then some v else none)
/-- a made one -/
structure OwnMade (h h' : Heap) (e C d : Addr) (v : Value) : Prop where
  keep : ∀ b o, h.get? b = some o → h'.get? b = some o
  new : h.objs.size ≤ e
  obj : ∃ oe vs, h'.get? e = some oe ∧ oe.cls = .ref C ∧ oe.dict = some d ∧ oe.data = .fields vs ∧ vs[1]? = some .none
  dbig : h.objs.size ≤ d
  dne : d ≠ e
  ns : h'.Ns1 d (fun y => if y = "letter" then some v else none)
section
variable {prog : Program} {w : World} {A : Around} {E : Value → Shared → Prop} {R : Result → Shared → Prop} {s : Shared} {K : Frag} {mg : Str → Option Value} {nm : Str} {bmB bmF : List Value} {B newId initId : String} {C fI : Addr}
theorem one_init (T : OneTxt K mg nm bmB newId C fI) (TB : Tail bmB) {x t0 : Addr} {v : Value} (X : K.In s.heap) (hlim : s.heap.NoLimit) (hx : s.heap.get? x = some (excO C t0)) (hnx : K.lookup x = none) (hroom : A.depth < recursionLimit)
    (hq : ∀ h' tk dx, InitEnd s.heap h' x C dx t0 v → R (.ok (.ret .none)) { s with heap := h', toks := tk }) :
    codeAny (model prog w) A (.call (.ref fI) ⟨[.ref x, v], []⟩) R s := by
  obtain ⟨qn, oc, od, doc, pm, an, cdv, ct, osl, p1, p2, q1, q2, q3, q4, ho, hcd⟩ := T.fn
  obtain ⟨n0, q, N, bs, bm, sn, sub, ab, col, dd, k0, k1, k2, k3, k5, hC, hbm⟩ := T.cls
  have hcl : clsIn K C = some { name := n0, bases := bs, mro := .ref C :: bm, ns := N, qualname := q, hasDict := true, slotNames := sn, subclasses := sub, abstract := ab, collection := col, hasDel := false } := by unfold clsIn; rw [hC] <;> rfl
  refine Att.call_fn (binds := [("self", .ref x), ("letter", v)]) X hlim ho hcd hroom (BindsTo.of_eq (by first | rfl | with_unfolding_all rfl)) (by first | rfl | decide | with_unfolding_all rfl) (fun s₁ IC => ?_) rfl rfl rfl
  obtain ⟨h₁, tk₁, rfl⟩ := IC.toInCall.same
  have k : ∀ b o, s.heap.get? b = some o → h₁.get? b = some o := IC.toInCall.keep
  have hn := IC.toInCall.ns
  have hxL : s.heap.objs.size ≠ x := Nat.ne_of_gt (Heap.lt_size hx)
  have X₁ : K.In h₁ := X.keeps k
  have hx₁ := k _ _ hx
  show wpAny _ _ (execs _ _) _ _ _
  refine wpAny_execs_cons (plainObj_wpAny_Assign_Attribute ?_)
  refine ldC (v := v) hn (by first | rfl | with_unfolding_all rfl | kernel_rfl) (ldC (v := .ref x) hn (by first | rfl | with_unfolding_all rfl | kernel_rfl) ?_)
  refine set_plain X₁ (ox := excO C t0) (od := none) ⟨hx₁, rfl, rfl, trivial⟩ T.sa ?_
  refine osaX TB X₁ hx₁ hcl (show excTail bmB (.ref C :: bm) = true from hbm) rfl T.noN (fun h₃ tk₃ dx k₃ dn dne hx₃ hn₃ => ?_)
  show wpAny _ _ (execs _ _) _ _ _
  have z : s.heap.objs.size < h₁.objs.size := hn.lt
  exact wpAny_execs_nil (hq h₃ tk₃ dx ⟨fun b o hb e => k₃ b o hb (k b o e), hx₃, Nat.le_of_lt (Nat.lt_of_lt_of_le z dn), dne, hn₃⟩)
theorem one_made (T : OneTxt K mg nm bmB newId C fI) (TB : Tail bmB) (F : ExcBaseFacts B newId initId bmF) (LB : My.Line B bmB) {v : Value} (X : K.In s.heap) (hlim : s.heap.NoLimit) (hroom : A.depth + 1 < recursionLimit)
    (hq : ∀ h' tk e d, OwnMade s.heap h' e C d v → R (.ok (.ret (.ref e))) { s with heap := h', toks := tk }) :
    codeAny (model prog w) A (.call (.ref C) ⟨[v], []⟩) R s := by
  obtain ⟨n0, q, N, bs, bm, sn, sub, ab, col, dd, k0, k1, k2, k3, k5, hC, hbm⟩ := T.cls
  obtain ⟨hp, g, dr, tk, os⟩ := s
  have k : ∀ b o, hp.get? b = some o → ((hp.push (kdv_tup [v])).push (excO C hp.objs.size)).get? b = some o := fun b o e => Heap.get?_push_of_some _ (Heap.get?_push_of_some _ e)
  have hget : ((hp.push (kdv_tup [v])).push (excO C hp.objs.size)).get? (hp.objs.size + 1) = some (excO C hp.objs.size) := by heap_get
  have hnx : K.lookup (hp.objs.size + 1) = none := by
    cases e : K.lookup (hp.objs.size + 1) with
    | none => rfl
    | some o =>
      have z : hp.get? (hp.objs.size + 1) = some o := X _ _ e
      exact absurd (Nat.lt_of_succ_lt (Heap.lt_size z)) (Nat.lt_irrefl _)
  refine My.line_call F ⟨(excTail_contains _ bm hbm).trans LB.has, (excTail_contains _ bm hbm).trans LB.noA, (excTail_contains _ bm hbm).trans LB.noN⟩ (X _ _ hC) (looks_findIn X T.iC) (fun self => bind_fn X self T.tC) (one_size v) ?_
  refine one_init (s := ⟨(hp.push (kdv_tup [v])).push (excO C hp.objs.size), g, dr, tk, os⟩) T TB (X.keeps k) (hlim.keeps k) hget hnx ?_ fun h' tk' dx ⟨k', hx, dn, dne, hns⟩ => ?_
  · show A.depth + 1 < recursionLimit
    exact hroom
  · have old : ∀ b o, hp.get? b = some o → h'.get? b = some o := fun b o e => k' b o (Nat.ne_of_lt (Nat.lt_succ_of_lt (Heap.lt_size e))) (k b o e)
    have z : hp.objs.size + 1 + 1 ≤ dx := by
      first
        | (simpa only [Heap.size_push] using dn)
        | exact dn
        | (have q := dn; rw [Heap.size_push, Heap.size_push] at q; exact q)
    exact ⟨rfl, hq h' tk' (hp.objs.size + 1) dx ⟨old, Nat.le_succ _, ⟨_, _, hx, rfl, rfl, rfl, rfl⟩, Nat.le_trans (Nat.le_trans (Nat.le_succ _) (Nat.le_succ _)) z, dne, hns⟩⟩
end
end OneXL
end PySem
namespace L2
open PySem PySem.Spec PyProof.Rows
theorem relO_atL {v : V} {v' : Value} (r : RelV v v') (f : Str) : RelO (List.lookup f [(("letter" : Str), v)]) (if f = "letter" then some v' else none) := by
  by_cases hw : f = "letter"
  · subst hw
    rw [if_pos rfl]
    have q : List.lookup ("letter" : Str) [(("letter" : Str), v)] = some v := by simp [List.lookup]
    rw [q]
    exact r
  · rw [if_neg hw]
    have qw : (f == ("letter" : Str)) = false := by simpa using hw
    have q2 : List.lookup f [(("letter" : Str), v)] = none := by simp [List.lookup, qw]
    rw [q2]
    trivial
section
variable {X : Cx} {nm : Str} {bmB bmF : List Value} {B newId initId : String} {C fI : Addr}
/-- C(e) -/
def tMkAtL (C : Addr) (ta : TA) : St → Hp → XK → Prop := fun σ H Q => ta σ H fun vs H1 => ∃ v, vs = [v] ∧ ∀ d, H1 d = none → Q (.ref C) (some d) (upd H1 d (.xd [(("letter" : Str), v)]))
theorem pmk_atL {a : Expr} {ta : TA} {p pos : Pos} {k : Nat} (T : PySem.OneXL.OneTxt X.K X.mg nm bmB newId C fI) (TB : PySem.OneXL.Tail bmB) (F : ExcBaseFacts B newId initId bmF) (LB : My.Line B bmB) (hr : Room k X.A) (ha : PA X [a] ta) (hg : Gl X nm := by rfl) (hdb : (nm == ("__debug__" : Str)) = false := by decide)
    (he : starEach (a :: []) X.env = (false, eval a X.env) :: starEach [] X.env := by rfl) (hpl : (backTo pos (starEach [] X.env)).any (·.1) = false := by rfl) :
    PMk X (.Call (.Name nm p) [a] [] pos) (tMkAtL C ta) := by
  intro pins s σ H Q I h
  refine wpAny_Call_Name_kw (ld_glob I hg T.gC ?_ hdb)
  refine PySem.W.callWith_K (h₀ := X.base) I.ok.mod.kin T.kC (thn (ha.run pos pins s σ H _ I h) fun us s1 hh => ?_) he hpl
  obtain ⟨vs, H1, I1, r1, v, ev, q1⟩ := hh
  subst ev
  refine ⟨I1.kIn, ?_⟩
  cases r1 with
  | cons rv rn =>
    rename_i v' us'
    cases rn
    show wpAny _ _ (call (.ref C) [v']) _ _ _
    have hlim := I1.nolimit
    obtain ⟨hp, g, dr, tk, os⟩ := s1
    refine wpAny_call (PySem.OneXL.one_made T TB F LB I1.kIn hlim (by have := hr.dp; omega) fun h' tk' e d M => ?_)
    show MkP X pins σ Q (.ref e) ⟨h', g, dr, tk', os⟩
    obtain ⟨oe, fv, hoe, hc, hd, hdat, h1⟩ := M.obj
    have hns := M.ns
    obtain ⟨G', g1, g2⟩ := restrict h' fun b => decide (b ≠ e)
    have gk : ∀ b, b ≠ e → G'.get? b = h'.get? b := fun b hb => g1 b (decide_eq_true hb)
    have ge : G'.get? e = none := g2 e (by simp)
    have old : ∀ b o, hp.get? b = some o → G'.get? b = some o := fun b o q => (gk b (Nat.ne_of_lt (Nat.lt_of_lt_of_le (Heap.lt_size q) M.new))).trans (M.keep b o q)
    have ob : ObjOk X.prog X.w (upd H1 d (.xd [(("letter" : Str), v)])) G' d (.xd [(("letter" : Str), v)]) :=
      ⟨_, hns.at (fun o q => (gk d M.dne).trans q), fun f => relO_atL rv f⟩
    have J : Inv X pins σ (upd H1 d (.xd [(("letter" : Str), v)])) ⟨G', g, dr, tk', os⟩ := I1.laid (t' := tk') old M.dbig ob
    refine ⟨e, oe, fv, ⟨G', g, dr, tk', os⟩, _, .ref C, some d, rfl, J, fun b o q => ?_, ge, hoe, ⟨hc, hd⟩, hdat, h1, ?_, rfl, I1.bare, raises_own T.exC T.tyC, q1 d (I1.hok.fresh M.dbig)⟩
    · by_cases hb : b = e
      · have q' : G'.get? b = some o := q
        rw [hb, ge] at q'; cases q'
      · exact (gk b hb).symm.trans q
    · rw [upd_ne (Ne.symm M.dne)]
      exact I1.hok.fresh M.new
/-- raise C(e) -/
def tRaiseAtL (C : Addr) (W : WX) (ta : TA) : TS := fun _ σ H => tMkAtL C ta σ H fun cls d H' => W cls d σ H'
theorem ps_raiseAtL {a : Expr} {ta : TA} {W : WX} {p pos pos2 : Pos} {k : Nat} (hc : X.calm = true) (T : PySem.OneXL.OneTxt X.K X.mg nm bmB newId C fI) (TB : PySem.OneXL.Tail bmB) (F : ExcBaseFacts B newId initId bmF) (LB : My.Line B bmB) (hr : Room k X.A) (tk : Takes X W) (ha : PA X [a] ta) (hg : Gl X nm := by rfl) (hdb : (nm == ("__debug__" : Str)) = false := by decide)
    (he : starEach (a :: []) X.env = (false, eval a X.env) :: starEach [] X.env := by rfl) (hpl : (backTo pos (starEach [] X.env)).any (·.1) = false := by rfl) :
    PS X (.Raise (some (.Call (.Name nm p) [a] [] pos)) none pos2) (tRaiseAtL C W ta) := ps_raise hc tk (pmk_atL T TB F LB hr ha hg hdb he hpl)
/-- e.at, e the exception that the suite holds (at a; its class cls, its dict d) -/
def tByAtL (C : Addr) (a : Addr) (cls : Value) (d : Option Addr) (te : TE) : TE := fun σ H Q => te σ H fun x H1 => x = .ref a ∧ cls = .ref C ∧ ∃ (dd : Addr) (v : V), d = some dd ∧ H1 dd = some (.xd [(("letter" : Str), v)]) ∧ Q v H1
theorem pe_byAtL {a : Addr} {oe : Obj} {cls : Value} {d : Option Addr} {pn : List (Addr × Obj)} {e : Expr} {te : TE} {pos : Pos} (T : PySem.OneXL.OneTxt X.K X.mg nm bmB newId C fI) (hz : Zc cls d oe) (hf : ∃ vs, oe.data = .fields vs) (he : PE (X.suite a ((a, oe) :: pn)) e te)
    (hb : attributeBase e "letter" X.env (eval e X.env) = eval e X.env := by rfl) :
    PE (X.suite a ((a, oe) :: pn)) (.Attribute e "letter" pos) (tByAtL C a cls d te) := by
  refine ⟨fun pins s σ H Q I h => ?_⟩
  refine attr_of hb (thn (he.run pins s σ H _ I h) fun u s1 hh => ?_)
  obtain ⟨x, H1, I1, rx, ex, ec, dd, v, ed, ea, q⟩ := hh
  subst ex
  obtain rfl : u = Value.ref a := rx
  subst ec
  subst ed
  obtain ⟨ha, _⟩ := I1.pin (a, oe) (List.mem_append_left _ List.mem_cons_self)
  obtain ⟨vs, hd⟩ := hf
  have hx : ObjOk X.prog X.w H1 s1.heap dd (.xd [(("letter" : Str), v)]) := I1.hok dd _ ea
  obtain ⟨mA, hns, hr⟩ := hx
  obtain ⟨od, ho, hl⟩ := lookIn_ns hns
  have l : List.lookup ("letter" : Str) [(("letter" : Str), v)] = some v := by simp [List.lookup]
  obtain ⟨u, hu, ru⟩ := RelO.some_of (v := v) (o := mA "letter") (by rw [← l]; exact hr "letter")
  have J : PySem.W.InstAt s1.heap a oe C (some od) := ⟨ha, hz.1, by unfold PySem.W.notCls; rw [hd] <;> rfl, by rw [hz.2]; exact ho⟩
  exact HandSPX.exc_get I1.kIn J T.ga T.gg T.exC (PySem.W.findObj_own T.hdC T.noN rfl (by rw [hl, hu])) (handed_of ru) ⟨v, H1, I1.tok _, ru, q⟩
end
end L2
set_option Elab.async false
set_option linter.all false
set_option autoImplicit true
set_option maxRecDepth 100000
set_option maxHeartbeats 2000000
/-! the end of a row whose law is run where no guard stands and makes lambdas: the tables of the codes that make them are told, any number of them -/
namespace My
open PySem PySem.Spec PyProof.Rows L2
open LamX (TabB TabS Tabs ExtN CodeO)
theorem lawGTs {P : Program} {w : World} {K : PySem.W.Frag} {mg mb : Str → Option Value} {k : Nat} {fa a : Addr} {ps : List (Addr × Addr)} {fd : FuncData} {x : Str} {sp : List (Addr × Addr) → Sp} {s1 : Shared} {vs : List Value} {ns : List Int}
    (KX : K.In s1.heap) (hns : s1.heap.Ns mainGlobals mg) (hb : s1.heap.Ns builtinsNs mb) (hbb : ∀ x : Str, x ≠ "__name__" → mb x = bootBuiltins x) (hlim : s1.heap.NoLimit) (hgen : s1.gens = #[])
    (hT : ∀ p ∈ ps, s1.heap.get? p.2 = some { cls := .none, data := .fields #[] }) (nT : ∀ p ∈ ps, K.lookup p.2 = none) (hcd : ∀ p ∈ ps, PySem.W.CodeHd s1.heap p.1 p.2)
    (hbm : ∃ (bm : Addr) (ob : Obj), mg "__builtins__" = some (.ref bm) ∧ bm ≠ builtinsNs ∧ s1.heap.get? bm = some ob ∧ ob.cls = .type "module" ∧ ob.dict = some builtinsNs ∧ ob.data = .plain)
    (ha : s1.heap.get? a = some { cls := .type "list", data := .seq vs.toArray }) (hi : IntsAre vs ns) (hl : ns.length ≤ sizeLine) (hr : Room k callerA)
    (F : ∀ base : Heap, K.In base → base.Ns mainGlobals mg → (∀ p ∈ ps, TabB base mg p.1 p.2) → FnG P w K mg base CX0 k fa fd [x] (sp ps)) (hbind : ∀ (s : Shared) (u : Value), BindsTo s fd ⟨[u], []⟩ [(x, u)])
    (hsp : ∀ H : Hp, (∀ p ∈ ps, H p.2 = some (.tbl #[])) → SqL K H a (ns.map V.int) → sp ps [.ref a] H (fun v _ => v = .bl true) fun _ _ _ => False) :
    codeAny (model P w) callerA (.call (.ref fa) ⟨[.ref a], []⟩) (fun r s' => r = .ok (.ret (.bool true)) ∧ OldK s1.heap s'.heap ∧ s'.os = s1.os ∧ AllBare s'.gens) s1 := by
  have rv := vals_ints hi
  have nV := hi.length
  have apt : ∀ p ∈ ps, a ≠ p.2 := fun p hp z => by
    have hT := hT p hp
    rw [← z, ha] at hT
    cases (congrArg Obj.data (Option.some.inj hT) : Data.seq vs.toArray _ = Data.fields #[])
  have main : ∀ H : Hp, (∀ p ∈ ps, H p.2 = some (.tbl #[])) → (∀ b, H b = none ∨ (∃ p ∈ ps, b = p.2) ∨ ∃ o xs, H b = some (.frz o (.lst xs))) → SqL K H a (ns.map V.int) → HOk P w H s1.heap → (∀ b, H b ≠ none → b = a ∨ ∃ p ∈ ps, b = p.2) → (H a ≠ none → K.lookup a = none) →
      codeAny (model P w) callerA (.call (.ref fa) ⟨[.ref a], []⟩) (fun r s' => r = .ok (.ret (.bool true)) ∧ OldK s1.heap s'.heap ∧ s'.os = s1.os ∧ AllBare s'.gens) s1 := by
    intro H hP hO hS hok hA hK
    have hid : ∀ {b : Addr} {o : Obj}, s1.heap.get? b = some o → H b = none → (hidT s1.heap H).get? b = some o := fun e n => hidT_get e n
    have free : ∀ {b : Addr} {o : Obj}, s1.heap.get? b = some o → (∀ us n, o.data ≠ .seq us n) → o.data ≠ .fields #[] → H b = none := fun {b o} e d1 d2 => by
      cases q : H b with
      | none => rfl
      | some u =>
        rcases hA b (by rw [q]; simp) with z | ⟨p, hp, z⟩
        · subst z
          rw [ha] at e
          cases e
          exact (d1 _ _ rfl).elim
        · subst z
          rw [hT p hp] at e
          cases e
          exact (d2 rfl).elim
    have dictFree : ∀ {b : Addr} {o : Obj} {es : Array DictEntry} {ep : Nat}, s1.heap.get? b = some o → o.data = .dict es ep → H b = none := fun {b o es ep} e d => free e (fun us n z => by rw [d] at z; cases z) fun z => by rw [d] at z; cases z
    have nsB : ∀ {b : Addr} {m : Str → Option Value}, s1.heap.Ns b m → (hidT s1.heap H).Ns b m := fun {b m} q => by
      obtain ⟨o, es, ep, e, d, r⟩ := q
      exact ⟨o, es, ep, hid e (dictFree e d), d, r⟩
    have kinB : K.In (hidT s1.heap H) := fun b o e => hid (KX b o e) (by
      cases q : H b with
      | none => rfl
      | some u =>
        rcases hA b (by rw [q]; simp) with z | ⟨p, hp, z⟩
        · subst z
          rw [hK (by rw [q]; simp)] at e
          cases e
        · subst z
          rw [nT p hp] at e
          cases e)
    have limB : (hidT s1.heap H).NoLimit := by
      obtain ⟨mc, h1, h2⟩ := hlim
      exact ⟨mc, nsB h1, h2⟩
    have tabB : ∀ p ∈ ps, TabB (hidT s1.heap H) mg p.1 p.2 := by
      rintro ⟨c, pt⟩ hp
      have hT := hT _ hp
      have hcd := hcd _ hp
      refine ⟨?_, ?_, fun z => ?_⟩
      · obtain ⟨o, us, file, tf, flags, tg, inF, text, tt, e1, r1, r2, r3, r4, r5, r6, r7, r8, hne⟩ := hcd
        refine ⟨o, us, file, tf, flags, tg, inF, text, tt, hid e1 (free e1 (fun us n z => ?_) fun z => ?_), r1, r2, r3, r4, r5, r6, r7, r8, hne⟩
        · rw [r2] at z
          cases z
        · rw [r2] at z
          cases z
          simp at r3
      · obtain ⟨bm, ob, b1, b2, b3, b4, b5, b6⟩ := hbm
        have nG : bm ≠ mainGlobals := fun q => by
          obtain ⟨o, es, ep, e, hd, _⟩ := hns
          rw [q, e] at b3
          cases b3
          rw [hd] at b6
          cases b6
        have nP : bm ≠ pt := fun q => by
          rw [q, hT] at b3
          cases b3
          cases b6
        refine ⟨bm, ob, b1, b2, nG, nP, hid b3 (free b3 (fun us n z => ?_) fun z => ?_), b4, b5, b6⟩
        · rw [b6] at z
          cases z
        · rw [b6] at z
          cases z
      · obtain ⟨o, es, ep, e, hd, _⟩ := hns
        rw [z, hT] at e
        cases e
        cases hd
    have e0 : Env0 P w K mg (hidT s1.heap H) callerA [] s1 H := by
      refine ⟨rfl, ⟨kinB, nsB hns, ⟨mb, nsB hb, hbb⟩, limB⟩, fun b o e => of_hidT e, Nat.le_of_eq (hidT_size _ _), trivial, fun b hb' => ?_, hok, .of_eq hgen⟩
      cases hb'
    refine codeAny_mono ((F _ kinB (nsB hns) tabB).run callerA [] s1 H ⟨[.ref a], []⟩ [.ref a] [.ref a] _ _ rfl hr e0 (hbind s1 (.ref a)) (.cons rfl .nil) (hsp H hP hS)) fun r s' h => ?_
    match r, h with
    | .error e, h => exact (show False from h).elim
    | .ok .next, h => exact (show False from h).elim
    | .ok .brk, h => exact (show False from h).elim
    | .ok .cont, h => exact (show False from h).elim
    | .ok (.ret u), h =>
      obtain ⟨v, H', os, bare, un, hok', r', q⟩ := h
      have q' : v = .bl true := q
      subst q'
      obtain rfl : u = Value.bool true := r'
      have stay : ∀ b o, (∀ p ∈ ps, b ≠ p.2) → s1.heap.get? b = some o → s'.heap.get? b = some o := fun b o np e => by
        cases q : H b with
        | none => exact un.keep b o e q (fun z => by cases z) (fun z => by cases z)
        | some u =>
          rcases hO b with z | ⟨p, hp, z⟩ | ⟨ob, xs, z⟩
          · rw [q] at z
            cases z
          · exact absurd z (np p hp)
          · obtain ⟨e1, _⟩ := hok b _ z
            obtain ⟨e2, _⟩ := hok' b _ (un.frzs b ob _ z)
            rw [e] at e1
            cases e1
            exact e2
      have grown : ∀ p ∈ ps, ∃ more, s'.heap.get? p.2 = some { cls := .none, data := .fields (#[] ++ more) } := fun p hp => by
        obtain ⟨more, zm⟩ := un.tbls p.2 #[] (hP p hp)
        exact ⟨more, hok' p.2 _ zm⟩
      refine ⟨rfl, ⟨fun b o e => ?_, fun b o e => ?_⟩, os, bare⟩
      · by_cases hb : ∃ p ∈ ps, b = p.2
        · obtain ⟨p, hp, rfl⟩ := hb
          rw [hT p hp] at e
          cases e
          obtain ⟨more, gr⟩ := grown p hp
          exact .inr (.inl ⟨((hcd p hp).tab (hT p hp)).isCodeTable, rfl, #[], more, rfl, gr⟩)
        · exact .inl (stay b o (fun p hp z => hb ⟨p, hp, z⟩) e)
      · by_cases hb : ∃ p ∈ ps, b = p.2
        · obtain ⟨p, hp, rfl⟩ := hb
          obtain ⟨more, gr⟩ := grown p hp
          exact ⟨_, gr⟩
        · exact ⟨o, stay b o (fun p hp z => hb ⟨p, hp, z⟩) e⟩
  classical
  cases hk : K.lookup a with
  | some o =>
    have e := KX a o hk
    rw [ha] at e
    cases e
    have atp : ∀ b, (∃ p ∈ ps, b = p.2) → (if ∃ p ∈ ps, b = p.2 then some (HO.tbl #[]) else none) = some (HO.tbl #[]) := fun b h => if_pos h
    refine main (fun b => if ∃ p ∈ ps, b = p.2 then some (.tbl #[]) else none) (fun p hp => atp p.2 ⟨p, hp, rfl⟩) (fun b => ?_) (.inr ⟨_, vs.toArray, _, hk, rfl, rfl, rfl, by rw [List.size_toArray, nV]; exact hl, by simpa using rv⟩) (fun b u z => ?_) (fun b z => ?_) fun z => absurd (if_neg (fun ⟨p, hp, q⟩ => apt p hp q)) z
    · by_cases h : ∃ p ∈ ps, b = p.2
      · exact .inr (.inl h)
      · exact .inl (if_neg h)
    · by_cases h : ∃ p ∈ ps, b = p.2
      · cases (atp b h).symm.trans z
        obtain ⟨p, hp, rfl⟩ := h
        exact hT p hp
      · cases (if_neg h).symm.trans z
    · exact .inr (Classical.byContradiction fun h => z (if_neg h))
  | none =>
    have at_a : ∀ b, b = a → (if b = a then some (HO.frz { cls := .type "list", data := .seq vs.toArray } (.lst (ns.map V.int))) else if ∃ p ∈ ps, b = p.2 then some (HO.tbl #[]) else none) = some (HO.frz { cls := .type "list", data := .seq vs.toArray } (.lst (ns.map V.int))) := fun b h => if_pos h
    have at_p : ∀ b, b ≠ a → (∃ p ∈ ps, b = p.2) → (if b = a then some (HO.frz { cls := .type "list", data := .seq vs.toArray } (.lst (ns.map V.int))) else if ∃ p ∈ ps, b = p.2 then some (HO.tbl #[]) else none) = some (HO.tbl #[]) := fun b h1 h2 => (if_neg h1).trans (if_pos h2)
    have at_n : ∀ b, b ≠ a → (¬ ∃ p ∈ ps, b = p.2) → (if b = a then some (HO.frz { cls := .type "list", data := .seq vs.toArray } (.lst (ns.map V.int))) else if ∃ p ∈ ps, b = p.2 then some (HO.tbl #[]) else none) = none := fun b h1 h2 => (if_neg h1).trans (if_neg h2)
    refine main (fun b => if b = a then some (.frz { cls := .type "list", data := .seq vs.toArray } (.lst (ns.map V.int))) else if ∃ p ∈ ps, b = p.2 then some (.tbl #[]) else none) (fun p hp => at_p p.2 (apt p hp).symm ⟨p, hp, rfl⟩) (fun b => ?_) (.inl (.inr ⟨_, at_a a rfl⟩)) (fun b u z => ?_) (fun b z => ?_) fun _ => hk
    · by_cases h1 : b = a
      · exact .inr (.inr ⟨_, _, at_a b h1⟩)
      · by_cases h2 : ∃ p ∈ ps, b = p.2
        · exact .inr (.inl h2)
        · exact .inl (at_n b h1 h2)
    · by_cases h1 : b = a
      · cases (at_a b h1).symm.trans z
        subst h1
        exact ⟨ha, by rw [List.length_map]; exact hl, vs, _, rv, ha⟩
      · by_cases h2 : ∃ p ∈ ps, b = p.2
        · cases (at_p b h1 h2).symm.trans z
          obtain ⟨p, hp, rfl⟩ := h2
          exact hT p hp
        · cases (at_n b h1 h2).symm.trans z
    · by_cases h1 : b = a
      · exact .inl h1
      · by_cases h2 : ∃ p ∈ ps, b = p.2
        · exact .inr h2
        · exact absurd (at_n b h1 h2) z
theorem walkGTs {l : PySem.W.OpenLaw} {n k : Nat} {q : Program} {loose : List Str} {XP : (Str → Option Value) → Heap → Prop} {YP : World → Heap → Prop} {d : DefRec} {K : Params → PySem.W.Frag} {sp : PySem.W.Frag → List (Addr × Addr) → Sp} {x : Str}
    (hn : l.most = some n) (hn2 : n ≤ sizeLine) (hdf : d.params.defaults = []) (hr : Room k callerA) (hY : ∀ (w : World) (h : Heap), YP w h → (K w.params).In h)
    (F : ∀ (w : World) (mg mb : Str → Option Value) (mean : ExcName → Option Value) (fa : Addr) (h : Heap), (K w.params).In h → Top q (PySem.W.looseW q loose) mean mg mb h → mg d.name = some (.ref fa) →
      ∃ (fd : FuncData) (ps : List (Addr × Addr)), (∀ p ∈ ps, h.get? p.2 = some { cls := .none, data := .fields #[] } ∧ (K w.params).lookup p.2 = none ∧ PySem.W.CodeHd h p.1 p.2) ∧ (∀ (s : Shared) (u : Value), BindsTo s fd ⟨[u], []⟩ [(x, u)]) ∧
        ∀ base : Heap, (K w.params).In base → base.Ns mainGlobals mg → (∀ p ∈ ps, TabB base mg p.1 p.2) → FnG l.prog w (K w.params) mg base CX0 k fa fd [x] (sp (K w.params) ps))
    (hsp : ∀ (K : PySem.W.Frag) (ps : List (Addr × Addr)) (H : Hp) (a : Addr) (ns : List Int), ns.length ≤ n → (∀ p ∈ ps, H p.2 = some (.tbl #[])) → SqL K H a (ns.map V.int) → sp K ps [.ref a] H (fun v _ => v = .bl true) fun _ _ _ => False) :
    PySem.W.WalkO q loose XP YP l.row.toRowW d [] (fun f vs => PySem.call f vs) := by
  refine Att.attach_call hn hdf fun w s0 s1 mg mb fa o pm cd doc a vs ns G Y ho hd hcd hmg hobj hints hlen hgen => ?_
  have KX := hY w _ Y
  obtain ⟨fd, ps, h0, hb, hF⟩ := F w mg mb _ fa _ KX G.T hmg
  exact lawGTs KX G.T.g G.T.b G.T.builtins G.T.nolimit hgen (fun p hp => (h0 p hp).1) (fun p hp => (h0 p hp).2.1) (fun p hp => (h0 p hp).2.2) G.T.bmain hobj hints (Nat.le_trans hlen hn2) hr hF hb fun H hP hS => hsp _ _ H a ns hlen hP hS
end My
set_option Elab.async false
set_option linter.all false
set_option autoImplicit false
set_option maxRecDepth 100000
set_option maxHeartbeats 2000000
/-! a list or a tuple, whichever; data of any kind; a comprehension of tuples that may be old -/
namespace My
open PySem PySem.Spec PyProof.Rows L2 Evl
/-- at a stands a tuple (t), else a list -/
def SqB (t : Bool) (K : PySem.W.Frag) (H : Hp) (a : Addr) (xs : List V) : Prop := if t = true then SqT K H a xs else SqL K H a xs
theorem SqB.or {t : Bool} {K : PySem.W.Frag} {H : Hp} {a : Addr} {xs : List V} (h : SqB t K H a xs) : SqL K H a xs ∨ SqT K H a xs := by
  cases t with
  | true => exact .inr h
  | false => exact .inl h
theorem SqB.ex {t : Bool} {K : PySem.W.Frag} {H H' : Hp} {a : Addr} {xs : List V} (h : SqB t K H a xs) (e : Ex H H') : SqB t K H' a xs := by
  cases t with
  | true => exact ex_t e h
  | false => exact ex_l e h
theorem SqB.at {t : Bool} {K : PySem.W.Frag} {H H' : Hp} {a : Addr} {xs : List V} (h : SqB t K H a xs) (e : ∀ o, H a = some o → H' a = some o) : SqB t K H' a xs := by
  cases t with
  | true =>
    rcases (h : SqT K H a xs) with (h | ⟨o, h⟩) | h
    · exact .inl (.inl (e _ h))
    · exact .inl (.inr ⟨o, e _ h⟩)
    · exact .inr h
  | false =>
    rcases (h : SqL K H a xs) with (h | ⟨o, h⟩) | h
    · exact .inl (.inl (e _ h))
    · exact .inl (.inr ⟨o, e _ h⟩)
    · exact .inr h
/-- data that is a sequence -/
def seqD : PyData → Option (List PyData)
  | .list ds => some ds
  | .tuple ds => some ds
  | _ => none
theorem dp_seq {K : PySem.W.Frag} {H : Hp} {v : V} {d : PyData} {ds : List PyData} (h : Dp K H v d) (e : seqD d = some ds) : ∃ t a xs, v = .ref a ∧ SqB t K H a xs ∧ DpAll K H xs ds := by
  cases h with
  | lst h r =>
    cases e
    exact ⟨false, _, _, rfl, h, r⟩
  | tup h r =>
    cases e
    exact ⟨true, _, _, rfl, h, r⟩
  | _ => cases e
section
variable {X : Cx} {tg l : Expr}
theorem pi_or {w1 w2 : TI} (h1 : PI X tg l w1) (h2 : PI X tg l w2) : PI X tg l (fun σ H R => w1 σ H R ∨ w2 σ H R) :=
  ⟨fun pins s σ H R I h => h.elim (h1.run pins s σ H R I) (h2.run pins s σ H R I)⟩
theorem call_or {f : Value} {r1 r2 : List V → Hp → VK → Prop} (h1 : CallR X f r1) (h2 : CallR X f r2) : CallR X f (fun xs H Q => r1 xs H Q ∨ r2 xs H Q) :=
  fun pins s σ H xs us Q I r h => h.elim (h1 pins s σ H xs us Q I r) (h2 pins s σ H xs us Q I r)
theorem op_or {f : Value → Value → Sem Value} {r1 r2 : R2} (h1 : OpR X f r1) (h2 : OpR X f r2) : OpR X f (fun x y H Q => r1 x y H Q ∨ r2 x y H Q) :=
  fun pins s σ H x y v u Q I a b h => h.elim (h1 pins s σ H x y v u Q I a b) (h2 pins s σ H x y v u Q I a b)
end
section
variable {K : PySem.W.Frag} {σ : L2.St} {H : Hp} {a : Addr} {t : Bool} {xs : List V} {R : It → Hp → Prop}
theorem itB {tl : TE} (hta : ∀ q : VK, q (.ref a) H → tl σ H q) (hs : SqB t K H a xs) (hR : ∀ J, Walk J xs.length (fun H => SqB t K H a xs) (YAt xs) → R J H) : iList K tl σ H R ∨ iTup K tl σ H R := by
  cases t with
  | true => exact .inr (hta _ ⟨a, rfl, ⟨xs, hs⟩, hR _ walk_tup⟩)
  | false => exact .inl (hta _ ⟨a, rfl, ⟨xs, hs⟩, hR _ walk_list⟩)
theorem enumB {ta : TA} (hta : ∀ q : List V → Hp → Prop, q [.ref a] H → ta σ H q) (hs : SqB t K H a xs) (hR : ∀ J, Walk J xs.length (fun H => SqB t K H a xs) (YPair (fun i => some (.int (i : Nat))) (fun i => xs[i]?)) → R J H) : iEnum K ta σ H R ∨ iEnumT K ta σ H R := by
  cases t with
  | true => exact .inr (hta _ ⟨a, xs, rfl, hs, hR _ walk_enumT⟩)
  | false => exact .inl (hta _ ⟨a, xs, rfl, hs, hR _ walk_enum⟩)
end
/-! the class of data -/
def tyD : PyData → String
  | .none => "NoneType"
  | .bool _ => "bool"
  | .int _ => "int"
  | .str _ => "str"
  | .list _ => "list"
  | .tuple _ => "tuple"
  | .dict _ => "dict"
theorem tyLs {K : PySem.W.Frag} {H : Hp} {a : Addr} {xs : List V} (h : SqL K H a xs) : TyX K H (.ref a) (.type "list") := by
  rcases h with (h | ⟨o, h⟩) | ⟨o, its, n, h1, h2, _⟩
  · exact .base (.lst h)
  · exact .base (.frz h)
  · exact .kList h1 h2
theorem tyTs {K : PySem.W.Frag} {H : Hp} {a : Addr} {xs : List V} (h : SqT K H a xs) : TyX K H (.ref a) (.type "tuple") := by
  rcases h with (h | ⟨o, h⟩) | ⟨o, its, n, h1, h2, _⟩
  · exact .base (.tup h)
  · exact .fTuple h
  · exact .kTuple h1 h2
theorem ty_dp {K : PySem.W.Frag} {H : Hp} {v : V} {d : PyData} (h : Dp K H v d) : TyX K H v (.type (tyD d)) := by
  cases h with
  | non => exact .base .non
  | bl b => exact .base (.bl b)
  | int i => exact .base (.int i)
  | str z => exact .base (.str z)
  | lst h r => exact tyLs h
  | tup h r => exact tyTs h
/-! a comprehension of tuples, old or new -/
section
variable {K : PySem.W.Frag} {J : It} {n : Nat} {G : Hp → Prop} {Y : Nat → Hp → V → Hp → Prop}
theorem lcT (w : Walk J n G Y) {g : TG} {te : TE} {vs : List Nat} {σ : L2.St} {H1 : Hp} {D : Addr} {Qd : Hp → Prop} (f : Nat → PyData) (ht : ∀ i, i < n → tupOnly (f i) = true) (hn : n ≤ 100000) (hD : H1 D = none) (hG : ∀ H, Ex H1 H → G H)
    (hs : ∀ i x H H', i < n → Ex H1 H → Y i H x H' → ∀ (A : V → Hp → Prop), (∀ y H4, Ex H H4 → Dp K H4 y (f i) → A y H4) → g x (wipe σ vs) H' fun σ2 H2 => wipe σ2 vs = wipe σ vs ∧ te σ2 H2 A)
    (hd : ∀ H ys, Ex H1 H → H D = some (.lst ys) → DpAll K H ys ((List.range n).map f) → Qd H) :
    ∃ W : Nat → Nat → Hp → Prop, (∃ m, W 0 m (upd H1 D (.lst []))) ∧ ∀ i m H, W i m H →
      (J.stop i H ∧ Qd H) ∨ (J.go i H ∧ ∃ Nx : Hp → Prop, (∀ H', Nx H' → ∃ m', m' < m ∧ W (i + 1) m' H') ∧ ∀ x H', J.yld i H x H' → g x (wipe σ vs) H' fun σ2 H2 => wipe σ2 vs = wipe σ vs ∧ tYes σ2 H2 fun b H3 =>
        if b = true then te σ2 H3 fun y H4 => ∃ acc, H4 D = some (.lst acc) ∧ acc.length < sizeLine ∧ Nx (upd H4 D (.lst (acc ++ [y]))) else Nx H3) := by
  refine lc_it (tt := tYes) w (fun i H => i ≤ n ∧ Ex H1 H ∧ ∃ acc, H D = some (.lst acc) ∧ DpAll K H acc ((List.range i).map f)) ⟨Nat.zero_le _, Ex.new hD, [], upd_same, .nil⟩ (fun i H _ h => hG H h.2.1) (fun i x H H' hi h y => ?_) (fun H h => ?_)
  · obtain ⟨hin, e, acc, h1, h2⟩ := h
    have := hs i x H H' hi e y (fun y H4 => ∃ acc, H4 D = some (.lst acc) ∧ acc.length < sizeLine ∧ (i + 1 ≤ n ∧ Ex H1 (upd H4 D (.lst (acc ++ [y]))) ∧ ∃ acc', upd H4 D (.lst (acc ++ [y])) D = some (.lst acc') ∧ DpAll K (upd H4 D (.lst (acc ++ [y]))) acc' ((List.range (i + 1)).map f))) fun y H4 e4 hy => ?_
    · exact this
    · have hl : acc.length = i := by
        rw [dpAll_len h2, List.length_map, List.length_range]
      have tx : TEx H4 (upd H4 D (.lst (acc ++ [y]))) := tex_upd (e4 _ _ h1)
      refine ⟨acc, e4 _ _ h1, by rw [hl, sizeLine_eq]; omega, hi, fun b o hb => ?_, _, upd_same, ?_⟩
      · rw [upd_ne]
        · exact e4 _ _ (e b o hb)
        · rintro rfl
          rw [hD] at hb
          cases hb
      · rw [List.range_succ, List.map_append]
        refine dpAll_app (dpAll_tex tx (dpAll_ex e4 h2) ?_) (.cons (dp_tex tx hy (ht i hi)) .nil)
        rw [tupAll_iff]
        intro d hd
        obtain ⟨j, hj, rfl⟩ := List.mem_map.mp hd
        exact ht j (Nat.lt_trans (List.mem_range.mp hj) hi)
  · obtain ⟨_, e, acc, h1, h2⟩ := h
    exact hd H acc e h1 h2
end
end My
set_option Elab.async false
set_option linter.all false
set_option autoImplicit false
set_option maxRecDepth 100000
set_option maxHeartbeats 2000000
/-! len(o) by an own __len__; o == x by an own __eq__, whatever it answers -/
namespace My
open PySem PySem.Spec PyProof.Rows L2 Evl
section
variable {X : Cx} {CX : CXT} {C f : Addr} {fd : FuncData} {ps : List Str} {sp : Sp} {E : XK} {n : Nat}
/-- a def run under another around -/
theorem run_under {A : Around} {pins : List (Addr × Obj)} {σ : L2.St} {H : Hp} {s : Shared} {vs : List V} {us : List Value} {Q : VK} (F : FnOk X.prog X.w X.K X.mg X.base CX n f fd ps sp) (hb : Binds X.K fd ps []) (hx : Passes CX X E) (sb : Sub X n A) (I : Inv X pins σ H s) (r : Vals vs us) (h : sp vs H Q E) :
    wpAny (model X.prog X.w) A (call (.ref f) us) (EP X pins σ Q) X.xe s := by
  have e0 : Env0 X.prog X.w X.K X.mg X.base A X.stack s H := by
    have e := I.env0
    exact ⟨by rw [sb.fr]; exact e.frames, e.mod, e.bs, e.bsz, e.funs, e.frf, e.hok, e.bare⟩
  have hl : us.length = ps.length := r.length.symm.trans (F.len _ _ _ _ h)
  have hb' := hb s us I.kIn (by rw [List.append_nil]; exact hl)
  rw [List.append_nil] at hb'
  refine wpAny_call (codeAny_mono (F.run A X.stack s H ⟨us, []⟩ us vs Q E sb.room e0 hb' r h) fun z s' hq => ?_)
  match z, hq with
  | .error e, hq => exact hx pins σ H s e s' I hq
  | .ok (.ret u), hq => exact I.after hq
  | .ok .next, hq => exact False.elim hq
  | .ok .brk, hq => exact False.elim hq
  | .ok .cont, hq => exact False.elim hq
def rLenOwn (C : Addr) (sp : Sp) (E : XK) : List V → Hp → VK → Prop := fun xs H Q => ∃ a dx fs, xs = [.ref a] ∧ H a = some (.ins C dx fs) ∧ sp [.ref a] H (fun v H' => ∃ n : Nat, v = .int (n : Int) ∧ n < 1000000 ∧ Q (.int (n : Int)) H') E
theorem cr_lenOwn (F : FnOk X.prog X.w X.K X.mg X.base CX n f fd ps sp) (hs : PySem.W.findIn X.K (.ref C) "__len__" = some (some (.ref f))) (hf : PySem.W.isFn X.K (.ref f) = true) (hb : Binds X.K fd ps []) (hx : Passes CX X E) (hr : Room (n + 1) X.A) : CallR X (.builtin "len") (rLenOwn C sp E) := by
  intro pins s σ H xs us Q I r h
  obtain ⟨a, dx, fs, rfl, ha, hsp⟩ := h
  obtain ⟨u, rfl, ru⟩ := vals1 r
  cases ru
  obtain ⟨mA, J, _⟩ := ins_get I.hok ha
  obtain ⟨od, J, _⟩ := J.look
  obtain ⟨m, hF⟩ := I.fr
  refine PySem.W.len_K hF I.ok.mod.kin J hs hf ?_
  refine wpAny_mono (run_under (A := X.A.in1) F hb hx ⟨hr.in1, rfl⟩ I (vs := [V.ref a]) (.cons rfl .nil) hsp) (fun v s' hq => ?_) fun _ _ e => e
  obtain ⟨y, H', I', ry, k, rfl, hk, q⟩ := hq
  obtain ⟨t, rfl⟩ := ry
  exact ⟨⟨by omega, by omega⟩, .int (k : Int), H', I'.tok _, ⟨_, rfl⟩, q⟩
/-- x == y, x an instance of C; y another one, or a tuple -/
def rEqOwn (K : PySem.W.Frag) (C : Addr) (sp : Sp) (E : XK) : R2 := fun x y H Q => ∃ a dx fs, x = .ref a ∧ H a = some (.ins C dx fs) ∧ ((∃ b dy gs, y = .ref b ∧ H b = some (.ins C dy gs)) ∨ (PySem.W.notFirst K C (.type "tuple") = true ∧ ∃ b ys, y = .ref b ∧ H b = some (.tup ys))) ∧
  sp [x, y] H (fun v H' => ∃ r : Bool, v = .bl r ∧ Q (.bl r) H') E
theorem op_eqOwn (F : FnOk X.prog X.w X.K X.mg X.base CX n f fd ps sp) (hs : PySem.W.findIn X.K (.ref C) "__eq__" = some (some (.ref f))) (hf : PySem.W.isFn X.K (.ref f) = true) (hb : Binds X.K fd ps []) (hx : Passes CX X E) (hr : Room n X.A) : OpR X (compareOp .Eq) (rEqOwn X.K C sp E) := by
  intro pins s σ H x y v u Q I rx ry h
  obtain ⟨a, dx, fs, rfl, ha, hy, hsp⟩ := h
  cases rx
  show wpAny (model X.prog X.w) X.A (richCompare .Eq (.ref a) u) (EP X pins σ Q) X.xe s
  obtain ⟨mA, J, _⟩ := ins_get I.hok ha
  obtain ⟨od, J, _⟩ := J.look
  obtain ⟨m, hF⟩ := I.fr
  have back : wpAny (model X.prog X.w) X.A (call (.ref f) [.ref a, u]) (PySem.W.CmpBack (EP X pins σ Q)) X.xe s := by
    refine wpAny_mono (run_under (A := X.A) F hb hx ⟨hr, rfl⟩ I (vs := [V.ref a, y]) (.cons rfl (.cons ry .nil)) hsp) (fun z s' hq => ?_) fun _ _ e => e
    obtain ⟨w, H', I', rw', r, rfl, q⟩ := hq
    cases rw'
    exact ⟨.bl r, H', I', rfl, q⟩
  rcases hy with ⟨b, dy, gs, rfl, hb'⟩ | ⟨hn, b, ys, rfl, hb'⟩
  · cases ry
    obtain ⟨mB, J', _⟩ := ins_get I.hok hb'
    obtain ⟨od', J', _⟩ := J'.look
    exact PySem.W.cmp_K (op := .Eq) (tb := .ref C) hr.units0 hF I.ok.mod.kin J J'.type (by simp [PySem.W.notFirst]) hs hf back
  · cases ry
    obtain ⟨_, its, rv, o, h1, h2, _⟩ := (show ObjOk X.prog X.w H s.heap b (.tup ys) from I.hok b _ hb')
    have LT : PySem.W.Looks (model X.prog X.w) s.heap (typeOf (.ref b)) (.type "tuple") := fun A Q E s k q => wpAny_typeOf_ref (k _ _ h1) (by rw [h2]; exact q)
    exact PySem.W.cmp_K (op := .Eq) (tb := .type "tuple") hr.units0 hF I.ok.mod.kin J LT hn hs hf back
end
end My
set_option Elab.async false
set_option linter.all false
set_option autoImplicit false
set_option maxRecDepth 100000
set_option maxHeartbeats 4000000
namespace My
open PySem PySem.Spec PyProof.Rows L2 Evl
/-- flat data: what may be compared and shown -/
structure Fl (k w : Nat) (d : PyData) : Prop where
  lay : d.canLay0 = true
  shw : d.showable = true
  nd : d.hasDict = false
  dep : d.depth ≤ k
  lv : d.leavesShort 8 = true
  wt : d.weight ≤ w
structure FlA (k w : Nat) (ds : List PyData) : Prop where
  lay : PyData.canLayAll0 ds = true
  shw : PyData.showableAll ds = true
  nd : PyData.hasDictAll ds = false
  dep : PyData.depthAll ds ≤ k
  lv : PyData.leavesShortAll 8 ds = true
  wt : PyData.weightAll ds ≤ ds.length * (w + 1)
theorem Fl.mono {k k' w w' : Nat} {d : PyData} (h : Fl k w d) (hk : k ≤ k') (hw : w ≤ w') : Fl k' w' d := ⟨h.lay, h.shw, h.nd, Nat.le_trans h.dep hk, h.lv, Nat.le_trans h.wt hw⟩
theorem flA {k w : Nat} : ∀ {ds : List PyData}, (∀ d ∈ ds, Fl k w d) → FlA k w ds
  | [], _ => ⟨rfl, rfl, rfl, Nat.zero_le _, rfl, Nat.zero_le _⟩
  | d :: ds, h => by
    have a := h d List.mem_cons_self
    have b := flA (ds := ds) fun x hx => h x (List.mem_cons_of_mem _ hx)
    refine ⟨?_, ?_, ?_, ?_, ?_, ?_⟩
    · show (PyData.canLay0 d && PyData.canLayAll0 ds) = true
      rw [a.lay, b.lay]
      rfl
    · show (PyData.showable d && PyData.showableAll ds) = true
      rw [a.shw, b.shw]
      rfl
    · show (PyData.hasDict d || PyData.hasDictAll ds) = false
      rw [a.nd, b.nd]
      rfl
    · show max (PyData.depth d) (PyData.depthAll ds) ≤ k
      exact Nat.max_le.mpr ⟨a.dep, b.dep⟩
    · show (PyData.leavesShort 8 d && PyData.leavesShortAll 8 ds) = true
      rw [a.lv, b.lv]
      rfl
    · show PyData.weight d + 1 + PyData.weightAll ds ≤ (ds.length + 1) * (w + 1)
      have := a.wt
      have := b.wt
      rw [Nat.add_mul]
      omega
theorem fl_tup {k w m : Nat} {ds : List PyData} (h : ∀ d ∈ ds, Fl k w d) (hm : ds.length ≤ m) : Fl (k + 1) (m * (w + 1)) (.tuple ds) := by
  have a := flA h
  exact ⟨a.lay, a.shw, a.nd, by show PyData.depthAll ds + 1 ≤ k + 1; exact Nat.succ_le_succ a.dep, a.lv, Nat.le_trans a.wt (Nat.mul_le_mul_right _ hm)⟩
theorem fl_lst {k w m : Nat} {ds : List PyData} (h : ∀ d ∈ ds, Fl k w d) (hm : ds.length ≤ m) : Fl (k + 1) (m * (w + 1)) (.list ds) := by
  have a := flA h
  exact ⟨a.lay, a.shw, a.nd, by show PyData.depthAll ds + 1 ≤ k + 1; exact Nat.succ_le_succ a.dep, a.lv, Nat.le_trans a.wt (Nat.mul_le_mul_right _ hm)⟩
theorem fl_non : Fl 0 0 .none := ⟨rfl, rfl, rfl, Nat.le_refl _, rfl, Nat.le_refl _⟩
theorem fl_bool (b : Bool) : Fl 0 0 (.bool b) := ⟨rfl, rfl, rfl, Nat.le_refl _, rfl, Nat.le_refl _⟩
theorem fl_nat0 : ∀ j : Fin 256, ((PyData.int ((j.val : Nat) : Int)).showable && (PyData.int ((j.val : Nat) : Int)).leavesShort 8 && decide ((PyData.int ((j.val : Nat) : Int)).weight ≤ 8)) = true := by decide +kernel
theorem fl_nat {j : Nat} (h : j < 256) : Fl 0 8 (.int (j : Int)) := by
  have q := fl_nat0 ⟨j, h⟩
  rw [Bool.and_eq_true, Bool.and_eq_true] at q
  exact ⟨rfl, q.1.1, rfl, Nat.le_refl _, q.1.2, of_decide_eq_true q.2⟩
theorem Fl.shaped {k w : Nat} {d : PyData} (h : Fl k w d) (hk : k ≤ 64) : SeqAt.shaped d = true := by
  unfold SeqAt.shaped
  rw [h.lay, decide_eq_true (Nat.le_trans h.dep hk)]
  rfl
theorem Fl.len {k w : Nat} {d : PyData} (h : Fl k w d) (hw : w ≤ 1000000) : d.shown.length ≤ sizeLine := by
  have a := PyData.shown_le 8 (by decide) d h.lv
  have := h.wt
  rw [sizeLine_eq]
  omega
theorem rRepr_fl {K : PySem.W.Frag} {H : Hp} {Q : VK} {v : V} {d : PyData} {k w : Nat} (f : Fl k w d) (hk : k ≤ 60) (hw : w ≤ 1000000) (hd : isDisplay d = true) (h : Dp K H v d) (q : Q (.str d.shown) H) : rRepr K [v] H Q :=
  ⟨v, d, rfl, h, hd, f.shw, f.nd, Nat.le_trans f.dep hk, f.len hw, q⟩
theorem fl_str {z : Str} (h : (PyData.str z).canLay0 = true) (hs : (PyData.str z).showable = true) (hl : (PyData.str z).leavesShort 8 = true) (w : Nat) (hw : (PyData.str z).weight ≤ w) : Fl 0 w (.str z) := ⟨h, hs, rfl, Nat.le_refl _, hl, hw⟩
theorem eqvAll_of {α : Type} [DecidableEq α] {g : α → PyData} (h : ∀ a b, PyData.eqv (g a) (g b) = decide (a = b)) : ∀ l m : List α, PyData.eqvAll (l.map g) (m.map g) = decide (l = m)
  | [], [] => rfl
  | [], _ :: _ => rfl
  | _ :: _, [] => rfl
  | a :: l, b :: m => by
    show (PyData.eqv (g a) (g b) && PyData.eqvAll (l.map g) (m.map g)) = _
    rw [h a b, eqvAll_of h l m]
    by_cases e1 : a = b
    · by_cases e2 : l = m
      · rw [e1, e2, decide_eq_true rfl, decide_eq_true rfl, decide_eq_true rfl]
        rfl
      · rw [decide_eq_false e2, Bool.and_false, decide_eq_false (fun q => e2 (by injection q))]
    · rw [decide_eq_false e1, Bool.false_and, decide_eq_false (fun q => e1 (by injection q))]
/-- data that may be compared -/
structure Sh (k : Nat) (d : PyData) : Prop where
  lay : d.canLay0 = true
  dep : d.depth ≤ k
theorem Sh.shaped {k : Nat} {d : PyData} (h : Sh k d) (hk : k ≤ 64) : SeqAt.shaped d = true := by
  unfold SeqAt.shaped
  rw [h.lay, decide_eq_true (Nat.le_trans h.dep hk)]
  rfl
theorem shA {k : Nat} : ∀ {ds : List PyData}, (∀ d ∈ ds, Sh k d) → PyData.canLayAll0 ds = true ∧ PyData.depthAll ds ≤ k
  | [], _ => ⟨rfl, Nat.zero_le _⟩
  | d :: ds, h => by
    have a := h d List.mem_cons_self
    have b := shA (ds := ds) fun x hx => h x (List.mem_cons_of_mem _ hx)
    refine ⟨?_, ?_⟩
    · show (PyData.canLay0 d && PyData.canLayAll0 ds) = true
      rw [a.lay, b.1]
      rfl
    · show max (PyData.depth d) (PyData.depthAll ds) ≤ k
      exact Nat.max_le.mpr ⟨a.dep, b.2⟩
theorem sh_tup {k : Nat} {ds : List PyData} (h : ∀ d ∈ ds, Sh k d) : Sh (k + 1) (.tuple ds) := ⟨(shA h).1, Nat.succ_le_succ (shA h).2⟩
theorem sh_lst {k : Nat} {ds : List PyData} (h : ∀ d ∈ ds, Sh k d) : Sh (k + 1) (.list ds) := ⟨(shA h).1, Nat.succ_le_succ (shA h).2⟩
theorem sh_int (i : Int) : Sh 0 (.int i) := ⟨rfl, Nat.le_refl _⟩
theorem sh_non : Sh 0 .none := ⟨rfl, Nat.le_refl _⟩
theorem sh_bool (b : Bool) : Sh 0 (.bool b) := ⟨rfl, Nat.le_refl _⟩
theorem sh_str {z : Str} (h : (PyData.str z).canLay0 = true) : Sh 0 (.str z) := ⟨h, Nat.le_refl _⟩
theorem Sh.mono {k k' : Nat} {d : PyData} (h : Sh k d) (hk : k ≤ k') : Sh k' d := ⟨h.lay, Nat.le_trans h.dep hk⟩
end My
set_option Elab.async false
set_option linter.all false
set_option autoImplicit false
set_option maxRecDepth 100000
set_option maxHeartbeats 4000000
/-! isinstance(e, c) and isinstance(e, (c, ..)), e a caught error that may have a dict of its own -/
namespace My
open PySem PySem.Spec PySem.Calls PyProof.Rows
open L2
/-- the error that the suite holds: of which class, with which dict -/
def ErrIs (K : PySem.W.Frag) (cls : Value) (d : Option Addr) (H : Hp) (D : Addr) : Prop := cls = .ref D ∧ L2.ExcC K D ∧ ∃ dd fs, d = some dd ∧ H dd = some (.xd fs)
/-- isinstance(e, c), isinstance(e, (c, ..)) -/
def rIsErr (K : PySem.W.Frag) (a : Addr) (cls : Value) (d : Option Addr) : List V → Hp → VK → Prop := fun xs H Q => ∃ (D : Addr) (y : V) (b : Bool), xs = [.ref a, y] ∧ ErrIs K cls d H D ∧ Q (.bl b) H ∧
  ((∃ u, ClsV y u ∧ PySem.W.kitOne K cls u = some b) ∨ ∃ tp cs us, y = .ref tp ∧ H tp = some (.tup cs) ∧ Paired ClsV cs us ∧ PySem.W.kitAny K cls us = some b)
theorem kitErr {K : PySem.W.Frag} {x D : Addr} {ox : Obj} {od : Option Obj} (C : L2.ExcC K D) : PySem.W.KitX K (.ref x) (.ref D) (fun h => PySem.W.InstAt h x ox D od) :=
  PySem.W.kitx_exc (by obtain ⟨cd, hc, _⟩ := PySem.W.any_some C.hd; rw [hc]; rfl) C.hg C.hk C.hs C.ha C.hn C.ht C.hm
theorem call_isErr {X : Cx} {a : Addr} {cls : Value} {d : Option Addr} {oe : Obj} {pn : List (Addr × Obj)} (hz : Zc cls d oe) (hf : ∃ vs, oe.data = .fields vs) : CallR (X.suite a ((a, oe) :: pn)) (.builtin "isinstance") (rIsErr X.K a cls d) := by
  intro pins s σ H xs us Q I r h
  obtain ⟨D, y, b, rfl, ⟨rfl, C, dd, fs, rfl, hd⟩, q, h⟩ := h
  obtain ⟨u1, u2, rfl, r1, r2⟩ := vals2 r
  obtain rfl : u1 = Value.ref a := r1
  obtain ⟨vs, hv⟩ := hf
  obtain ⟨ha, _⟩ := I.pin (a, oe) (List.mem_append_left _ List.mem_cons_self)
  obtain ⟨mA, hns, _⟩ := (show ObjOk X.prog X.w H s.heap dd (.xd fs) from I.hok dd _ hd)
  obtain ⟨od, ho, _⟩ := lookIn_ns hns
  have J : PySem.W.InstAt s.heap a oe D (some od) := ⟨ha, hz.1, by unfold PySem.W.notCls; rw [hv] <;> rfl, by rw [hz.2]; exact ho⟩
  rcases h with ⟨u, k, e⟩ | ⟨tp, cs, us, rfl, hT, k, e⟩
  · obtain rfl := k.eq r2
    exact PySem.W.kia_one (kitErr C) I.kIn J e (fun z => nomatch z) fun tk => ⟨.bl b, H, I.tok tk, rfl, q⟩
  · obtain rfl : u2 = Value.ref tp := r2
    obtain ⟨_, its, rv, o, h1, h2, n, h3⟩ := (show ObjOk X.prog X.w H s.heap tp (.tup cs) from I.hok tp _ hT)
    obtain rfl := ClsV.all k rv
    obtain ⟨oc, od2, dt, sl⟩ := o
    simp only at h2 h3
    subst h2 h3
    exact PySem.W.kia_tup (kitErr C) I.kIn J h1 e (fun z => nomatch z) fun tk => ⟨.bl b, H, I.tok tk, rfl, q⟩
end My
set_option Elab.async false
set_option linter.all false
set_option autoImplicit false
set_option maxRecDepth 100000
set_option maxHeartbeats 2000000
namespace My
open PySem PySem.Spec PyProof.Rows L2 Evl
/-! ### the text by places -/
def top (i : Nat) : Stmt := PySem.Challenge.pw_rueless_k31_machines_made_and_walked.main.body.getD i (.Pass ⟨0, 0, 0, 0⟩)
abbrev sIsInt : Stmt := top 8
abbrev sIsNum : Stmt := top 9
abbrev sIsBelow : Stmt := top 10
abbrev sIsSeq : Stmt := top 11
abbrev sIsSign : Stmt := top 12
abbrev sNeedRow : Stmt := top 16
abbrev sMI : Stmt := inClass (top 19) 0
abbrev sLen : Stmt := inClass (top 19) 1
abbrev sEq : Stmt := inClass (top 19) 2
abbrev sNeedSt : Stmt := inClass (top 19) 3
abbrev sStep : Stmt := inClass (top 19) 4
abbrev sStarted : Stmt := inClass (top 19) 5
abbrev sAfter : Stmt := inClass (top 19) 6
abbrev sReads : Stmt := inClass (top 19) 7
abbrev sBeg : Stmt := inClass (top 19) 8
abbrev sWalked : Stmt := top 20
abbrev sDealt : Stmt := top 22
abbrev sAny : Stmt := top 23
abbrev sOf : Stmt := top 24
abbrev sLetters : Stmt := top 25
abbrev sWays : Stmt := top 26
abbrev sRefused : Stmt := top 27
abbrev sKept : Stmt := top 28
abbrev sLWalk : Stmt := top 29
abbrev sIsWalked : Stmt := top 30
abbrev sStrange : Stmt := top 31
abbrev sFaults : Stmt := top 32
abbrev sLaw : Stmt := top 33
/-! ### the built-ins are the built-ins, the constants -/
structure Txt (K : PySem.W.Frag) (mg : Str → Option Value) : Prop where
  b_int : mg "int" = none
  b_bool : mg "bool" = none
  b_str : mg "str" = none
  b_len : mg "len" = none
  b_abs : mg "abs" = none
  b_tuple : mg "tuple" = none
  b_list : mg "list" = none
  b_range : mg "range" = none
  b_enumerate : mg "enumerate" = none
  b_repr : mg "repr" = none
  b_all : mg "all" = none
  b_isinstance : mg "isinstance" = none
  g_LETTERS : ∃ u, mg "LETTERS" = some u ∧ RelV (.str "abcd01") u
  g_MOST_LETTERS : ∃ u, mg "MOST_LETTERS" = some u ∧ RelV (.int 200) u
  g_MOST_STATES : ∃ u, mg "MOST_STATES" = some u ∧ RelV (.int 2000) u
/-- a def of the text: where it stands, what it promises -/
structure Own (P : Program) (w : World) (K : PySem.W.Frag) (mg : Str → Option Value) (base : Heap) (x : Str) (k : Nat) (ps : List Str) (sp : Sp) where
  f : Addr
  fd : FuncData
  G : FnOk P w K mg base CX0 k f fd ps sp
  m : mg x = some (.ref f)
  kp : PySem.W.keepIn K (.ref f) = true
  b : Binds K fd ps []
/-- a def that may raise -/
structure OwnX (P : Program) (w : World) (K : PySem.W.Frag) (mg : Str → Option Value) (base : Heap) (x : Str) (k : Nat) (ps : List Str) (sp : Sp) where
  f : Addr
  fd : FuncData
  G : FnOk P w K mg base (L2.CX P w) k f fd ps sp
  m : mg x = some (.ref f)
  kp : PySem.W.keepIn K (.ref f) = true
  b : Binds K fd ps []
/-- a method that may raise -/
structure OwnMX (P : Program) (w : World) (K : PySem.W.Frag) (mg : Str → Option Value) (base : Heap) (C : Addr) (m : Str) (k : Nat) (ps : List Str) (sp : Sp) where
  f : Addr
  fd : FuncData
  G : FnOk P w K mg base (L2.CX P w) k f fd ps sp
  c : Cls K C
  mt : Meth K C m f
  b : Binds K fd ps []
section
variable {X : Cx}
theorem crIsi (K : PySem.W.Frag) (hK : X.K = K := by rfl) : CallR X (.builtin "isinstance") (rIsi K) := by
  subst hK
  exact call_isi
theorem crIsiT (K : PySem.W.Frag) (hK : X.K = K := by rfl) : CallR X (.builtin "isinstance") (rIsiT K) := by
  subst hK
  exact call_isiT
end
theorem iteT1 {c : Bool} {A B : Prop} (hc : c = true) (h : A) : if c = true then A else B := by
  rw [if_pos hc]
  exact h
theorem iteF1 {c : Bool} {A B : Prop} (hc : c = false) (h : B) : if c = true then A else B := by
  rw [if_neg (by rw [hc]; decide)]
  exact h
/-! ### what is a number, a sequence, a sign -/
def isIntD : PyData → Bool
  | .int _ => true
  | _ => false
def isNumD : PyData → Bool
  | .int i => decide (0 ≤ i)
  | _ => false
def belowD : PyData → Int → Bool
  | .int i, m => decide (0 ≤ i) && decide (i < m)
  | _, _ => false
/-- a text of one sign among the signs -/
def signD (z : Str) : PyData → Bool
  | .str y => match y.cps.toList with
    | [c] => decide (c ∈ z.cps.toList)
    | _ => false
  | _ => false
/-- no text in it is long -/
def shortD : PyData → Prop
  | .str y => y.cps.size ≤ 100000
  | _ => True
theorem kit_int (K : PySem.W.Frag) (d : PyData) : PySem.W.kitOne K (.type (tyD d)) (.type "int") = some (match d with | .int _ => true | .bool _ => true | _ => false) := by
  cases d with
  | none => exact kit_ty (a := "NoneType") (r := false) (by decide +kernel)
  | bool b => exact kit_ty (a := "bool") (r := true) (by decide +kernel)
  | int i => exact kit_ty (a := "int") (r := true) (by decide +kernel)
  | str z => exact kit_ty (a := "str") (r := false) (by decide +kernel)
  | list ds => exact kit_ty (a := "list") (r := false) (by decide +kernel)
  | tuple ds => exact kit_ty (a := "tuple") (r := false) (by decide +kernel)
  | dict kvs => exact kit_ty (a := "dict") (r := false) (by decide +kernel)
theorem kit_bool (K : PySem.W.Frag) (d : PyData) : PySem.W.kitOne K (.type (tyD d)) (.type "bool") = some (match d with | .bool _ => true | _ => false) := by
  cases d with
  | none => exact kit_ty (a := "NoneType") (r := false) (by decide +kernel)
  | bool b => exact kit_ty (a := "bool") (r := true) (by decide +kernel)
  | int i => exact kit_ty (a := "int") (r := false) (by decide +kernel)
  | str z => exact kit_ty (a := "str") (r := false) (by decide +kernel)
  | list ds => exact kit_ty (a := "list") (r := false) (by decide +kernel)
  | tuple ds => exact kit_ty (a := "tuple") (r := false) (by decide +kernel)
  | dict kvs => exact kit_ty (a := "dict") (r := false) (by decide +kernel)
theorem kit_str (K : PySem.W.Frag) (d : PyData) : PySem.W.kitOne K (.type (tyD d)) (.type "str") = some (match d with | .str _ => true | _ => false) := by
  cases d with
  | none => exact kit_ty (a := "NoneType") (r := false) (by decide +kernel)
  | bool b => exact kit_ty (a := "bool") (r := false) (by decide +kernel)
  | int i => exact kit_ty (a := "int") (r := false) (by decide +kernel)
  | str z => exact kit_ty (a := "str") (r := true) (by decide +kernel)
  | list ds => exact kit_ty (a := "list") (r := false) (by decide +kernel)
  | tuple ds => exact kit_ty (a := "tuple") (r := false) (by decide +kernel)
  | dict kvs => exact kit_ty (a := "dict") (r := false) (by decide +kernel)
section
variable {P : Program} {w : World} {K : PySem.W.Frag} {mg : Str → Option Value} {base : Heap}
def spIsInt (K : PySem.W.Frag) : Sp := fun vs H Q _ => ∃ v d, vs = [v] ∧ Dp K H v d ∧ Q (.bl (isIntD d)) H
abbrev nIsInt : List Str := ["value"]
theorem scIsInt : FnScope nIsInt ["value"] (defScope sIsInt) := ⟨rfl, rfl, rfl, by decide +kernel, rfl, by decide +kernel, by decide +kernel⟩
theorem ok_IsInt {f : Addr} {fd : FuncData} (Fn : Fun K "is_integer" "is_integer" sIsInt f fd) (T : Txt K mg) : FnOk P w K mg base CX0 1 f fd ["value"] (spIsInt K) := by
  refine Fn.ok scIsInt (fun vs H Q E h => ?_) (fun cdv A outer s H vs Q E hr h => ?_)
  · obtain ⟨v, d, rfl, _⟩ := h
    rfl
  · obtain ⟨v, d, rfl, hk, k⟩ := h
    refine ⟨_, (pss_one (ps_ret (pe_and (pe_callB (crIsi K) (by rfl) T.b_isinstance (by decide +kernel) (pa_cons (pv 0) (pa_cons (pe_bltn (v := .ty "int") (by rfl) T.b_int (by decide +kernel) rfl) pa_nil))) (pe_one (pe_not (pe_callB (crIsi K) (by rfl) T.b_isinstance (by decide +kernel) (pa_cons (pv 0) (pa_cons (pe_bltn (v := .ty "bool") (by rfl) T.b_bool (by decide +kernel) rfl) pa_nil)))))))), ?_⟩
    have ty := ty_dp hk
    cases hk with
    | int i => exact ⟨_, rfl, _, _, _, _, _, rfl, .ty "int", ty, kit_int K _, true, rfl, iteT ⟨_, rfl, _, _, _, _, _, rfl, .ty "bool", ty, kit_bool K _, false, rfl, k⟩⟩
    | bl b => exact ⟨_, rfl, _, _, _, _, _, rfl, .ty "int", ty, kit_int K _, true, rfl, iteT ⟨_, rfl, _, _, _, _, _, rfl, .ty "bool", ty, kit_bool K _, true, rfl, k⟩⟩
    | _ => exact ⟨_, rfl, _, _, _, _, _, rfl, .ty "int", ty, kit_int K _, false, rfl, iteF k⟩
def spIsNum (K : PySem.W.Frag) : Sp := fun vs H Q _ => ∃ v d, vs = [v] ∧ Dp K H v d ∧ Q (.bl (isNumD d)) H
abbrev nIsNum : List Str := ["value"]
theorem scIsNum : FnScope nIsNum ["value"] (defScope sIsNum) := ⟨rfl, rfl, rfl, by decide +kernel, rfl, by decide +kernel, by decide +kernel⟩
theorem ok_IsNum {f : Addr} {fd : FuncData} (Fn : Fun K "is_number" "is_number" sIsNum f fd) (T : Txt K mg) (Oi : Own P w K mg base "is_integer" 1 ["value"] (spIsInt K)) : FnOk P w K mg base CX0 2 f fd ["value"] (spIsNum K) := by
  refine Fn.ok scIsNum (fun vs H Q E h => ?_) (fun cdv A outer s H vs Q E hr h => ?_)
  · obtain ⟨v, d, rfl, _⟩ := h
    rfl
  · obtain ⟨v, d, rfl, hk, k⟩ := h
    refine ⟨_, (pss_one (ps_ret (pe_and (pe_call Oi.G (hr.mono (by decide)) rfl Oi.m Oi.kp Oi.b .nil pass0 (pa_cons (pv 0) pa_nil)) (pe_one (pe_cmpR op_ge (pv 0) pe_int (nomark _)))))), ?_⟩
    refine ⟨_, rfl, _, _, rfl, hk, _, rfl, ?_⟩
    cases hk with
    | int i => exact iteT ⟨_, rfl, _, _, rfl, rfl, k⟩
    | _ => exact iteF k
def spIsBelow (K : PySem.W.Frag) : Sp := fun vs H Q _ => ∃ v d m, vs = [v, .int m] ∧ Dp K H v d ∧ Q (.bl (belowD d m)) H
abbrev nIsBelow : List Str := ["value", "bound"]
theorem scIsBelow : FnScope nIsBelow ["value", "bound"] (defScope sIsBelow) := ⟨rfl, rfl, rfl, by decide +kernel, rfl, by decide +kernel, by decide +kernel⟩
theorem ok_IsBelow {f : Addr} {fd : FuncData} (Fn : Fun K "is_number_below" "is_number_below" sIsBelow f fd) (T : Txt K mg) (On : Own P w K mg base "is_number" 2 ["value"] (spIsNum K)) : FnOk P w K mg base CX0 3 f fd ["value", "bound"] (spIsBelow K) := by
  refine Fn.ok scIsBelow (fun vs H Q E h => ?_) (fun cdv A outer s H vs Q E hr h => ?_)
  · obtain ⟨v, d, m, rfl, _⟩ := h
    rfl
  · obtain ⟨v, d, m, rfl, hk, k⟩ := h
    refine ⟨_, (pss_one (ps_ret (pe_and (pe_call On.G (hr.mono (by decide)) rfl On.m On.kp On.b .nil pass0 (pa_cons (pv 0) pa_nil)) (pe_one (pe_cmpR opLt (pv 0) (pv 1) (nomark _)))))), ?_⟩
    refine ⟨_, rfl, _, _, rfl, hk, _, rfl, ?_⟩
    cases hk with
    | int i =>
      have k : Q (.bl (decide (0 ≤ i) && decide (i < m))) H := k
      cases e : decide (0 ≤ i) with
      | true =>
        rw [e, Bool.true_and] at k
        exact iteT1 e ⟨_, rfl, _, rfl, _, _, rfl, rfl, k⟩
      | false =>
        rw [e, Bool.false_and] at k
        exact iteF1 e k
    | _ => exact iteF k
def spIsSeq (K : PySem.W.Frag) : Sp := fun vs H Q _ => ∃ v d, vs = [v] ∧ Dp K H v d ∧ ∀ H', Ex H H' → Q (.bl (seqD d).isSome) H'
abbrev nIsSeq : List Str := ["value"]
theorem scIsSeq : FnScope nIsSeq ["value"] (defScope sIsSeq) := ⟨rfl, rfl, rfl, by decide +kernel, rfl, by decide +kernel, by decide +kernel⟩
theorem ok_IsSeq {f : Addr} {fd : FuncData} (Fn : Fun K "is_sequence" "is_sequence" sIsSeq f fd) (T : Txt K mg) : FnOk P w K mg base CX0 1 f fd ["value"] (spIsSeq K) := by
  refine Fn.ok scIsSeq (fun vs H Q E h => ?_) (fun cdv A outer s H vs Q E hr h => ?_)
  · obtain ⟨v, d, rfl, _⟩ := h
    rfl
  · obtain ⟨v, d, rfl, hk, k⟩ := h
    refine ⟨_, (pss_one (ps_ret (pe_callB (crIsiT K) (by rfl) T.b_isinstance (by decide +kernel) (pa_cons (pv 0) (pa_cons (pe_tup (pa_cons (pe_bltn (v := .ty "list") (by rfl) T.b_list (by decide +kernel) rfl) (pa_cons (pe_bltn (v := .ty "tuple") (by rfl) T.b_tuple (by decide +kernel) rfl) pa_nil))) pa_nil))))), ?_⟩
    refine ⟨_, rfl, (by show 2 ≤ sizeLine; decide), fun t ht => ?_⟩
    have ty := ty_dp (dp_ex (Ex.new (p := t) (o := .tup [.ty "list", .ty "tuple"]) ht) hk)
    refine ⟨_, t, _, _, _, (seqD d).isSome, rfl, upd_same, .cons (.ty "list") (.cons (.ty "tuple") .nil), ty, ?_, k _ (Ex.new ht)⟩
    cases hk <;> rfl
def spIsSign (K : PySem.W.Frag) : Sp := fun vs H Q _ => ∃ v d z, vs = [v, .str z] ∧ Dp K H v d ∧ shortD d ∧ Q (.bl (signD z d)) H
abbrev nIsSign : List Str := ["value", "signs"]
theorem scIsSign : FnScope nIsSign ["value", "signs"] (defScope sIsSign) := ⟨rfl, rfl, rfl, by decide +kernel, rfl, by decide +kernel, by decide +kernel⟩
theorem ok_IsSign {f : Addr} {fd : FuncData} (Fn : Fun K "is_sign" "is_sign" sIsSign f fd) (T : Txt K mg) : FnOk P w K mg base CX0 1 f fd ["value", "signs"] (spIsSign K) := by
  refine Fn.ok scIsSign (fun vs H Q E h => ?_) (fun cdv A outer s H vs Q E hr h => ?_)
  · obtain ⟨v, d, z, rfl, _⟩ := h
    rfl
  · obtain ⟨v, d, z, rfl, hk, hs, k⟩ := h
    refine ⟨_, (pss_one (ps_ret (pe_and (pe_callB (crIsi K) (by rfl) T.b_isinstance (by decide +kernel) (pa_cons (pv 0) (pa_cons (pe_bltn (v := .ty "str") (by rfl) T.b_str (by decide +kernel) rfl) pa_nil))) (pe_and (pe_cmpR op_eq (pe_callB call_len_str (by rfl) T.b_len PySem.boot_len (pa_cons (pv 0) pa_nil)) pe_int (nomark _)) (pe_one (pe_cmpR op_inS (pv 0) (pv 1) (by first | exact nobehind _ (by decide) (by decide) | rfl))))))), ?_⟩
    have ty := ty_dp hk
    cases hk with
    | str y =>
      refine ⟨_, rfl, _, _, _, _, _, rfl, .ty "str", ty, kit_str K _, true, rfl, iteT ?_⟩
      have hs : y.cps.size ≤ 100000 := hs
      refine ⟨_, rfl, y, rfl, (by show y.cps.size ≤ sizeLine; rw [sizeLine_eq]; omega), rfl, _, rfl, ?_⟩
      obtain ⟨l⟩ := y
      obtain ⟨l⟩ := l
      match l with
      | [c] => exact iteT1 rfl ⟨_, rfl, _, rfl, c, z, rfl, rfl, k⟩
      | [] => exact iteF1 rfl k
      | a :: b :: r => exact iteF1 (decide_eq_false (by intro h; have h : (V.int (((r.length + 1 + 1 : Nat)) : Int)) = V.int 1 := h; injection h with h; omega)) k
    | _ => exact ⟨_, rfl, _, _, _, _, _, rfl, .ty "str", ty, kit_str K _, false, rfl, iteF k⟩
end
end My
set_option Elab.async false
set_option linter.all false
set_option autoImplicit false
set_option maxRecDepth 100000
set_option maxHeartbeats 4000000
namespace My
open PySem PySem.Spec PyProof.Rows L2 Evl
/-- all but the deal's two lists stay -/
def ExD (a b : Addr) (H H' : Hp) : Prop := ∀ c o, H c = some o → c ≠ a → c ≠ b → H' c = some o
theorem ExD.refl {a b : Addr} {H : Hp} : ExD a b H H := fun _ _ h _ _ => h
theorem ExD.trans {a b : Addr} {H H1 H2 : Hp} (e : ExD a b H H1) (f : ExD a b H1 H2) : ExD a b H H2 := fun c o h n m => f c o (e c o h n m) n m
theorem exD_of {a b : Addr} {H H' : Hp} (e : Ex H H') : ExD a b H H' := fun c o h _ _ => e c o h
theorem ExD.ex {a b : Addr} {H0 H H' : Hp} (e : ExD a b H H') (e0 : Ex H0 H) (ha : H0 a = none) (hb : H0 b = none) : Ex H0 H' := fun c o h => e c o (e0 c o h) (ne_of_none h ha) (ne_of_none h hb)
theorem exD_put {a b : Addr} {H : Hp} {o : HO} : ExD a b H (upd H a o) := fun c u h n _ => by
  rw [upd_ne n]
  exact h
theorem exD_put2 {a b : Addr} {H : Hp} {o : HO} : ExD a b H (upd H b o) := fun c u h _ n => by
  rw [upd_ne n]
  exact h
/-- a deal: great cells, a blend -/
structure Deal (H : Hp) (a b : Addr) : Prop where
  ob : ∃ (cs : List Int) (z : Int), H a = some (.lst [.ref b, .int z]) ∧ H b = some (.lst (cs.map V.int)) ∧ (∀ c ∈ cs, 0 ≤ c) ∧ cs.length ≤ 48 ∧ 0 ≤ z ∧ z < 2147483647
  ne : a ≠ b
theorem Deal.ex {H H' : Hp} {a b : Addr} (h : Deal H a b) (e : Ex H H') : Deal H' a b := by
  obtain ⟨⟨cs, z, h1, h2, r⟩, ne⟩ := h
  exact ⟨⟨cs, z, e _ _ h1, e _ _ h2, r⟩, ne⟩
theorem Deal.lst {H : Hp} {a b : Addr} (h : Deal H a b) : (∃ xs, H a = some (.lst xs)) ∧ ∃ xs, H b = some (.lst xs) := by
  obtain ⟨⟨cs, z, h1, h2, r⟩, ne⟩ := h
  exact ⟨⟨_, h1⟩, ⟨_, h2⟩⟩
theorem Deal.fresh {H : Hp} {a b c : Addr} (h : Deal H a b) (hc : H c = none) : a ≠ c ∧ b ≠ c := by
  obtain ⟨⟨xs, h1⟩, ⟨ys, h2⟩⟩ := h.lst
  exact ⟨ne_of_none h1 hc, ne_of_none h2 hc⟩
theorem ExD.tex {a b : Addr} {H H' : Hp} (e : ExD a b H H') (d : Deal H a b) : TEx H H' := by
  obtain ⟨⟨xs, h1⟩, ⟨ys, h2⟩⟩ := d.lst
  refine ⟨fun c zs h => e c _ h ?_ ?_, fun c o u h => e c _ h ?_ ?_⟩
  · rintro rfl
    rw [h1] at h
    cases h
  · rintro rfl
    rw [h2] at h
    cases h
  · rintro rfl
    rw [h1] at h
    cases h
  · rintro rfl
    rw [h2] at h
    cases h
theorem ints_only (cs : List Int) : tupAll (cs.map PyData.int) = true := by
  rw [tupAll_iff]
  intro d hd
  obtain ⟨c, _, rfl⟩ := List.mem_map.mp hd
  rfl
/-- data that may be compared: lists of ints are -/
theorem shInts (cs : List Int) : SeqAt.shaped (.list (cs.map PyData.int)) = true := by
  have h1 : PyData.canLayAll0 (cs.map PyData.int) = true := by
    induction cs with
    | nil => rfl
    | cons c cs ih =>
      show (PyData.canLay0 (.int c) && PyData.canLayAll0 (cs.map PyData.int)) = true
      rw [ih]
      rfl
  have h2 : PyData.depthAll (cs.map PyData.int) ≤ 0 := by
    induction cs with
    | nil => exact Nat.le_refl _
    | cons c cs ih => exact Nat.max_le.mpr ⟨Nat.le_refl _, ih (by
        have e : (PyData.canLay0 (.int c) && PyData.canLayAll0 (cs.map PyData.int)) = true := h1
        rw [Bool.and_eq_true] at e
        exact e.2)⟩
  unfold SeqAt.shaped
  have e1 : PyData.canLay0 (.list (cs.map PyData.int)) = true := h1
  have e2 : PyData.depth (.list (cs.map PyData.int)) ≤ 64 := by
    show PyData.depthAll (cs.map PyData.int) + 1 ≤ 64
    omega
  rw [e1, decide_eq_true e2]
  rfl
theorem sh_nil : SeqAt.shaped (.list []) = true := shInts []
theorem eqv_nil' {ds : List PyData} : PyData.eqv (.list ds) (.list []) = ds.isEmpty := by
  cases ds with
  | nil => rfl
  | cons _ _ => rfl
theorem hu64 {A : Around} {k : Nat} (hr : Room k A) : A.units + 64 < cLine := by
  have := hr.un
  omega
theorem atI_last {xs : List V} {v : V} : atI (xs ++ [v]) (-1) = some v := by
  have h : ixN (xs ++ [v]).length (-1) = some xs.length := by
    unfold ixN
    rw [List.length_append, List.length_singleton, if_neg (by decide), if_pos (by omega)]
    congr 1
    omega
  unfold atI
  rw [h]
  simp
theorem iteT' {c : Bool} {A B : Prop} (hc : c = true) (h : A) : if c = true then A else B := by
  rw [if_pos hc]
  exact h
section
variable {P : Program} {w : World} {K : PySem.W.Frag} {mg : Str → Option Value} {base : Heap}
def spAny : Sp := fun vs H Q _ => ∃ (a b : Addr) (m : Int), vs = [.ref a, .int m] ∧ Deal H a b ∧ 1 ≤ m ∧ m ≤ 1000 ∧
  ∀ (d : Nat) H', (d : Int) < m → ExD a b H H' → Deal H' a b → Q (.int (d : Int)) H'
abbrev nAny : List Str := ["deal", "bound", "rest"]
theorem scAny : FnScope nAny ["deal", "bound"] (defScope sAny) := ⟨rfl, rfl, rfl, by decide +kernel, rfl, by decide +kernel, by decide +kernel⟩
theorem ok_Any {f : Addr} {fd : FuncData} (Fn : Fun K "_law_any" "_law_any" sAny f fd) (T : Txt K mg) : FnOk P w K mg base CX0 1 f fd ["deal", "bound"] spAny := by
  refine Fn.ok scAny (fun vs H Q E h => ?_) (fun cdv A outer s H vs Q E hr h => ?_)
  · obtain ⟨a, b, m, rfl, _⟩ := h
    rfl
  · obtain ⟨a, b, m, rfl, hD, m1, m2, k⟩ := h
    refine ⟨_, (pss_cut (ps_while PassesOwn.never (PW.pt (pw_and (pt_cmpR (opNeD K (hu64 hr)) (pe_ix (ixL K) (pv 0) pe_int (fun _ _ => rfl)) (pe_lst pa_nil) (nomark _)) (pw_and1 (pt_cmpR op_eq (pe_ix (ixL K) (pe_ix (ixL K) (pv 0) pe_int (fun _ _ => rfl)) (pe_un un_neg pe_int) (fun _ _ => rfl)) pe_int (nomark _))))) (pss_one (ps_expr (peBm0 K PySem.F.plainAttrs_list PySem.F.slot_list_pop PySem.F.type_list_pop mt_pop (pe_ix (ixL K) (pv 0) pe_int (fun _ _ => rfl))))))
  (pss_cons (ps_if (pt_cmpR (opNeD K (hu64 hr)) (pe_ix (ixL K) (pv 0) pe_int (fun _ _ => rfl)) (pe_lst pa_nil) (nomark _)) (pss_cons (ps_set (i := 2) scAny.nd rfl (by first | exact Or.inl rfl | exact Or.inr rfl) (pe_callTy crInt (by rfl) T.b_int (by decide +kernel) (pa_cons (peBm0 K PySem.F.plainAttrs_list PySem.F.slot_list_pop PySem.F.type_list_pop mt_pop (pe_ix (ixL K) (pv 0) pe_int (fun _ _ => rfl))) pa_nil)))
  (pss_cons (ps_expr (peBm K PySem.F.plainAttrs_list PySem.F.slot_list_append PySem.F.type_list_append mt_append (pe_ix (ixL K) (pv 0) pe_int (fun _ _ => rfl)) (pa_cons (pe_op op_fdiv (pv 2) (pv 1)) pa_nil)))
  (pss_one (ps_ret (pe_op op_mod (pe_callTy crInt (by rfl) T.b_int (by decide +kernel) (pa_cons (pv 2) pa_nil)) (pv 1)))))) pss_nil)
  (pss_cons (ps_asg (pe_op op_mod (pe_callTy crInt (by rfl) T.b_int (by decide +kernel) (pa_cons (pe_op op_add (pe_op op_mul (pe_ix (ixL K) (pv 0) pe_int (fun _ _ => rfl)) pe_int) pe_int) pa_nil)) pe_int) (pg_sub (pv 0) pe_int set_list))
  (pss_one (ps_ret (pe_op op_mod (pe_callTy crInt (by rfl) T.b_int (by decide +kernel) (pa_cons (pe_op op_fdiv (pe_ix (ixL K) (pv 0) pe_int (fun _ _ => rfl)) pe_int) pa_nil)) (pv 1))))))), ?_⟩
    obtain ⟨⟨cs0, z, ha, hb, hc, hl, z0, z1⟩, ne⟩ := hD
    refine ⟨fun σ' G => σ' = [some (.ref a), some (.int m), none] ∧ ∃ cs : List Int, ExD a b H G ∧ G a = some (.lst [.ref b, .int z]) ∧ G b = some (.lst (cs.map V.int)) ∧ (∀ c ∈ cs, 0 ≤ c) ∧ cs.length ≤ 48, ?_, ?_⟩
    · refine ⟨fun n σ G => ∃ cs : List Int, n = cs.length ∧ σ = [some (.ref a), some (.int m), none] ∧ ExD a b H G ∧ G a = some (.lst [.ref b, .int z]) ∧ G b = some (.lst (cs.map V.int)) ∧ (∀ c ∈ cs, 0 ≤ c) ∧ cs.length ≤ 48,
        ⟨_, cs0, rfl, rfl, ExD.refl, ha, hb, hc, hl⟩, ?_⟩
      rintro n σ G ⟨cs, rfl, rfl, eG, ga, gb, hc, hl⟩
      refine ⟨_, rfl, a, _, 0, .ref b, rfl, rfl, SqL.of ga, rfl, (by show 0 ≤ sizeLine; decide), fun p0 hp0 => ?_⟩
      have e1 : Ex G (upd G p0 (.lst [])) := Ex.new hp0
      have ga1 := e1 _ _ ga
      have gb1 := e1 _ _ gb
      refine ⟨.list (cs.map PyData.int), .list [], .lst (SqL.of gb1) (dpInts cs), .lst (SqL.of upd_same) .nil, shInts cs, sh_nil, ?_⟩
      have eG1 := eG.trans (exD_of e1)
      generalize upd G p0 (.lst []) = G1 at e1 ga1 gb1 eG1 ⊢
      rw [eqv_nil']
      refine ⟨_, rfl, ?_⟩
      rcases List.eq_nil_or_concat cs with rfl | ⟨c0, c, hcc⟩
      · exact iteF (iteF ⟨rfl, [], eG1, ga1, gb1, by simp, by simp⟩)
      · rw [List.concat_eq_append] at hcc
        subst hcc
        refine iteT' (by simp) ?_
        rw [List.map_append] at gb1
        refine ⟨_, rfl, a, _, 0, .ref b, rfl, rfl, SqL.of ga1, rfl, 1, rfl, b, _, -1, .int c, rfl, rfl, SqL.of gb1, atI_last, rfl, _, rfl, ?_⟩
        by_cases e : c = 0
        · subst e
          refine iteT ?_
          refine ⟨fun σ' G' => ∃ m', m' < (c0 ++ [(0 : Int)]).length ∧ ∃ cs : List Int, m' = cs.length ∧ σ' = [some (.ref a), some (.int m), none] ∧ ExD a b H G' ∧ G' a = some (.lst [.ref b, .int z]) ∧ G' b = some (.lst (cs.map V.int)) ∧ (∀ c ∈ cs, 0 ≤ c) ∧ cs.length ≤ 48, fun _ _ h => h, ?_⟩
          refine ⟨_, rfl, a, _, 0, .ref b, rfl, rfl, SqL.of ga1, rfl, .inl ⟨rfl, _, SqL.of gb1⟩, b, _, .int 0, rfl, rfl, gb1, (by simp), ?_⟩
          have edl : (c0.map V.int ++ [(0 : Int)].map V.int).dropLast = c0.map V.int := by simp
          rw [edl]
          refine ⟨_, (by simp), c0, rfl, rfl, eG1.trans exD_put2, ?_, upd_same, fun x hx => hc x (List.mem_append_left _ hx), ?_⟩
          · rw [upd_ne ne]
            exact ga1
          · rw [List.length_append] at hl
            omega
        · have hb' : decide (V.int c = V.int 0) = false := decide_eq_false fun z => e (by injection z)
          rw [hb']
          refine iteF ⟨rfl, c0 ++ [c], eG1, ga1, ?_, hc, hl⟩
          rw [List.map_append]
          exact gb1
    · rintro σ' G2 ⟨rfl, cs, e2, ga2, gb2, hc, hl⟩
      refine ⟨_, rfl, a, _, 0, .ref b, rfl, rfl, SqL.of ga2, rfl, (by show 0 ≤ sizeLine; decide), fun p3 hp3 => ?_⟩
      have e3 : Ex G2 (upd G2 p3 (.lst [])) := Ex.new hp3
      have ga3 := e3 _ _ ga2
      have gb3 := e3 _ _ gb2
      refine ⟨.list (cs.map PyData.int), .list [], .lst (SqL.of gb3) (dpInts cs), .lst (SqL.of upd_same) .nil, shInts cs, sh_nil, ?_⟩
      have eG3 := e2.trans (exD_of e3)
      generalize upd G2 p3 (.lst []) = G3 at e3 ga3 gb3 eG3 ⊢
      rw [eqv_nil']
      refine ⟨_, rfl, ?_⟩
      rcases List.eq_nil_or_concat cs with rfl | ⟨c0, c, hcc⟩
      · refine iteF ?_
        refine ⟨_, rfl, a, _, 1, .int z, rfl, rfl, SqL.of ga3, rfl, _, _, rfl, rfl, .inl ⟨by omega, by omega⟩, _, _, rfl, rfl, .inl ⟨_, rfl, _, _, rfl, rfl, (by show (0 : Int) < 2147483647; decide), _, rfl, a, _, 1, 1, rfl, rfl, ga3, rfl, _, rfl, ?_⟩⟩
        have w0 := Int.emod_nonneg (z * 69621 + 59) (show (2147483647 : Int) ≠ 0 by decide)
        have w1 := Int.emod_lt_of_pos (z * 69621 + 59) (show (0 : Int) < 2147483647 by decide)
        refine ⟨a, _, 1, .int ((z * 69621 + 59) % 2147483647), rfl, rfl, SqL.of upd_same, rfl, _, _, rfl, rfl, ⟨by decide, by decide⟩, .inl ⟨_, rfl, _, rfl, _, _, rfl, rfl, (by omega), ?_⟩⟩
        obtain ⟨d, hd⟩ := Int.eq_ofNat_of_zero_le (Int.emod_nonneg ((z * 69621 + 59) % 2147483647 / 64) (show m ≠ 0 by omega))
        have hlt := Int.emod_lt_of_pos ((z * 69621 + 59) % 2147483647 / 64) (show 0 < m by omega)
        rw [hd] at hlt
        show Q (.int ((z * 69621 + 59) % 2147483647 / 64 % m)) _
        rw [hd]
        exact k d _ hlt (eG3.trans exD_put) ⟨⟨[], _, upd_same, by rw [upd_ne ne.symm]; exact gb3, by simp, by simp, w0, w1⟩, ne⟩
      · rw [List.concat_eq_append] at hcc
        subst hcc
        refine iteT' (by simp) ?_
        rw [List.map_append] at gb3
        have hc0 := hc c (by simp)
        refine ⟨_, rfl, a, _, 0, .ref b, rfl, rfl, SqL.of ga3, rfl, .inl ⟨rfl, _, SqL.of gb3⟩, b, _, .int c, rfl, rfl, gb3, (by simp), .inl ⟨c, rfl, ?_⟩⟩
        have edl : (c0.map V.int ++ [c].map V.int).dropLast = c0.map V.int := by simp
        rw [edl]
        have ga4 : upd G3 b (.lst (c0.map V.int)) a = some (.lst [.ref b, .int z]) := by
          rw [upd_ne ne]
          exact ga3
        refine ⟨_, rfl, a, _, 0, .ref b, rfl, rfl, SqL.of ga4, rfl, .inl ⟨rfl, _, SqL.of upd_same⟩, _, rfl, _, rfl, c, m, rfl, rfl, ⟨by omega, by omega⟩, b, _, .int (c / m), rfl, rfl, upd_same, ?_, ?_⟩
        · rw [List.length_map, sizeLine_eq]
          rw [List.length_append] at hl
          omega
        refine ⟨_, rfl, .inl ⟨_, rfl, _, rfl, _, _, rfl, rfl, (by omega), ?_⟩⟩
        obtain ⟨d, hd⟩ := Int.eq_ofNat_of_zero_le (Int.emod_nonneg c (show m ≠ 0 by omega))
        have hlt := Int.emod_lt_of_pos c (show 0 < m by omega)
        rw [hd] at hlt
        show Q (.int (c % m)) _
        rw [hd]
        refine k d _ hlt ((eG3.trans exD_put2).trans exD_put2) ⟨⟨c0 ++ [c / m], z, ?_, ?_, fun x hx => ?_, ?_, z0, z1⟩, ne⟩
        · rw [upd_ne ne]
          exact ga4
        · rw [upd_same, List.map_append]
          rfl
        · rcases List.mem_append.mp hx with hx | hx
          · exact hc x (List.mem_append_left _ hx)
          · simp at hx
            subst hx
            exact Int.ediv_nonneg hc0 (by omega)
        · rw [List.length_append] at hl ⊢
          exact hl
end
end My
set_option Elab.async false
set_option linter.all false
set_option autoImplicit false
set_option maxRecDepth 100000
set_option maxHeartbeats 4000000
namespace My
open PySem PySem.Spec PyProof.Rows L2 Evl
theorem slL {X : Cx} (K : PySem.W.Frag) (hK : X.K = K := by rfl) : SlR X (rSlL K) := by
  subst hK
  exact sl_list
theorem dpInts_eq {K : PySem.W.Frag} {H : Hp} : ∀ {ys : List V} {ns : List Int}, DpAll K H ys (ns.map PyData.int) → ys = ns.map V.int
  | [], [], _ => rfl
  | [], _ :: _, h => by cases h
  | _ :: _, [], h => by cases h
  | y :: ys, n :: ns, h => by
    cases h with
    | cons h t =>
      have e := dp_int h
      subst e
      rw [dpInts_eq t]
      rfl
theorem iteF' {c : Bool} {A B : Prop} (hc : c = false) (h : B) : if c = true then A else B := by
  rw [hc]
  exact iteF h
theorem intAt {ns : List Int} {j : Nat} (h : j < ns.length) : (ns.map V.int)[j]? = some (.int (ns[j])) := by
  rw [List.getElem?_map, List.getElem?_eq_getElem h]
  rfl
theorem fresh_back {H H' : Hp} {p : Addr} (e : Ex H H') (h : H' p = none) : H p = none := by
  cases q : H p with
  | none => rfl
  | some o =>
    rw [e p o q] at h
    cases h
theorem cut48 {ns : List Int} : ∃ ms : List Int, cutV (ns.map V.int) none (some 48) = ms.map V.int ∧ ms.length ≤ 48 := by
  unfold cutV
  refine ⟨_, by rw [← List.map_drop, ← List.map_take], ?_⟩
  rw [List.length_take]
  have h : HT.sIx (ns.map V.int).length (ns.map V.int).length (some 48) ≤ 48 := by
    show (if (48 : Int) < 0 then ((48 : Int) + ((ns.map V.int).length : Int)).toNat else min (48 : Int).toNat (ns.map V.int).length) ≤ 48
    rw [if_neg (by decide)]
    exact Nat.min_le_left _ _
  omega
section
variable {P : Program} {w : World} {K : PySem.W.Frag} {mg : Str → Option Value} {base : Heap}
def spDealt (K : PySem.W.Frag) : Sp := fun vs H Q _ => ∃ (s : Addr) (ns : List Int) (j : Nat), vs = [.ref s, .int (j : Int)] ∧ SqL K H s (ns.map V.int) ∧ ns.length ≤ 63 ∧ j ≤ 100 ∧
  ∀ a b H', Ex H H' → H a = none → H b = none → Deal H' a b → Q (.ref a) H'
abbrev nDealt : List Str := ["script", "base", "cells", "blend", "cell"]
theorem scDealt : FnScope nDealt ["script", "base"] (defScope sDealt) := ⟨rfl, rfl, rfl, by decide +kernel, rfl, by decide +kernel, by decide +kernel⟩
theorem ok_Dealt {f : Addr} {fd : FuncData} (Fn : Fun K "_law_dealt" "_law_dealt" sDealt f fd) (T : Txt K mg) : FnOk P w K mg base CX0 1 f fd ["script", "base"] (spDealt K) := by
  refine Fn.ok scDealt (fun vs H Q E h => ?_) (fun cdv A outer s H vs Q E hr h => ?_)
  · obtain ⟨a, ns, j, rfl, _⟩ := h
    rfl
  · obtain ⟨sc, ns, j, rfl, hS, hl, hj, k⟩ := h
    refine ⟨_, (pss_cons (ps_setLc (i := 2) (own := [("cell", 4)]) rfl scDealt.nd rfl rfl (sw_true rfl rfl rfl (by decide +kernel)) (piL K (pe_slice (slL K) (pv 0) po_none (po_some pe_int))) (blkOk_by (N := nDealt) (sc := defScope sDealt) (by decide +kernel)) (fun _ _ _ _ _ => (pg_name (i := 4) scDealt.nd rfl (by first | exact Or.inl rfl | exact Or.inr rfl))) (fun _ _ _ _ _ => pts_nil) (fun _ _ _ _ _ => (pe_callB call_abs (by rfl) T.b_abs (by decide +kernel) (pa_cons (pe_callTy crInt (by rfl) T.b_int (by decide +kernel) (pa_cons (pv 4) pa_nil)) pa_nil))))
  (pss_cons (ps_set (i := 3) scDealt.nd rfl (by first | exact Or.inl rfl | exact Or.inr rfl) (pe_op op_add pe_int (pe_op op_mul pe_int (pv 1))))
  (pss_cons (ps_for PassesOwn.never rfl (piL K (pv 2)) (pg_name (i := 4) scDealt.nd rfl (by first | exact Or.inl rfl | exact Or.inr rfl)) (pss_one (ps_set (i := 3) scDealt.nd rfl (by first | exact Or.inl rfl | exact Or.inr rfl) (pe_op op_mod (pe_callTy crInt (by rfl) T.b_int (by decide +kernel) (pa_cons (pe_op op_add (pe_op op_add (pe_op op_mul (pv 3) pe_int) (pe_op op_mod (pv 4) pe_int)) pe_int) pa_nil)) pe_int))))
  (pss_one (ps_ret (pe_lst (pa_cons (pe_revL (pe_lc (own := [("cell", 4)]) rfl scDealt.nd (piL K (pv 2)) (blkOk_by (N := nDealt) (sc := defScope sDealt) (by decide +kernel)) (fun _ _ _ _ _ => (pg_name (i := 4) scDealt.nd rfl (by first | exact Or.inl rfl | exact Or.inr rfl))) (fun _ _ _ _ _ => (pts_one (pt_cmpR op_ge (pv 4) (pe_op op_pow pe_int pe_int) (nomark _)))) (fun _ _ _ _ _ => (pv 4)))) (pa_cons (pv 3) pa_nil)))))))), ?_⟩
    obtain ⟨ms, hms, lms⟩ := cut48 (ns := ns)
    refine ⟨_, rfl, 48, rfl, sc, _, rfl, hS, fun p hp => ?_⟩
    rw [hms]
    have e1 : Ex H (upd H p (.lst (ms.map V.int))) := Ex.new hp
    have hp1 : upd H p (.lst (ms.map V.int)) p = some (.lst (ms.map V.int)) := upd_same
    generalize upd H p (.lst (ms.map V.int)) = H1 at e1 hp1 ⊢
    refine ⟨p, rfl, ⟨_, SqL.of hp1⟩, fun D hD => ?_⟩
    have lm : (ms.map V.int).length = ms.length := List.length_map _
    refine lcDA (K := K) (walk_list (K := K) (a := p) (xs := ms.map V.int)) (fun i => .int (if ms.getD i 0 < 0 then -(ms.getD i 0) else ms.getD i 0)) (by rw [lm]; omega) hD (fun _ e => ex_l e (SqL.of hp1)) ?_ ?_
    · rintro i u G2 G1 hi e2 ⟨rfl, hu⟩ A2 hA2
      rw [lm] at hi
      rw [intAt hi] at hu
      cases hu
      have g0 : ms.getD i 0 = ms[i] := by
        rw [List.getD_eq_getElem?_getD, List.getElem?_eq_getElem hi]
        rfl
      rw [g0] at hA2
      exact ⟨by rfl, _, rfl, .inl ⟨_, rfl, _, rfl, hA2 _ _ (Ex.refl _) (.int _)⟩⟩
    intro H2 ys e2 hD2 hys
    rw [lm] at hys
    obtain ⟨cs, hcs⟩ : ∃ cs : List Int, cs = (List.range ms.length).map fun i => if ms.getD i 0 < 0 then -(ms.getD i 0) else ms.getD i 0 := ⟨_, rfl⟩
    have hys' : ys = cs.map V.int := dpInts_eq (by
      rw [hcs, List.map_map]
      exact hys)
    subst hys'
    have c0 : ∀ c ∈ cs, 0 ≤ c := fun c hc => by
      rw [hcs] at hc
      obtain ⟨i, _, rfl⟩ := List.mem_map.mp hc
      split <;> omega
    have lcs : cs.length ≤ 48 := by
      rw [hcs, List.length_map, List.length_range]
      exact lms
    clear hcs hys
    have e02 := e1.trans e2
    refine ⟨_, rfl, _, _, rfl, rfl, .inl ⟨by omega, by omega⟩, ?_⟩
    refine ⟨_, _, rfl, rfl, ?_⟩
    have lc : (cs.map V.int).length = cs.length := List.length_map _
    refine ⟨_, rfl, D, rfl, ⟨_, SqL.of hD2⟩, for_it (walk_list (K := K) (a := D) (xs := cs.map V.int)) (fun i σ G => G = H2 ∧ ∃ (z : Int) (v4 : Option V), σ = [some (.ref sc), some (.int (j : Int)), some (.ref D), some (.int z), v4] ∧ 0 ≤ z ∧ z < 2147483647)
      ⟨rfl, _, _, rfl, by omega, by omega⟩ (fun i σ G _ h => by rw [h.1]; exact SqL.of hD2) ?_ ?_⟩
    · rintro i u σ G G' hi ⟨rfl, z, v4, rfl, z0, z1⟩ ⟨rfl, hu⟩
      rw [lc] at hi
      rw [intAt hi] at hu
      cases hu
      have a0 := Int.emod_nonneg (cs[i]) (show (2147483629 : Int) ≠ 0 by decide)
      have a1 := Int.emod_lt_of_pos (cs[i]) (show (0 : Int) < 2147483629 by decide)
      have b0 := Int.emod_nonneg (z * 69621 + cs[i] % 2147483629 + 59) (show (2147483647 : Int) ≠ 0 by decide)
      have b1 := Int.emod_lt_of_pos (z * 69621 + cs[i] % 2147483629 + 59) (show (0 : Int) < 2147483647 by decide)
      exact ⟨_, rfl, _, _, rfl, rfl, .inl ⟨by omega, by omega⟩, _, rfl, _, _, rfl, rfl, (by show (0 : Int) < 2147483629; decide), _, _, rfl, rfl, _, _, rfl, rfl, .inl ⟨_, rfl, _, _, rfl, rfl, (by show (0 : Int) < 2147483647; decide), ⟨rfl, _, _, rfl, b0, b1⟩⟩⟩
    · rintro σ G ⟨rfl, z, v4, rfl, z0, z1⟩
      refine ⟨_, rfl, D, rfl, ⟨_, SqL.of hD2⟩, fun D2 hD3 => ?_⟩
      refine lcD (K := K) (walk_list (K := K) (a := D) (xs := cs.map V.int)) (fun i => decide (10 ^ 18 ≤ cs.getD i 0)) (fun i => .int (cs.getD i 0)) (by rw [lc]; omega) hD3 (fun _ e => ex_l e (SqL.of hD2)) ?_ ?_
      · rintro i u G2 G1 hi e3 ⟨rfl, hu⟩ N A2 ⟨itN, itA⟩
        rw [lc] at hi
        rw [intAt hi] at hu
        cases hu
        have g0 : cs.getD i 0 = cs[i] := by
          rw [List.getD_eq_getElem?_getD, List.getElem?_eq_getElem hi]
          rfl
        rw [g0] at itN itA
        refine ⟨by rfl, _, rfl, _, _, rfl, rfl, ⟨by decide, by decide, by decide⟩, _, _, rfl, rfl, _, rfl, ?_⟩
        cases wv : decide ((10 : Int) ^ 18 ≤ cs[i]) with
        | true =>
          refine iteT' wv ?_
          exact ⟨_, rfl, itA wv _ _ (Ex.refl _) (.int _)⟩
        | false =>
          refine iteF' wv ?_
          exact itN wv _ (Ex.refl _)
      · intro H4 zs e4 hD4 hzs
        obtain ⟨gs, hgs⟩ : ∃ gs : List Int, gs = ((List.range (cs.map V.int).length).filter fun i => decide (10 ^ 18 ≤ cs.getD i 0)).map fun i => cs.getD i 0 := ⟨_, rfl⟩
        have hz' : zs = gs.map V.int := dpInts_eq (by
          rw [hgs, List.map_map]
          exact hzs)
        subst hz'
        have g0 : ∀ c ∈ gs, 0 ≤ c := fun c hc => by
          rw [hgs] at hc
          obtain ⟨i, hi, rfl⟩ := List.mem_map.mp hc
          have hi := of_decide_eq_true (List.mem_filter.mp hi).2
          omega
        have lgs : gs.length ≤ 48 := by
          rw [hgs, List.length_map]
          exact Nat.le_trans (List.length_filter_le _ _) (by rw [List.length_range, lc]; exact lcs)
        refine ⟨D2, _, rfl, SqL.of hD4, fun q hq => ⟨_, rfl, (by show 2 ≤ sizeLine; decide), fun r hr' => ?_⟩⟩
        have e5 : Ex H4 (upd H4 q (.lst (gs.map V.int).reverse)) := Ex.new hq
        have e6 : Ex (upd H4 q (.lst (gs.map V.int).reverse)) (upd (upd H4 q (.lst (gs.map V.int).reverse)) r (.lst [.ref q, .int z])) := Ex.new hr'
        have e46 := ((e02.trans e4).trans e5).trans e6
        have nrq : r ≠ q := (ne_of_none upd_same hr').symm
        refine k r q _ e46 (fresh_back ((e02.trans e4).trans e5) hr') (fresh_back (e02.trans e4) hq) ⟨⟨gs.reverse, z, upd_same, ?_, fun c hc => g0 c (List.mem_reverse.mp hc), by rw [List.length_reverse]; exact lgs, z0, z1⟩, nrq⟩
        rw [upd_ne nrq.symm, upd_same, List.map_reverse]
end
end My
set_option Elab.async false
set_option linter.all false
set_option autoImplicit false
set_option maxRecDepth 100000
set_option maxHeartbeats 4000000
namespace My
open PySem PySem.Spec PyProof.Rows L2 Evl
/-- what is new since a heap in which the deal stood stays -/
theorem ExD.nw {a b : Addr} {H0 H H' : Hp} (e : ExD a b H H') (ha : ∃ o, H0 a = some o) (hb : ∃ o, H0 b = some o) : Ex (nw H0 H) (nw H0 H') := fun c o hc => by
  obtain ⟨h1, h2⟩ := nw_get hc
  obtain ⟨oa, ha⟩ := ha
  obtain ⟨ob, hb⟩ := hb
  rw [nw_none h1]
  exact e c o h2 (fun z => by rw [z, ha] at h1; cases h1) (fun z => by rw [z, hb] at h1; cases h1)
def oN : Option Nat → PyData
  | none => .none
  | some k => .int (k : Int)
def oW : Option Nat → V
  | none => .non
  | some k => .int (k : Int)
theorem dp_oN {K : PySem.W.Frag} {H : Hp} {o : Option Nat} : Dp K H (oW o) (oN o) := by
  cases o with
  | none => exact .non
  | some k => exact .int _
theorem dpAll_oN {K : PySem.W.Frag} {H : Hp} (l : List (Option Nat)) : DpAll K H (l.map oW) (l.map oN) := dpAll_map l fun _ _ => dp_oN
theorem dpAll_oN_eq {K : PySem.W.Frag} {H : Hp} : ∀ {ys : List V} {l : List (Option Nat)}, DpAll K H ys (l.map oN) → ys = l.map oW
  | [], [], _ => rfl
  | [], _ :: _, h => by cases h
  | _ :: _, [], h => by cases h
  | y :: ys, o :: l, h => by
    cases h with
    | cons h t =>
      rw [dpAll_oN_eq t]
      cases o with
      | none =>
        have e := dp_non h
        subst e
        rfl
      | some k =>
        have e := dp_int h
        subst e
        rfl
def rowN (r : List (Option Nat)) : PyData := .list (r.map oN)
def waysN (ws : List (List (Option Nat))) : PyData := .list (ws.map rowN)
structure WaysOk (k : Nat) (ws : List (List (Option Nat))) : Prop where
  len : ∀ r ∈ ws, r.length = k
  lt : ∀ r ∈ ws, ∀ s, some s ∈ r → s < ws.length
section
variable {P : Program} {w : World} {K : PySem.W.Frag} {mg : Str → Option Value} {base : Heap}
def spOf : Sp := fun vs H Q _ => ∃ (a b s : Addr) (xs : List V), vs = [.ref a, .ref s] ∧ Deal H a b ∧ H s = some (.lst xs) ∧ s ≠ a ∧ s ≠ b ∧ 1 ≤ xs.length ∧ xs.length ≤ 100 ∧
  ∀ (i : Nat) v H', xs[i]? = some v → ExD a b H H' → Deal H' a b → Q v H'
abbrev nOf : List Str := ["deal", "some"]
theorem scOf : FnScope nOf ["deal", "some"] (defScope sOf) := ⟨rfl, rfl, rfl, by decide +kernel, rfl, by decide +kernel, by decide +kernel⟩
theorem ok_Of {f : Addr} {fd : FuncData} (Fn : Fun K "_law_of" "_law_of" sOf f fd) (T : Txt K mg) (Oa : Own P w K mg base "_law_any" 1 ["deal", "bound"] spAny) : FnOk P w K mg base CX0 2 f fd ["deal", "some"] spOf := by
  refine Fn.ok scOf (fun vs H Q E h => ?_) (fun cdv A outer s H vs Q E hr h => ?_)
  · obtain ⟨a, b, s, xs, rfl, _⟩ := h
    rfl
  · obtain ⟨a, b, so, xs, rfl, hD, hs, n1, n2, l1, l2, k⟩ := h
    refine ⟨_, (pss_one (ps_ret (pe_ix (ixL K) (pv 1) (pe_call Oa.G (hr.mono (by decide)) rfl Oa.m Oa.kp Oa.b .nil pass0 (pa_cons (pv 0) (pa_cons (pe_callB (crLen K) (by rfl) T.b_len PySem.boot_len (pa_cons (pv 1) pa_nil)) pa_nil))) (fun _ _ => rfl)))), ?_⟩
    refine ⟨_, rfl, _, rfl, _, rfl, so, _, rfl, .inl (SqL.of hs), a, b, _, rfl, hD, (by omega), (by omega), fun d H' hd e hD' => ?_⟩
    have hd : d < xs.length := by omega
    exact ⟨so, xs, _, _, rfl, rfl, SqL.of (e _ _ hs n1 n2), atI_nat (List.getElem?_eq_getElem hd), k d _ H' (List.getElem?_eq_getElem hd) e hD'⟩
end
section
variable {K : PySem.W.Frag} {J : It} {n : Nat} {G : Hp → Prop} {Y : Nat → Hp → V → Hp → Prop}
/-- values that are collected while the deal is drawn from -/
theorem lcDl {a b : Addr} (w : Walk J n G Y) {g : TG} {te : TE} {vs : List Nat} {σ : L2.St} {H1 : Hp} {D : Addr} {Qd : Hp → Prop} (C : V → Prop) (hn : n ≤ 1000) (hD : H1 D = none) (hB : Deal H1 a b) (hG : ∀ H, G H)
    (hs : ∀ i x H H', i < n → ExD a b H1 H → Deal H a b → Y i H x H' → ∀ (A : V → Hp → Prop), (∀ v H4, C v → ExD a b H H4 → Deal H4 a b → A v H4) →
      g x (wipe σ vs) H' fun σ2 H2 => wipe σ2 vs = wipe σ vs ∧ te σ2 H2 A)
    (hd : ∀ (H : Hp) (ys : List V), ExD a b H1 H → Deal H a b → H D = some (.lst ys) → (∀ v ∈ ys, C v) → ys.length = n → Qd H) :
    ∃ W : Nat → Nat → Hp → Prop, (∃ m, W 0 m (upd H1 D (.lst []))) ∧ ∀ i m H, W i m H →
      (J.stop i H ∧ Qd H) ∨ (J.go i H ∧ ∃ Nx : Hp → Prop, (∀ H', Nx H' → ∃ m', m' < m ∧ W (i + 1) m' H') ∧ ∀ x H', J.yld i H x H' → g x (wipe σ vs) H' fun σ2 H2 => wipe σ2 vs = wipe σ vs ∧ tYes σ2 H2 fun b H3 =>
        if b = true then te σ2 H3 fun y H4 => ∃ acc, H4 D = some (.lst acc) ∧ acc.length < sizeLine ∧ Nx (upd H4 D (.lst (acc ++ [y]))) else Nx H3) := by
  obtain ⟨nA, nB⟩ := hB.fresh hD
  have mtD : ∀ {H : Hp} {o : HO}, ExD a b H1 H → ExD a b H1 (upd H D o) := fun e c u hc m1 m2 => by
    rw [upd_ne (ne_of_none hc hD)]
    exact e c u hc m1 m2
  have still : ∀ {H : Hp} {o : HO}, Deal H a b → Deal (upd H D o) a b := fun d => by
    obtain ⟨⟨cs, z, h1, h2, r⟩, ne⟩ := d
    exact ⟨⟨cs, z, by rw [upd_ne nA]; exact h1, by rw [upd_ne nB]; exact h2, r⟩, ne⟩
  refine lcA w (fun i H => ExD a b H1 H ∧ Deal H a b ∧ ∃ ys, H D = some (.lst ys) ∧ (∀ v ∈ ys, C v) ∧ ys.length = i)
    ⟨mtD ExD.refl, still hB, [], upd_same, by simp, rfl⟩ (fun _ H _ _ => hG H) ?_ ?_
  · rintro i x H H' hi ⟨e1, hB1, ys, hy, hC, hl⟩ y
    refine hs i x H H' hi e1 hB1 y _ fun v H4 hv e4 hB4 => ⟨ys, e4 _ _ hy nA.symm nB.symm, sz_lt (by omega), mtD (e1.trans e4), still hB4, ys ++ [v], upd_same, fun u hu => ?_, by rw [List.length_append, List.length_singleton, hl]⟩
    rcases List.mem_append.mp hu with hu | hu
    · exact hC u hu
    · simp at hu
      subst hu
      exact hv
  · rintro H ⟨e1, hB1, ys, hy, hC, hl⟩
    exact hd H ys e1 hB1 hy hC hl
end
end My
set_option Elab.async false
set_option linter.all false
set_option autoImplicit false
set_option maxRecDepth 100000
set_option maxHeartbeats 4000000
namespace My
open PySem PySem.Spec PyProof.Rows L2 Evl
theorem walk_r0 {n : Nat} : Walk (Itr 0 n) n (fun _ => True) (YFn fun i => V.int ((i : Nat) : Int)) := by
  refine walk_range.mono (fun _ h => h) fun i H x H' _ _ y => ?_
  obtain ⟨rfl, rfl⟩ := y
  refine ⟨rfl, ?_⟩
  show V.int (0 + ((i : Nat) : Int)) = V.int ((i : Nat) : Int)
  rw [Int.zero_add]
/-! ### words: some of the letters abcd01, in this order -/
def oneIf (b : Bool) (c : Nat) : List Nat := if b = true then [c] else []
def wordB (b0 b1 b2 b3 b4 b5 : Bool) : Str := ⟨(oneIf b0 97 ++ (oneIf b1 98 ++ (oneIf b2 99 ++ (oneIf b3 100 ++ (oneIf b4 48 ++ oneIf b5 49))))).toArray⟩
def twoB : List Bool := [false, true]
def L64 : List Str := twoB.flatMap fun b0 => twoB.flatMap fun b1 => twoB.flatMap fun b2 => twoB.flatMap fun b3 => twoB.flatMap fun b4 => twoB.map fun b5 => wordB b0 b1 b2 b3 b4 b5
theorem word_in : ∀ b0 b1 b2 b3 b4 b5 : Bool, wordB b0 b1 b2 b3 b4 b5 ∈ L64 := by decide +kernel
def sgn (i : Nat) : Str := ⟨#[("abcd01" : Str).cps.getD i 0]⟩
def at6 (b0 b1 b2 b3 b4 b5 : Bool) : Nat → Bool
  | 0 => b0
  | 1 => b1
  | 2 => b2
  | 3 => b3
  | 4 => b4
  | 5 => b5
  | _ => false
theorem join6 : ∀ b0 b1 b2 b3 b4 b5 : Bool, Txt.join "" (((List.range 6).filter (at6 b0 b1 b2 b3 b4 b5)).map sgn) = wordB b0 b1 b2 b3 b4 b5 ∧
    ((((List.range 6).filter (at6 b0 b1 b2 b3 b4 b5)).map sgn).map (·.length)).sum + (((List.range 6).filter (at6 b0 b1 b2 b3 b4 b5)).map sgn).length * ("" : Str).length ≤ 16777216 := by decide +kernel
theorem at6_of (p : Nat → Bool) : (List.range 6).filter p = (List.range 6).filter (at6 (p 0) (p 1) (p 2) (p 3) (p 4) (p 5)) := by
  apply List.filter_congr
  intro i hi
  have hi := List.mem_range.mp hi
  match i, hi with
  | 0, _ => rfl
  | 1, _ => rfl
  | 2, _ => rfl
  | 3, _ => rfl
  | 4, _ => rfl
  | 5, _ => rfl
  | n + 6, h => omega
def wordP (p : Nat → Bool) : Str := wordB (p 0) (p 1) (p 2) (p 3) (p 4) (p 5)
theorem join_p (p : Nat → Bool) : Txt.join "" (((List.range 6).filter p).map sgn) = wordP p ∧ ((((List.range 6).filter p).map sgn).map (·.length)).sum + (((List.range 6).filter p).map sgn).length * ("" : Str).length ≤ 16777216 := by
  rw [at6_of p]
  exact join6 _ _ _ _ _ _
theorem wordP_in (p : Nat → Bool) : wordP p ∈ L64 := word_in _ _ _ _ _ _
theorem l64_len {z : Str} (h : z ∈ L64) : z.cps.size ≤ 6 := by
  have q : ∀ z ∈ L64, z.cps.size ≤ 6 := by decide +kernel
  exact q z h
theorem all_oW {n : Nat} : ∀ {ys : List V}, (∀ v ∈ ys, ∃ o : Option Nat, v = oW o ∧ ∀ s, o = some s → s < n) → ∃ r : List (Option Nat), ys = r.map oW ∧ ∀ s, some s ∈ r → s < n
  | [], _ => ⟨[], rfl, by simp⟩
  | v :: ys, h => by
    obtain ⟨o, ho, ho2⟩ := h v List.mem_cons_self
    obtain ⟨r, hr, hr2⟩ := all_oW fun u hu => h u (List.mem_cons_of_mem _ hu)
    refine ⟨o :: r, by rw [ho, hr]; rfl, fun s hs => ?_⟩
    rcases List.mem_cons.mp hs with q | q
    · exact ho2 s q.symm
    · exact hr2 s q
section
variable {P : Program} {w : World} {K : PySem.W.Frag} {mg : Str → Option Value} {base : Heap}
def spLetters : Sp := fun vs H Q _ => ∃ (a b : Addr), vs = [.ref a] ∧ Deal H a b ∧ ∀ z H', z ∈ L64 → ExD a b H H' → Deal H' a b → Q (.str z) H'
abbrev nLetters : List Str := ["deal", "letter"]
theorem scLetters : FnScope nLetters ["deal"] (defScope sLetters) := ⟨rfl, rfl, rfl, by decide +kernel, rfl, by decide +kernel, by decide +kernel⟩
theorem ok_Letters {f : Addr} {fd : FuncData} (Fn : Fun K "_law_letters" "_law_letters" sLetters f fd) (T : Txt K mg) (Oa : Own P w K mg base "_law_any" 1 ["deal", "bound"] spAny) : FnOk P w K mg base CX0 2 f fd ["deal"] spLetters := by
  refine Fn.ok scLetters (fun vs H Q E h => ?_) (fun cdv A outer s H vs Q E hr h => ?_)
  · obtain ⟨a, b, rfl, _⟩ := h
    rfl
  · obtain ⟨a, b, rfl, hD, k⟩ := h
    refine ⟨_, (pss_one (ps_ret (pe_join pe_str (pe_lc (own := [("letter", 1)]) rfl scLetters.nd (pi_str pe_str) (blkOk_by (N := nLetters) (sc := defScope sLetters) (by decide +kernel)) (fun _ _ _ _ _ => (pg_name (i := 1) scLetters.nd rfl (by first | exact Or.inl rfl | exact Or.inr rfl))) (fun _ _ _ _ _ => (pts_one (pt_cmpR op_eq (pe_call Oa.G (hr.mono (by decide)) rfl Oa.m Oa.kp Oa.b .nil pass0 (pa_cons (pv 0) (pa_cons pe_int pa_nil))) pe_int (nomark _)))) (fun _ _ _ _ _ => (pv 1)))))), ?_⟩
    refine ⟨⟨_, rfl⟩, _, rfl, fun D hDn => ?_⟩
    obtain ⟨nA, nB⟩ := hD.fresh hDn
    have mtD : ∀ {G : Hp} {o : HO}, ExD a b H G → ExD a b H (upd G D o) := fun e c u hc m1 m2 => by
      rw [upd_ne (ne_of_none hc hDn)]
      exact e c u hc m1 m2
    have still : ∀ {G : Hp} {o : HO}, Deal G a b → Deal (upd G D o) a b := fun d => by
      obtain ⟨⟨cs, z, h1, h2, r⟩, ne⟩ := d
      exact ⟨⟨cs, z, by rw [upd_ne nA]; exact h1, by rw [upd_ne nB]; exact h2, r⟩, ne⟩
    refine lc_it (walk_str (z := "abcd01")) (fun i G => ExD a b H G ∧ Deal G a b ∧ i ≤ 6 ∧ ∃ p : Nat → Bool, G D = some (.lst ((((List.range i).filter p).map sgn).map V.str)))
      ⟨mtD ExD.refl, still hD, Nat.zero_le _, fun _ => false, upd_same⟩ (fun _ _ _ _ => trivial) ?_ ?_
    · rintro i u G G1 hi ⟨e1, hB1, hi6, p, hy⟩ ⟨rfl, c, hc, rfl⟩
      have hi : i < 6 := hi
      have ec : (⟨#[c]⟩ : Str) = sgn i := by
        unfold sgn
        rw [Array.getD_eq_getD_getElem?, hc]
        rfl
      have fil : ∀ b : Bool, ((List.range (i + 1)).filter fun j => if j = i then b else p j) = (List.range i).filter p ++ (if b = true then [i] else []) := fun b => by
        rw [List.range_succ, List.filter_append]
        congr 1
        · apply List.filter_congr
          intro j hj
          rw [if_neg (Nat.ne_of_lt (List.mem_range.mp hj))]
        · cases b <;> simp
      refine ⟨by rfl, _, rfl, a, b, _, rfl, hB1, (by decide), (by decide), fun d G2 hd e2 hB2 => ⟨rfl, _, rfl, ?_⟩⟩
      have hy2 := e2 _ _ hy nA.symm nB.symm
      refine ite2 (fun _ => ⟨_, rfl, _, hy2, ?_, mtD (e1.trans e2), still hB2, hi, fun j => if j = i then true else p j, ?_⟩) (fun _ => ⟨e1.trans e2, hB2, hi, fun j => if j = i then false else p j, ?_⟩)
      · rw [List.length_map, List.length_map, sizeLine_eq]
        have := List.length_filter_le p (List.range i)
        rw [List.length_range] at this
        omega
      · rw [upd_same, fil true, ec]
        simp
      · rw [hy2, fil false]
        simp
    · rintro G ⟨e1, hB1, _, p, hy⟩
      obtain ⟨j1, j2⟩ := join_p p
      have hy : G D = some (.lst ((((List.range 6).filter p).map sgn).map V.str)) := hy
      refine ⟨_, D, _, rfl, rfl, .inl (SqL.of hy), j2, ?_⟩
      rw [j1]
      exact k _ _ (wordP_in p) e1 hB1
def spWays (K : PySem.W.Frag) : Sp := fun vs H Q _ => ∃ (a b : Addr) (n : Nat) (z : Str), vs = [.ref a, .int (n : Int), .str z] ∧ Deal H a b ∧ 1 ≤ n ∧ n ≤ 7 ∧ z ∈ L64 ∧
  ∀ wa ws H', ExD a b H H' → Deal H' a b → H wa = none → Dp K (nw H H') (.ref wa) (waysN ws) → WaysOk z.cps.size ws → ws.length = n → Q (.ref wa) H'
abbrev nWays : List Str := ["deal", "states", "letters", "state", "letter"]
theorem scWays : FnScope nWays ["deal", "states", "letters"] (defScope sWays) := ⟨rfl, rfl, rfl, by decide +kernel, rfl, by decide +kernel, by decide +kernel⟩
theorem ok_Ways {f : Addr} {fd : FuncData} (Fn : Fun K "_law_ways" "_law_ways" sWays f fd) (T : Txt K mg) (Oa : Own P w K mg base "_law_any" 1 ["deal", "bound"] spAny) : FnOk P w K mg base CX0 2 f fd ["deal", "states", "letters"] (spWays K) := by
  refine Fn.ok scWays (fun vs H Q E h => ?_) (fun cdv A outer s H vs Q E hr h => ?_)
  · obtain ⟨a, b, n, z, rfl, _⟩ := h
    rfl
  · obtain ⟨a, b, n, z, rfl, hD, n1, n7, hz, k⟩ := h
    refine ⟨_, (pss_one (ps_ret (pe_lc (own := [("state", 3)]) rfl scWays.nd (pi_range1 (by rfl) T.b_range (pa_cons (pv 1) pa_nil)) (blkOk_by (N := nWays) (sc := defScope sWays) (by decide +kernel)) (fun _ _ _ _ _ => (pg_name (i := 3) scWays.nd rfl (by first | exact Or.inl rfl | exact Or.inr rfl))) (fun _ _ _ _ _ => pts_nil) (fun _ _ _ _ _ => (pe_lc (own := [("letter", 4)]) rfl scWays.nd (pi_str (pv 2)) (by apply blkOk_by; show blkC nWays (relS _ (defScope sWays)) _ _ = true; decide +kernel) (fun _ _ _ _ _ => (pg_name (i := 4) scWays.nd rfl (by first | exact Or.inl rfl | exact Or.inr rfl))) (fun _ _ _ _ _ => pts_nil) (fun _ _ _ _ _ => (pe_ifExp (pt_cmpR op_eq (pe_call Oa.G (hr.mono (by decide)) rfl Oa.m Oa.kp Oa.b .nil pass0 (pa_cons (pv 0) (pa_cons pe_int pa_nil))) pe_int (nomark _)) pe_non (pe_call Oa.G (hr.mono (by decide)) rfl Oa.m Oa.kp Oa.b .nil pass0 (pa_cons (pv 0) (pa_cons (pv 1) pa_nil)))))))))), ?_⟩
    have lz := l64_len hz
    refine ⟨_, rfl, _, rfl, (by omega), (by omega), fun D hDn => ?_⟩
    obtain ⟨nA, nB⟩ := hD.fresh hDn
    have mtD : ∀ {G : Hp} {o : HO}, ExD a b H G → ExD a b H (upd G D o) := fun e c u hc m1 m2 => by
      rw [upd_ne (ne_of_none hc hDn)]
      exact e c u hc m1 m2
    have still : ∀ {G : Hp} {o : HO}, Deal G a b → Deal (upd G D o) a b := fun d => by
      obtain ⟨⟨cs, z, h1, h2, r⟩, ne⟩ := d
      exact ⟨⟨cs, z, by rw [upd_ne nA]; exact h1, by rw [upd_ne nB]; exact h2, r⟩, ne⟩
    obtain ⟨B0, hB0⟩ : ∃ B0 : Hp, B0 = upd H D (.lst []) := ⟨_, rfl⟩
    have b0D : B0 D = some (.lst []) := by
      rw [hB0, upd_same]
    have b0n : ∀ {c : Addr}, c ≠ D → B0 c = H c := fun h => by
      rw [hB0, upd_ne h]
    have b0a : ∃ o, B0 a = some o := by
      obtain ⟨⟨xs, q⟩, _⟩ := hD.lst
      exact ⟨_, (b0n nA).trans q⟩
    have b0b : ∃ o, B0 b = some o := by
      obtain ⟨_, xs, q⟩ := hD.lst
      exact ⟨_, (b0n nB).trans q⟩
    have en : (((n : Nat) : Int)).toNat = n := by omega
    rw [en]
    refine lc_it (tt := tYes) walk_r0 (fun i G => ExD a b H G ∧ Deal G a b ∧ ∃ (ys : List V) (ws : List (List (Option Nat))), G D = some (.lst ys) ∧ DpAll K (nw B0 G) ys (ws.map rowN) ∧ ws.length = i ∧ ∀ r ∈ ws, r.length = z.cps.size ∧ ∀ s, some s ∈ r → s < n)
      ⟨mtD ExD.refl, still hD, [], [], upd_same, .nil, rfl, by simp⟩ (fun _ _ _ _ => trivial) ?_ ?_
    · rintro i u G G1 hi ⟨e1, hB1, ys, ws, hy, hws, hl, hr⟩ ⟨rfl, rfl⟩
      refine ⟨by rfl, _, rfl, z, rfl, fun D2 hD2 => ?_⟩
      refine lcDl (a := a) (b := b) walk_str (fun v => ∃ o : Option Nat, v = oW o ∧ ∀ s, o = some s → s < n) (by omega) hD2 hB1 (fun _ => trivial) ?_ ?_
      · rintro j u G1 G2 hj e2 hB2 ⟨rfl, c, hc, rfl⟩ A hA
        refine ⟨by rfl, _, rfl, a, b, 4, rfl, hB2, (by decide), (by decide), fun d G3 hd e3 hB3 => ?_⟩
        refine ⟨rfl, _, rfl, ite2 (fun _ => hA .non G3 ⟨none, rfl, by simp⟩ e3 hB3) (fun _ => ⟨_, rfl, _, rfl, a, b, (n : Int), rfl, hB3, (by omega), (by omega), fun s G4 hs e4 hB4 => hA _ G4 ⟨some s, rfl, fun t ht => ?_⟩ (e3.trans e4) hB4⟩)⟩
        injection ht with ht
        omega
      · intro G2 ys2 e2 hB2 hy2 hC hl2
        obtain ⟨r, rfl, hr2⟩ := all_oW hC
        rw [List.length_map] at hl2
        have hyD : G2 D = some (.lst ys) := e2 _ _ hy nA.symm nB.symm
        have neD : D2 ≠ D := fun q => by
          rw [q, hy] at hD2
          cases hD2
        have b0D2 : B0 D2 = none := by
          rw [b0n neD]
          cases q : H D2 with
          | none => rfl
          | some o =>
            by_cases qa : D2 = a
            · obtain ⟨⟨xs, x1⟩, _⟩ := hB1.lst
              rw [qa, x1] at hD2
              cases hD2
            · by_cases qb : D2 = b
              · obtain ⟨_, xs, x1⟩ := hB1.lst
                rw [qb, x1] at hD2
                cases hD2
              · rw [e1 _ _ q qa qb] at hD2
                cases hD2
        refine ⟨ys, hyD, ?_, mtD (e1.trans e2), still hB2, ys ++ [.ref D2], ws ++ [r], upd_same, ?_, by rw [List.length_append, List.length_singleton, hl], fun r' hr' => ?_⟩
        · rw [dpAll_len hws, List.length_map, hl, sizeLine_eq]
          omega
        · have o1 : Ex (nw B0 G1) (nw B0 (upd G2 D (.lst (ys ++ [.ref D2])))) := fun c o h => nw_old b0D _ _ (e2.nw b0a b0b _ _ h)
          rw [List.map_append]
          refine dpAll_app (dpAll_ex o1 hws) (.cons (.lst (SqL.of ?_) (dpAll_oN r)) .nil)
          rw [nw_none b0D2, upd_ne neD]
          exact hy2
        · rcases List.mem_append.mp hr' with q | q
          · exact hr r' q
          · rw [List.mem_singleton.mp q]
            exact ⟨hl2, hr2⟩
    · rintro G ⟨e1, hB1, ys, ws, hy, hws, hl, hr⟩
      refine k D ws G e1 hB1 hDn (.lst (SqL.of ?_) (dpAll_ex (nw_back' fun c hc => ?_) hws)) ⟨fun r h => (hr r h).1, fun r h s hs => ?_⟩ hl
      · rw [nw_none hDn]
        exact hy
      · by_cases q : c = D
        · rw [q, b0D] at hc
          cases hc
        · rw [← b0n q]
          exact hc
      · rw [hl]
        exact (hr r h).2 s hs
end
end My
set_option Elab.async false
set_option linter.all false
set_option autoImplicit false
set_option maxRecDepth 100000
set_option maxHeartbeats 8000000
namespace My
open PySem PySem.Spec PyProof.Rows L2 Evl
open PySem.OneX (OneTxt Tail tail_ex exTail)
/-- all but one stay -/
def ExB (b : Addr) (H H' : Hp) : Prop := ∀ c o, H c = some o → c ≠ b → H' c = some o
theorem ExB.refl {b : Addr} {H : Hp} : ExB b H H := fun _ _ h _ => h
theorem ExB.trans {b : Addr} {H H1 H2 : Hp} (e : ExB b H H1) (f : ExB b H1 H2) : ExB b H H2 := fun c o h n => f c o (e c o h n) n
theorem exB_of {b : Addr} {H H' : Hp} (e : Ex H H') : ExB b H H' := fun c o h _ => e c o h
theorem ExB.put {b : Addr} {H : Hp} {o : HO} : ExB b H (upd H b o) := fun c u h n => by
  rw [upd_ne n]
  exact h
theorem tex_ins {H : Hp} {p C dx : Addr} {fs : List (Str × V)} {o : HO} (h : H p = some (.ins C dx fs)) : TEx H (upd H p o) := by
  refine ⟨fun b xs hb => ?_, fun b u w hb => ?_⟩ <;>
  · rw [upd_ne]
    · exact hb
    · rintro rfl
      rw [h] at hb
      cases hb
/-! the letters of a text -/
def pz (z : Str) (i : Nat) : Bool := decide (("abcd01" : Str).cps.getD i 0 ∈ z.cps.toList)
def subw (z : Str) : Str := wordP (pz z)
theorem subw_in (z : Str) : subw z ∈ L64 := wordP_in _
theorem subw_self {z : Str} (h : z ∈ L64) : z = subw z := by
  have q : ∀ z ∈ L64, z = subw z := by decide +kernel
  exact q z h
theorem dpStrs_eq {K : PySem.W.Frag} {H : Hp} : ∀ {ys : List V} {ns : List Str}, DpAll K H ys (ns.map PyData.str) → ys = ns.map V.str
  | [], [], _ => rfl
  | [], _ :: _, h => by cases h
  | _ :: _, [], h => by cases h
  | y :: ys, n :: ns, h => by
    cases h with
    | cons h t =>
      cases h
      rw [dpStrs_eq t]
      rfl
theorem dpBls_eq {K : PySem.W.Frag} {H : Hp} : ∀ {ys : List V} {ns : List Bool}, DpAll K H ys (ns.map PyData.bool) → ys = ns.map V.bl
  | [], [], _ => rfl
  | [], _ :: _, h => by cases h
  | _ :: _, [], h => by cases h
  | y :: ys, n :: ns, h => by
    cases h with
    | cons h t =>
      cases h
      rw [dpBls_eq t]
      rfl
theorem range_get {α β : Type} {f : α → β} {d : α} (l : List α) : ((List.range l.length).map fun i => f (l.getD i d)) = l.map f := by
  apply List.ext_getElem
  · simp
  · intro i h1 h2
    rw [List.length_map] at h2
    simp [List.getD_eq_getElem?_getD, List.getElem?_eq_getElem h2]
/-! ### a machine -/
structure McT (K : PySem.W.Frag) (C : Addr) : Prop where
  cl : Cls K C
  n1 : NoAttr K C "letters"
  n2 : NoAttr K C "ways"
  n3 : NoAttr K C "first"
def mfs (z : Str) (wt : Addr) (f : Nat) : List (Str × V) := putF "first" (.int (f : Int)) (putF "ways" (.ref wt) (putF "letters" (.str z) []))
theorem mfs_letters {z : Str} {wt : Addr} {f : Nat} : (mfs z wt f).lookup ("letters" : Str) = some (.str z) := by
  unfold mfs
  rw [lookup_putF, if_neg (by decide +kernel), lookup_putF, if_neg (by decide +kernel), lookup_putF, if_pos rfl]
theorem mfs_ways {z : Str} {wt : Addr} {f : Nat} : (mfs z wt f).lookup ("ways" : Str) = some (.ref wt) := by
  unfold mfs
  rw [lookup_putF, if_neg (by decide +kernel), lookup_putF, if_pos rfl]
theorem mfs_first {z : Str} {wt : Addr} {f : Nat} : (mfs z wt f).lookup ("first" : Str) = some (.int (f : Int)) := by
  unfold mfs
  rw [lookup_putF, if_pos rfl]
theorem mfs_none {z : Str} {wt : Addr} {f : Nat} {x : Str} (h : (x == ("first" : Str) || x == ("ways" : Str) || x == ("letters" : Str)) = false) : (mfs z wt f).lookup x = none := by
  rw [Bool.or_eq_false_iff, Bool.or_eq_false_iff] at h
  obtain ⟨⟨h1, h2⟩, h3⟩ := h
  have n1 : x ≠ "first" := fun q => by rw [q] at h1; exact absurd h1 (by decide +kernel)
  have n2 : x ≠ "ways" := fun q => by rw [q] at h2; exact absurd h2 (by decide +kernel)
  have n3 : x ≠ "letters" := fun q => by rw [q] at h3; exact absurd h3 (by decide +kernel)
  unfold mfs
  rw [lookup_putF, if_neg n1, lookup_putF, if_neg n2, lookup_putF, if_neg n3]
  rfl
def rowT (r : List (Option Nat)) : PyData := .tuple (r.map oN)
def waysT (ws : List (List (Option Nat))) : PyData := .tuple (ws.map rowT)
theorem rowT_only (r : List (Option Nat)) : tupOnly (rowT r) = true := by
  show tupAll (r.map oN) = true
  rw [tupAll_iff]
  intro d hd
  obtain ⟨o, _, rfl⟩ := List.mem_map.mp hd
  cases o <;> rfl
theorem rowsT_only (ws : List (List (Option Nat))) : tupAll (ws.map rowT) = true := by
  rw [tupAll_iff]
  intro d hd
  obtain ⟨r, _, rfl⟩ := List.mem_map.mp hd
  exact rowT_only r
structure MachAt (K : PySem.W.Frag) (C : Addr) (H : Hp) (p : Addr) (z : Str) (ws : List (List (Option Nat))) (f : Nat) : Prop where
  ob : ∃ dx wt, H p = some (.ins C dx (mfs z wt f)) ∧ Dp K H (.ref wt) (waysT ws)
theorem MachAt.ex {K : PySem.W.Frag} {C : Addr} {H H' : Hp} {p : Addr} {z : Str} {ws : List (List (Option Nat))} {f : Nat} (h : MachAt K C H p z ws f) (e : Ex H H') : MachAt K C H' p z ws f := by
  obtain ⟨dx, wt, h1, h2⟩ := h.ob
  exact ⟨dx, wt, e _ _ h1, dp_ex e h2⟩
/-! ### what a machine is made of -/
def stepOkD (n : Nat) : PyData → Bool
  | .none => true
  | d => belowD d (n : Int)
def rowOkD (m n : Nat) (d : PyData) : Bool := match seqD d with
  | some xs => decide (xs.length = m) && xs.all (stepOkD n)
  | none => false
def stepO : PyData → Option Nat
  | .int i => some i.toNat
  | _ => none
def rowO (d : PyData) : List (Option Nat) := ((seqD d).getD []).map stepO
theorem stepO_ok {n : Nat} {d : PyData} (h : stepOkD n d = true) : oN (stepO d) = d := by
  cases d with
  | none => rfl
  | int i =>
    have h : (decide (0 ≤ i) && decide (i < (n : Int))) = true := h
    rw [Bool.and_eq_true, decide_eq_true_eq, decide_eq_true_eq] at h
    show PyData.int ((i.toNat : Nat) : Int) = .int i
    congr 1
    omega
  | _ => cases h
theorem rowO_ok {m n : Nat} {d : PyData} (h : rowOkD m n d = true) : ∃ xs, seqD d = some xs ∧ xs = (rowO d).map oN ∧ (rowO d).length = m ∧ ∀ s, some s ∈ rowO d → s < n := by
  unfold rowOkD at h
  cases e : seqD d with
  | none =>
    rw [e] at h
    cases h
  | some xs =>
    rw [e] at h
    have h : (decide (xs.length = m) && xs.all (stepOkD n)) = true := h
    rw [Bool.and_eq_true, decide_eq_true_eq, List.all_eq_true] at h
    have r : rowO d = xs.map stepO := by
      unfold rowO
      rw [e]
      rfl
    refine ⟨xs, rfl, ?_, by rw [r, List.length_map]; exact h.1, fun s hs => ?_⟩
    · rw [r, List.map_map]
      have : ∀ l : List PyData, (∀ x ∈ l, stepOkD n x = true) → l = l.map (oN ∘ stepO) := by
        intro l
        induction l with
        | nil => intro _; rfl
        | cons x l ih =>
          intro q
          rw [List.map_cons, ← ih fun y hy => q y (List.mem_cons_of_mem _ hy)]
          congr 1
          exact (stepO_ok (q x List.mem_cons_self)).symm
      exact this xs h.2
    · rw [r] at hs
      obtain ⟨x, hx, q⟩ := List.mem_map.mp hs
      have ok := h.2 x hx
      cases x with
      | int i =>
        have ok : (decide (0 ≤ i) && decide (i < (n : Int))) = true := ok
        rw [Bool.and_eq_true, decide_eq_true_eq, decide_eq_true_eq] at ok
        have q : some i.toNat = some s := q
        injection q with q
        omega
      | _ => cases q
section
variable {P : Program} {w : World} {K : PySem.W.Frag} {mg : Str → Option Value} {base : Heap}
/-- the class's own error, with v at «at» -/
abbrev Raises (CB : Addr) (H : Hp) (E : XK) (v : V) : Prop := ∀ H' d, Ex H H' → H' d = none → E (.ref CB) (some d) (upd H' d (.xd [(("at" : Str), v)]))
def spMI (K : PySem.W.Frag) (C CB : Addr) : Sp := fun vs H Q E => ∃ (p dx : Addr) (vl vw vf : V) (dl dw df : PyData), vs = [.ref p, vl, vw, vf] ∧ H p = some (.ins C dx []) ∧ Dp K H vl dl ∧ Dp K H vw dw ∧ Dp K H vf df ∧
  (((∀ z, dl = .str z → z ≠ subw z) ∧ Raises CB H E (.str "letters")) ∨
   ∃ z, dl = .str z ∧ z = subw z ∧
    (((∀ rows, seqD dw = some rows → (rows.length = 0 ∨ 2000 < rows.length) ∧ rows.length ≤ 100000) ∧ Raises CB H E (.str "ways")) ∨
     ∃ rows, seqD dw = some rows ∧ 1 ≤ rows.length ∧ rows.length ≤ 2000 ∧
      ((∃ (i : Nat) (r : PyData), rows[i]? = some r ∧ rowOkD z.cps.size rows.length r = false ∧ (∀ xs, seqD r = some xs → xs.length ≤ 100000) ∧ (∀ (j : Nat) (r : PyData), j < i → rows[j]? = some r → rowOkD z.cps.size rows.length r = true) ∧ Raises CB H E (.int (i : Int))) ∨
       ((∀ r ∈ rows, rowOkD z.cps.size rows.length r = true) ∧
        ((belowD df (rows.length : Int) = false ∧ Raises CB H E (.str "first")) ∨
         ∃ f : Nat, df = .int (f : Int) ∧ f < rows.length ∧ ∀ H', ExB p H H' → MachAt K C H' p z (rows.map rowO) f → Q .non H')))))
abbrev nMI : List Str := ["self", "letters", "ways", "first", "state", "steps", "sign", "behind"]
theorem scMI : FnScope nMI ["self", "letters", "ways", "first"] (defScope sMI) := ⟨rfl, rfl, rfl, by decide +kernel, rfl, by decide +kernel, by decide +kernel⟩
theorem ok_MI {f C CB fI : Addr} {fd : FuncData} (Fn : Fun K "__init__" "Machine.__init__" sMI f fd) (T : Txt K mg) (Mt : McT K C) (TM : OneTxt K mg "BadMachine" exTail "Exception.__new__" CB fI) (Os : Own P w K mg base "is_sequence" 1 ["value"] (spIsSeq K)) (Ob : Own P w K mg base "is_number_below" 3 ["value", "bound"] (spIsBelow K)) : FnOk P w K mg base (L2.CX P w) 4 f fd ["self", "letters", "ways", "first"] (spMI K C CB) := by
  refine Fn.okX scMI (fun vs H Q E h => ?_) (fun cdv A outer s H vs Q E hr h => ?_)
  · obtain ⟨p, dx, vl, vw, vf, dl, dw, df, rfl, _⟩ := h
    rfl
  · obtain ⟨p, dx, vl, vw, vf, dl, dw, df, rfl, hp, hl, hw, hf, k⟩ := h
    refine ⟨_, (pss_cons (ps_if (PW.pt (pw_or (pt_not (pt_val (pe_callB (crIsi K) (by rfl) T.b_isinstance (by decide +kernel) (pa_cons (pv 1) (pa_cons (pe_bltn (v := .ty "str") (by rfl) T.b_str (by decide +kernel) rfl) pa_nil))))) (pw_or1 (pt_cmpR op_ne (pv 1) (pe_join pe_str (pe_lc (own := [("sign", 6)]) rfl scMI.nd (pi_str (C8.pe_gc (by rfl) T.g_LETTERS)) (blkOk_by (N := nMI) (sc := defScope sMI) (by decide +kernel)) (fun _ _ _ _ _ => (pg_name (i := 6) scMI.nd rfl (by first | exact Or.inl rfl | exact Or.inr rfl))) (fun _ _ _ _ _ => (pts_one (pt_cmpR op_inS (pv 6) (pv 1) (by first | exact nobehind _ (by decide) (by decide) | rfl)))) (fun _ _ _ _ _ => (pv 6)))) (nomark _))))) (pss_one (ps_raiseAt rfl TM tail_ex PySem.F.excBase_Exception hr (takes_of rfl rfl rfl rfl) (pa_cons pe_str pa_nil))) pss_nil)
  (pss_cons (ps_if (PW.pt (pw_or (pt_not (pt_val (pe_call Os.G (hr.mono (by decide)) rfl Os.m Os.kp Os.b .nil pass0 (pa_cons (pv 2) pa_nil)))) (pw_or1 (pt_not (pt_chain op_le op_le pe_int (pe_callB (crLen K) (by rfl) T.b_len PySem.boot_len (pa_cons (pv 2) pa_nil)) (C8.pe_gc (by rfl) T.g_MOST_STATES)))))) (pss_one (ps_raiseAt rfl TM tail_ex PySem.F.excBase_Exception hr (takes_of rfl rfl rfl rfl) (pa_cons pe_str pa_nil))) pss_nil)
  (pss_cons (ps_for (passes_of rfl) rfl (pi_or (piEnum K (by rfl) T.b_enumerate (pa_cons (pv 2) pa_nil)) (piEnumT K (by rfl) T.b_enumerate (pa_cons (pv 2) pa_nil))) (pgT K (n := 2) (by rfl) (pgs_cons (pg_name (i := 4) scMI.nd rfl (by first | exact Or.inl rfl | exact Or.inr rfl)) (pgs_cons (pg_name (i := 5) scMI.nd rfl (by first | exact Or.inl rfl | exact Or.inr rfl)) pgs_nil))) (pss_cons (ps_if (PW.pt (pw_or (pt_not (pt_val (pe_call Os.G (hr.mono (by decide)) rfl Os.m Os.kp Os.b .nil pass0 (pa_cons (pv 5) pa_nil)))) (pw_or1 (pt_cmpR op_ne (pe_callB (crLen K) (by rfl) T.b_len PySem.boot_len (pa_cons (pv 5) pa_nil)) (pe_callB call_len_str (by rfl) T.b_len PySem.boot_len (pa_cons (pv 1) pa_nil)) (nomark _))))) (pss_one (ps_raiseAt rfl TM tail_ex PySem.F.excBase_Exception hr (takes_of rfl rfl rfl rfl) (pa_cons (pv 4) pa_nil))) pss_nil)
  (pss_one (ps_if (pt_not (pt_val (pe_callB (crAll K rfl) (by rfl) T.b_all (by decide +kernel) (pa_cons (pe_lc (own := [("behind", 7)]) rfl scMI.nd (pi_or (piL K (pv 5)) (piT K (pv 5))) (blkOk_by (N := nMI) (sc := defScope sMI) (by decide +kernel)) (fun _ _ _ _ _ => (pg_name (i := 7) scMI.nd rfl (by first | exact Or.inl rfl | exact Or.inr rfl))) (fun _ _ _ _ _ => pts_nil) (fun _ _ _ _ _ => (pe_or (pe_cmpR opIsN (pv 7) pe_non (nomark _)) (pe_one (pe_call Ob.G (hr.mono (by decide)) rfl Ob.m Ob.kp Ob.b .nil pass0 (pa_cons (pv 7) (pa_cons (pe_callB (crLen K) (by rfl) T.b_len PySem.boot_len (pa_cons (pv 2) pa_nil)) pa_nil))))))) pa_nil)))) (pss_one (ps_raiseAt rfl TM tail_ex PySem.F.excBase_Exception hr (takes_of rfl rfl rfl rfl) (pa_cons (pv 4) pa_nil))) pss_nil))))
  (pss_cons (ps_if (pt_not (pt_val (pe_call Ob.G (hr.mono (by decide)) rfl Ob.m Ob.kp Ob.b .nil pass0 (pa_cons (pv 3) (pa_cons (pe_callB (crLen K) (by rfl) T.b_len PySem.boot_len (pa_cons (pv 2) pa_nil)) pa_nil))))) (pss_one (ps_raiseAt rfl TM tail_ex PySem.F.excBase_Exception hr (takes_of rfl rfl rfl rfl) (pa_cons pe_str pa_nil))) pss_nil)
  (pss_cons (ps_fld (pv 0) (pv 1) rfl)
  (pss_cons (ps_fld (pv 0) (pe_callTy (crTup K) (by rfl) T.b_tuple (by decide +kernel) (pa_cons (pe_lc (own := [("steps", 5)]) rfl scMI.nd (pi_or (piL K (pv 2)) (piT K (pv 2))) (blkOk_by (N := nMI) (sc := defScope sMI) (by decide +kernel)) (fun _ _ _ _ _ => (pg_name (i := 5) scMI.nd rfl (by first | exact Or.inl rfl | exact Or.inr rfl))) (fun _ _ _ _ _ => pts_nil) (fun _ _ _ _ _ => (pe_callTy (crTup K) (by rfl) T.b_tuple (by decide +kernel) (pa_cons (pv 5) pa_nil)))) pa_nil)) rfl)
  (pss_one (ps_fld (pv 0) (pv 3) rfl)))))))), ?_⟩
    have dpx : ∀ {G : Hp} {v : V} {d : PyData}, Ex H G → Dp K H v d → Dp K G v d := fun e h => dp_ex e h
    have tyl := ty_dp hl
    -- letters
    rcases k with ⟨hn, k⟩ | ⟨z, rfl, hz, k⟩
    · cases hl with
      | str z =>
        refine ⟨_, rfl, _, _, _, _, _, rfl, .ty "str", tyl, kit_str K _, true, rfl, iteF ?_⟩
        refine ⟨_, rfl, ⟨_, rfl⟩, _, rfl, fun D hD => ?_⟩
        refine lcD (K := K) (walk_str (z := "abcd01")) (fun i => pz z i) (fun i => .str (sgn i)) (by decide) hD (fun _ _ => trivial) ?_ ?_
        · rintro i u G2 G1 hi e1 ⟨rfl, c, hc, rfl⟩ N A2 ⟨itN, itA⟩
          have ec : ("abcd01" : Str).cps.getD i 0 = c := by
            rw [Array.getD_eq_getD_getElem?, hc]
            rfl
          refine ⟨by rfl, _, rfl, _, rfl, c, z, rfl, rfl, _, rfl, ?_⟩
          unfold pz sgn at *
          rw [ec] at itN itA
          cases wv : decide (c ∈ z.cps.toList) with
          | true => exact iteT ⟨_, rfl, itA wv _ _ (Ex.refl _) (.str _)⟩
          | false => exact iteF (itN wv _ (Ex.refl _))
        intro H1 ys e1 hD1 hys
        have hys2 : ys = (((List.range 6).filter (pz z)).map sgn).map V.str := dpStrs_eq (by
          rw [List.map_map]
          exact hys)
        subst hys2
        obtain ⟨j1, j2⟩ := join_p (pz z)
        refine ⟨_, D, _, rfl, rfl, .inl (SqL.of hD1), j2, ?_⟩
        rw [j1]
        refine ⟨rfl, _, rfl, iteT1 ?_ ?_⟩
        · show (!decide (V.str z = V.str (subw z))) = true
          rw [decide_eq_false (fun q => hn z rfl (by injection q))]
          rfl
        · exact ⟨_, rfl, fun d hd => k _ d e1 hd⟩
      | _ => exact ⟨_, rfl, _, _, _, _, _, rfl, .ty "str", tyl, kit_str K _, false, rfl, iteT ⟨_, rfl, fun d hd => k _ d (Ex.refl _) hd⟩⟩
    have ez : vl = .str z := by
      cases hl
      rfl
    subst ez
    have hz6 : z ∈ L64 := by
      rw [hz]
      exact subw_in z
    have lz := l64_len hz6
    refine ⟨_, rfl, _, _, _, _, _, rfl, .ty "str", tyl, kit_str K _, true, rfl, iteF ?_⟩
    refine ⟨_, rfl, ⟨_, rfl⟩, _, rfl, fun D hD => ?_⟩
    refine lcD (K := K) (walk_str (z := "abcd01")) (fun i => pz z i) (fun i => .str (sgn i)) (by decide) hD (fun _ _ => trivial) ?_ ?_
    · rintro i u G2 G1 hi e1 ⟨rfl, c, hc, rfl⟩ N A2 ⟨itN, itA⟩
      have ec : ("abcd01" : Str).cps.getD i 0 = c := by
        rw [Array.getD_eq_getD_getElem?, hc]
        rfl
      refine ⟨by rfl, _, rfl, _, rfl, c, z, rfl, rfl, _, rfl, ?_⟩
      unfold pz sgn at *
      rw [ec] at itN itA
      cases wv : decide (c ∈ z.cps.toList) with
      | true => exact iteT ⟨_, rfl, itA wv _ _ (Ex.refl _) (.str _)⟩
      | false => exact iteF (itN wv _ (Ex.refl _))
    intro H1 ys e1 hD1 hys
    have hys2 : ys = (((List.range 6).filter (pz z)).map sgn).map V.str := dpStrs_eq (by
      rw [List.map_map]
      exact hys)
    subst hys2
    obtain ⟨j1, j2⟩ := join_p (pz z)
    refine ⟨_, D, _, rfl, rfl, .inl (SqL.of hD1), j2, ?_⟩
    rw [j1]
    refine ⟨rfl, _, rfl, iteF1 ?_ ?_⟩
    · show (!decide (V.str z = V.str (subw z))) = false
      rw [← hz, decide_eq_true rfl]
      rfl
    clear hys hD1 j1 j2
    -- ways
    refine ⟨_, rfl, vw, dw, rfl, dpx e1 hw, fun H2 e2 => ?_⟩
    have e02 := e1.trans e2
    rcases k with ⟨hb, k⟩ | ⟨rows, hrows, n1, n2, k⟩
    · refine ⟨(seqD dw).isSome, rfl, ?_⟩
      cases e : seqD dw with
      | none => exact iteT ⟨_, rfl, fun d hd => k _ d e02 hd⟩
      | some rows =>
        obtain ⟨hb1, hb2⟩ := hb rows e
        obtain ⟨t, wa, xs, rfl, hxs, hdx⟩ := dp_seq (dpx e02 hw) e
        have lxs := dpAll_len hdx
        refine iteF ⟨_, rfl, wa, xs, rfl, hxs.or, _, _, rfl, rfl, _, rfl, ?_⟩
        rcases hb1 with hb1 | hb1
        · refine iteF1 (decide_eq_false (by omega)) ⟨_, rfl, iteT ⟨_, rfl, fun d hd => k _ d e02 hd⟩⟩
        · refine iteT1 (decide_eq_true (by omega)) ⟨_, _, rfl, rfl, _, rfl, ?_⟩
          refine iteT1 (by rw [decide_eq_false (show ¬ ((xs.length : Int) ≤ 2000) by omega)]; rfl) ⟨_, rfl, fun d hd => k _ d e02 hd⟩
    refine ⟨(seqD dw).isSome, rfl, ?_⟩
    rw [hrows]
    obtain ⟨t, wa, xs, rfl, hxs0, hdx0⟩ := dp_seq hw hrows
    have hxsG : ∀ {G : Hp}, Ex H G → SqB t K G wa xs := fun e => hxs0.ex e
    have lxs := dpAll_len hdx0
    refine iteF ⟨_, rfl, wa, xs, rfl, (hxsG e02).or, _, _, rfl, rfl, _, rfl, ?_⟩
    refine iteT1 (decide_eq_true (by omega)) ⟨_, _, rfl, rfl, _, rfl, ?_⟩
    refine iteF1 (by rw [decide_eq_true (show (xs.length : Int) ≤ 2000 by omega)]; rfl) ?_
    have hget : ∀ {i : Nat} {y : V}, xs[i]? = some y → ∃ r, rows[i]? = some r ∧ Dp K H y r := fun {i y} h => by
      have hi : i < rows.length := by
        have := (List.getElem?_eq_some_iff.mp h).1
        omega
      obtain ⟨v, hv, hd⟩ := dpAll_get hdx0 (List.getElem?_eq_getElem hi)
      rw [h] at hv
      cases hv
      exact ⟨_, List.getElem?_eq_getElem hi, hd⟩
    rcases k with ⟨bi, br, hbi, hbr, hbig, hbefore, k⟩ | ⟨hall, k⟩
    · -- a wrong row
      have hlt : bi < xs.length := by
        have := (List.getElem?_eq_some_iff.mp hbi).1
        omega
      refine enumB (a := wa) (fun q h => ⟨_, rfl, h⟩) (hxsG e02) fun J wk => for_it wk (fun i σ G => i ≤ bi ∧ Ex H G ∧ ∃ v4 v5 : Option V, σ = [some (.ref p), some (.str z), some (.ref wa), some vf, v4, v5, none, none]) ⟨Nat.zero_le _, e02, none, none, rfl⟩ (fun i σ G _ h => hxsG h.2.1) ?_ ?_
      · rintro i x σ G G1 hi ⟨hib, eG, v4, v5, rfl⟩ ⟨tt, y1, y2, rfl, htt, rfl, hy1, hy2⟩
        cases hy1
        obtain ⟨r, hr1, hr2⟩ := hget hy2
        have et : Ex G (upd G tt (.tup [.int (i : Int), y2])) := Ex.new htt
        refine ⟨tt, _, rfl, SqT.of upd_same, rfl, _, _, rfl, _, _, rfl, rfl, ?_⟩
        have eG1 := eG.trans et
        have yes : rowOkD z.cps.size rows.length r = true → i + 1 ≤ bi := fun yes => by
          rcases Nat.lt_or_ge i bi with q | q
          · exact q
          · have e : i = bi := by omega
            subst e
            rw [hr1] at hbi
            cases hbi
            rw [yes] at hbr
            cases hbr
        have no : rowOkD z.cps.size rows.length r = false → Raises CB H E (.int (i : Int)) := fun no => by
          rcases Nat.lt_or_ge i bi with q | q
          · rw [hbefore i r q hr1] at no
            cases no
          · have e : i = bi := by omega
            subst e
            exact k
        have hbig : ∀ xs, seqD r = some xs → xs.length ≤ 100000 := fun xs2 hx2 => by
          cases ok : rowOkD z.cps.size rows.length r with
          | true =>
            obtain ⟨xs3, h3, _, h4, _⟩ := rowO_ok ok
            rw [hx2] at h3
            cases h3
            have : xs2.length = (rowO r).length := by
              unfold rowO
              rw [hx2, List.length_map]
              rfl
            omega
          | false =>
            rcases Nat.lt_or_ge i bi with q | q
            · rw [hbefore i r q hr1] at ok
              cases ok
            · have e : i = bi := by omega
              subst e
              rw [hr1] at hbi
              cases hbi
              exact hbig xs2 hx2
        generalize upd G tt (.tup [.int (i : Int), y2]) = G1 at et eG1 ⊢
        refine ⟨_, rfl, y2, r, rfl, dpx eG1 hr2, fun G2 e3 => ⟨(seqD r).isSome, rfl, ?_⟩⟩
        have eG2 := eG1.trans e3
        cases er : seqD r with
        | none => exact iteT ⟨_, rfl, _, rfl, fun d hd => no (by unfold rowOkD; rw [er]) _ d eG2 hd⟩
        | some ds =>
          obtain ⟨t2, ra, rs, rfl, hrs0, hrd0⟩ := dp_seq hr2 er
          have lrs := dpAll_len hrd0
          have hds := hbig ds er
          have hrsG : ∀ {G : Hp}, Ex H G → SqB t2 K G ra rs := fun e => hrs0.ex e
          refine iteF ⟨_, rfl, ra, _, rfl, (hrsG eG2).or, _, rfl, z, rfl, (by show z.cps.size ≤ sizeLine; rw [sizeLine_eq]; omega), rfl, _, rfl, ?_⟩
          by_cases hlen : ds.length = z.cps.size
          · refine iteF1 ?_ ?_
            · show (!decide (V.int ((rs.length : Nat) : Int) = V.int ((z.cps.size : Nat) : Int))) = false
              rw [lrs, hlen, decide_eq_true rfl]
              rfl
            refine itB (a := ra) (fun q h => ⟨_, rfl, h⟩) (hrsG eG2) fun J wk D2 hD2 => ?_
            have bl : ∀ j, j < ds.length → ∃ d, ds[j]? = some d ∧ ∃ u, rs[j]? = some u ∧ Dp K H u d := fun j hj => by
              obtain ⟨u, hu, hd⟩ := dpAll_get hrd0 (List.getElem?_eq_getElem hj)
              exact ⟨_, List.getElem?_eq_getElem hj, u, hu, hd⟩
            refine lcDA (K := K) wk (fun j => .bool (stepOkD rows.length (ds.getD j .none))) (by omega) hD2 (fun _ e => hrsG (eG2.trans e)) ?_ ?_
            · rintro c u G4 G3 hc e4 ⟨rfl, hu⟩ A2 hA2
              obtain ⟨d, hd, u', hu', hdu⟩ := bl c (by omega)
              rw [hu] at hu'
              cases hu'
              have gd : ds.getD c .none = d := by
                rw [List.getD_eq_getElem?_getD, hd]
                rfl
              rw [gd] at hA2
              have hdu := dpx (eG2.trans e4) hdu
              refine ⟨by rfl, _, rfl, rfl, _, rfl, ?_⟩
              by_cases hnone : u = .non
              · subst hnone
                have ed : d = .none := by
                  cases hdu
                  rfl
                subst ed
                exact iteT1 (decide_eq_true rfl) (hA2 _ _ (Ex.refl _) (.bl _))
              · refine iteF1 (decide_eq_false hnone) ⟨_, rfl, _, rfl, wa, xs, rfl, (hxsG (eG2.trans e4)).or, u, d, _, rfl, hdu, ?_⟩
                have es : stepOkD rows.length d = belowD d ((xs.length : Nat) : Int) := by
                  rw [lxs]
                  cases hdu with
                  | non => exact (hnone rfl).elim
                  | _ => rfl
                rw [es] at hA2
                exact hA2 _ _ (Ex.refl _) (.bl _)
            · intro G3 ys e4 hD3 hys
              have hb2 : ys = ((List.range rs.length).map fun j => stepOkD rows.length (ds.getD j .none)).map V.bl := dpBls_eq (by
                rw [List.map_map]
                exact hys)
              rw [lrs, range_get (f := stepOkD rows.length) (d := PyData.none) ds] at hb2
              subst hb2
              refine ⟨D2, _, rfl, SqL.of hD3, _, rfl, ?_⟩
              have ok : rowOkD z.cps.size rows.length r = (ds.map (stepOkD rows.length)).all id := by
                unfold rowOkD
                rw [er]
                show (decide (ds.length = z.cps.size) && ds.all (stepOkD rows.length)) = _
                rw [decide_eq_true hlen, Bool.true_and, List.all_map]
                rfl
              cases wv : (ds.map (stepOkD rows.length)).all id with
              | true => exact iteF1 rfl ⟨yes (ok.trans wv), eG2.trans e4, _, _, rfl⟩
              | false => exact iteT1 rfl ⟨_, rfl, _, rfl, fun d hd => no (ok.trans wv) _ d (eG2.trans e4) hd⟩
          · refine iteT1 ?_ ⟨_, rfl, _, rfl, fun d hd => no ?_ _ d eG2 hd⟩
            · show (!decide (V.int ((rs.length : Nat) : Int) = V.int ((z.cps.size : Nat) : Int))) = true
              rw [lrs, decide_eq_false]
              · rfl
              · intro q
                injection q with q
                omega
            · unfold rowOkD
              rw [er]
              show (decide (ds.length = z.cps.size) && _) = false
              rw [decide_eq_false hlen]
              rfl
      · rintro σ G ⟨hib, _⟩
        omega
    -- all rows are right
    refine enumB (a := wa) (fun q h => ⟨_, rfl, h⟩) (hxsG e02) fun J wk => for_it wk (fun i σ G => Ex H G ∧ ∃ v4 v5 : Option V, σ = [some (.ref p), some (.str z), some (.ref wa), some vf, v4, v5, none, none]) ⟨e02, none, none, rfl⟩ (fun i σ G _ h => hxsG h.1) ?_ ?_
    · rintro i x σ G G1 hi ⟨eG, v4, v5, rfl⟩ ⟨tt, y1, y2, rfl, htt, rfl, hy1, hy2⟩
      cases hy1
      obtain ⟨r, hr1, hr2⟩ := hget hy2
      have et : Ex G (upd G tt (.tup [.int (i : Int), y2])) := Ex.new htt
      have ok := hall r (List.mem_of_getElem? hr1)
      refine ⟨tt, _, rfl, SqT.of upd_same, rfl, _, _, rfl, _, _, rfl, rfl, ?_⟩
      have eG1 := eG.trans et
      have no : rowOkD z.cps.size rows.length r = false → Raises CB H E (.int (i : Int)) := fun no => by
        rw [ok] at no
        cases no
      have hbig : ∀ xs, seqD r = some xs → xs.length ≤ 100000 := fun xs2 hx2 => by
        obtain ⟨xs3, h3, _, h4, _⟩ := rowO_ok ok
        rw [hx2] at h3
        cases h3
        have : xs2.length = (rowO r).length := by
          unfold rowO
          rw [hx2, List.length_map]
          rfl
        omega
      clear ok
      generalize upd G tt (.tup [.int (i : Int), y2]) = G1 at et eG1 ⊢
      refine ⟨_, rfl, y2, r, rfl, dpx eG1 hr2, fun G2 e3 => ⟨(seqD r).isSome, rfl, ?_⟩⟩
      have eG2 := eG1.trans e3
      cases er : seqD r with
      | none => exact iteT ⟨_, rfl, _, rfl, fun d hd => no (by unfold rowOkD; rw [er]) _ d eG2 hd⟩
      | some ds =>
        obtain ⟨t2, ra, rs, rfl, hrs0, hrd0⟩ := dp_seq hr2 er
        have lrs := dpAll_len hrd0
        have hds := hbig ds er
        have hrsG : ∀ {G : Hp}, Ex H G → SqB t2 K G ra rs := fun e => hrs0.ex e
        refine iteF ⟨_, rfl, ra, _, rfl, (hrsG eG2).or, _, rfl, z, rfl, (by show z.cps.size ≤ sizeLine; rw [sizeLine_eq]; omega), rfl, _, rfl, ?_⟩
        by_cases hlen : ds.length = z.cps.size
        · refine iteF1 ?_ ?_
          · show (!decide (V.int ((rs.length : Nat) : Int) = V.int ((z.cps.size : Nat) : Int))) = false
            rw [lrs, hlen, decide_eq_true rfl]
            rfl
          refine itB (a := ra) (fun q h => ⟨_, rfl, h⟩) (hrsG eG2) fun J wk D2 hD2 => ?_
          have bl : ∀ j, j < ds.length → ∃ d, ds[j]? = some d ∧ ∃ u, rs[j]? = some u ∧ Dp K H u d := fun j hj => by
            obtain ⟨u, hu, hd⟩ := dpAll_get hrd0 (List.getElem?_eq_getElem hj)
            exact ⟨_, List.getElem?_eq_getElem hj, u, hu, hd⟩
          refine lcDA (K := K) wk (fun j => .bool (stepOkD rows.length (ds.getD j .none))) (by omega) hD2 (fun _ e => hrsG (eG2.trans e)) ?_ ?_
          · rintro c u G4 G3 hc e4 ⟨rfl, hu⟩ A2 hA2
            obtain ⟨d, hd, u', hu', hdu⟩ := bl c (by omega)
            rw [hu] at hu'
            cases hu'
            have gd : ds.getD c .none = d := by
              rw [List.getD_eq_getElem?_getD, hd]
              rfl
            rw [gd] at hA2
            have hdu := dpx (eG2.trans e4) hdu
            refine ⟨by rfl, _, rfl, rfl, _, rfl, ?_⟩
            by_cases hnone : u = .non
            · subst hnone
              have ed : d = .none := by
                cases hdu
                rfl
              subst ed
              exact iteT1 (decide_eq_true rfl) (hA2 _ _ (Ex.refl _) (.bl _))
            · refine iteF1 (decide_eq_false hnone) ⟨_, rfl, _, rfl, wa, xs, rfl, (hxsG (eG2.trans e4)).or, u, d, _, rfl, hdu, ?_⟩
              have es : stepOkD rows.length d = belowD d ((xs.length : Nat) : Int) := by
                rw [lxs]
                cases hdu with
                | non => exact (hnone rfl).elim
                | _ => rfl
              rw [es] at hA2
              exact hA2 _ _ (Ex.refl _) (.bl _)
          · intro G3 ys e4 hD3 hys
            have hb2 : ys = ((List.range rs.length).map fun j => stepOkD rows.length (ds.getD j .none)).map V.bl := dpBls_eq (by
              rw [List.map_map]
              exact hys)
            rw [lrs, range_get (f := stepOkD rows.length) (d := PyData.none) ds] at hb2
            subst hb2
            refine ⟨D2, _, rfl, SqL.of hD3, _, rfl, ?_⟩
            have ok : rowOkD z.cps.size rows.length r = (ds.map (stepOkD rows.length)).all id := by
              unfold rowOkD
              rw [er]
              show (decide (ds.length = z.cps.size) && ds.all (stepOkD rows.length)) = _
              rw [decide_eq_true hlen, Bool.true_and, List.all_map]
              rfl
            cases wv : (ds.map (stepOkD rows.length)).all id with
            | true => exact iteF1 rfl ⟨eG2.trans e4, _, _, rfl⟩
            | false => exact iteT1 rfl ⟨_, rfl, _, rfl, fun d hd => no (ok.trans wv) _ d (eG2.trans e4) hd⟩
        · refine iteT1 ?_ ⟨_, rfl, _, rfl, fun d hd => no ?_ _ d eG2 hd⟩
          · show (!decide (V.int ((rs.length : Nat) : Int) = V.int ((z.cps.size : Nat) : Int))) = true
            rw [lrs, decide_eq_false]
            · rfl
            · intro q
              injection q with q
              omega
          · unfold rowOkD
            rw [er]
            show (decide (ds.length = z.cps.size) && _) = false
            rw [decide_eq_false hlen]
            rfl
    rintro σ G ⟨eG, v4, v5, rfl⟩
    -- first
    refine ⟨_, rfl, _, rfl, wa, xs, rfl, (hxsG eG).or, vf, df, _, rfl, dpx eG hf, _, rfl, ?_⟩
    rcases k with ⟨hbf, k⟩ | ⟨f0, rfl, hf0, k⟩
    · rw [lxs, hbf]
      exact iteT ⟨_, rfl, fun d hd => k _ d eG hd⟩
    have ef : vf = .int (f0 : Int) := by
      cases hf
      rfl
    subst ef
    refine iteF1 ?_ ?_
    · show (!(decide ((0 : Int) ≤ (f0 : Int)) && decide ((f0 : Int) < ((xs.length : Nat) : Int)))) = false
      rw [decide_eq_true (show (0 : Int) ≤ (f0 : Int) by omega), decide_eq_true (show (f0 : Int) < ((xs.length : Nat) : Int) by omega)]
      rfl
    -- self.letters
    have hpG := eG _ _ hp
    refine ⟨_, rfl, _, rfl, p, C, dx, [], rfl, hpG, Mt.cl, Mt.n1, (by show 0 < 1000; decide), ?_⟩
    have cA : ExB p G (upd G p (.ins C dx (putF "letters" (.str z) []))) := ExB.put
    have pA : upd G p (.ins C dx (putF "letters" (.str z) [])) p = some (.ins C dx (putF "letters" (.str z) [])) := upd_same
    have rdA : ∀ {t : Bool} {c : Addr} {ys : List V}, SqB t K G c ys → SqB t K (upd G p (.ins C dx (putF "letters" (.str z) []))) c ys := fun {t c ys} h => by
      have ne : ∀ {o : HO}, G c = some o → (∀ C dx fs, o ≠ .ins C dx fs) → c ≠ p := fun {o} h n z => by
        rw [z, hpG] at h
        exact n _ _ _ (Option.some.inj h).symm
      cases t
      · rcases (h : SqL K G c ys) with (h | ⟨o, h⟩) | h
        · exact .inl (.inl (cA c _ h (ne h fun _ _ _ z => by cases z)))
        · exact .inl (.inr ⟨o, cA c _ h (ne h fun _ _ _ z => by cases z)⟩)
        · exact .inr h
      · rcases (h : SqT K G c ys) with (h | ⟨o, h⟩) | h
        · exact .inl (.inl (cA c _ h (ne h fun _ _ _ z => by cases z)))
        · exact .inl (.inr ⟨o, cA c _ h (ne h fun _ _ _ z => by cases z)⟩)
        · exact .inr h
    generalize upd G p (.ins C dx (putF "letters" (.str z) [])) = Ga at cA pA rdA ⊢
    -- self.ways
    have hxsA : ∀ {G2 : Hp}, Ex Ga G2 → SqB t K G2 wa xs := fun e => (rdA (hxsG eG)).ex e
    have rowAt : ∀ {i : Nat} {y : V}, xs[i]? = some y → ∃ t2 ra rs, y = .ref ra ∧ SqB t2 K Ga ra rs ∧ rs = ((rows.map rowO).getD i []).map oW := fun {i y} h => by
      obtain ⟨r, hr1, hr2⟩ := hget h
      obtain ⟨ds, er, eds, _, _⟩ := rowO_ok (hall r (List.mem_of_getElem? hr1))
      obtain ⟨t2, ra, rs, ey, h1, h2⟩ := dp_seq (dpx eG hr2) er
      have g0 : (rows.map rowO).getD i [] = rowO r := by
        rw [List.getD_eq_getElem?_getD, List.getElem?_map, hr1]
        rfl
      rw [eds] at h2
      exact ⟨t2, ra, rs, ey, rdA h1, by rw [g0]; exact dpAll_oN_eq h2⟩
    refine itB (a := wa) (fun q h => ⟨_, rfl, h⟩) (hxsA (Ex.refl _)) fun J wk D3 hD3 => ?_
    refine lcT (K := K) wk (fun i => rowT ((rows.map rowO).getD i [])) (fun i _ => rowT_only _) (by omega) hD3 (fun _ e => hxsA e) ?_ ?_
    · rintro i u G3 G2 hi e4 ⟨rfl, hu⟩ A2 hA2
      obtain ⟨t2, ra, rs, rfl, hrs, ers⟩ := rowAt hu
      subst ers
      refine ⟨by rfl, _, rfl, ra, ((rows.map rowO).getD i []).map oW, rfl, ?_⟩
      cases t2 with
      | false => exact .inl ⟨ex_l e4 hrs, fun t ht => hA2 _ _ (Ex.new ht) (.tup (SqT.of upd_same) (dpAll_oN _))⟩
      | true => exact .inr ⟨ex_t e4 hrs, hA2 _ _ (Ex.refl _) (.tup (ex_t e4 hrs) (dpAll_oN _))⟩
    intro G3 ys e4 hD4 hys
    have lw : xs.length = (rows.map rowO).length := by rw [List.length_map, lxs]
    rw [lw, range_get (f := rowT) (d := []) (rows.map rowO)] at hys
    refine ⟨D3, _, rfl, .inl ⟨SqL.of hD4, fun wt hwt => ?_⟩⟩
    have e5 : Ex G3 (upd G3 wt (.tup ys)) := Ex.new hwt
    have hwt' : upd G3 wt (.tup ys) wt = some (.tup ys) := upd_same
    have pB := e5 _ _ (e4 _ _ pA)
    have hys2 := dpAll_ex e5 hys
    have cB : ExB p H (upd G3 wt (.tup ys)) := (exB_of eG).trans (cA.trans (exB_of (e4.trans e5)))
    generalize upd G3 wt (.tup ys) = Gb at e5 hwt' pB hys2 cB ⊢
    refine ⟨_, rfl, p, C, dx, _, rfl, pB, Mt.cl, Mt.n2, (by show 1 < 1000; decide), ?_⟩
    have tB : TEx Gb (upd Gb p (.ins C dx (putF "ways" (.ref wt) (putF "letters" (.str z) [])))) := tex_ins pB
    have hwtC := tB.1 _ _ hwt'
    have hysC := dpAll_tex tB hys2 (rowsT_only _)
    have pC : upd Gb p (.ins C dx (putF "ways" (.ref wt) (putF "letters" (.str z) []))) p = some (.ins C dx (putF "ways" (.ref wt) (putF "letters" (.str z) []))) := upd_same
    have cC : ExB p H (upd Gb p (.ins C dx (putF "ways" (.ref wt) (putF "letters" (.str z) [])))) := cB.trans ExB.put
    generalize upd Gb p (.ins C dx (putF "ways" (.ref wt) (putF "letters" (.str z) []))) = Gc at tB hwtC hysC pC cC ⊢
    -- self.first
    refine ⟨_, rfl, _, rfl, p, C, dx, _, rfl, pC, Mt.cl, Mt.n3, (by show 2 < 1000; decide), ?_⟩
    have tD : TEx Gc (upd Gc p (.ins C dx (mfs z wt f0))) := tex_ins pC
    exact k _ (cC.trans ExB.put) ⟨dx, wt, upd_same, .tup (SqT.of (tD.1 _ _ hwtC)) (dpAll_tex tD hysC (rowsT_only _))⟩
end
end My
set_option Elab.async false
set_option linter.all false
set_option autoImplicit false
set_option maxRecDepth 100000
set_option maxHeartbeats 4000000
namespace My
open PySem PySem.Spec PyProof.Rows L2 Evl
/-! ### a machine's walk -/
def ixo (z : Str) (c : Nat) : Nat := z.cps.toList.idxOf c
def stp (ws : List (List (Option Nat))) (z : Str) (s c : Nat) : Option Nat := (ws.getD s []).getD (ixo z c) none
def wkL (ws : List (List (Option Nat))) (z : Str) : Option Nat → List Nat → Option Nat
  | o, [] => o
  | none, _ :: _ => none
  | some s, c :: l => wkL ws z (stp ws z s c) l
theorem wk_none {ws : List (List (Option Nat))} {z : Str} : ∀ l : List Nat, wkL ws z none l = none
  | [] => rfl
  | _ :: _ => rfl
theorem wk_app {ws : List (List (Option Nat))} {z : Str} : ∀ (l m : List Nat) (o : Option Nat), wkL ws z o (l ++ m) = wkL ws z (wkL ws z o l) m
  | [], m, o => by
    cases o <;> rfl
  | c :: l, m, none => (wk_none _).symm
  | c :: l, m, some s => wk_app l m (stp ws z s c)
theorem occL {z : Str} (h : z ∈ L64) {c : Nat} (hc : c ∈ z.cps.toList) : ∃ rest, Builtin.Str.occurrences z ⟨#[c]⟩ 0 z.length 1 = ixo z c :: rest := by
  have q : ∀ z ∈ L64, ∀ c ∈ z.cps.toList, (Builtin.Str.occurrences z ⟨#[c]⟩ 0 z.length 1).head? = some (ixo z c) := by decide +kernel
  have := q z h c hc
  cases e : Builtin.Str.occurrences z ⟨#[c]⟩ 0 z.length 1 with
  | nil =>
    rw [e] at this
    cases this
  | cons i rest =>
    rw [e] at this
    injection this with this
    exact ⟨rest, by rw [this]⟩
theorem ixo_lt {z : Str} {c : Nat} (hc : c ∈ z.cps.toList) : ixo z c < z.cps.size := by
  have := List.idxOf_lt_length_of_mem hc
  rw [Array.length_toList] at this
  exact this
theorem stp_lt {z : Str} {ws : List (List (Option Nat))} (h : WaysOk z.cps.size ws) {s c t : Nat} (e : stp ws z s c = some t) : t < ws.length := by
  unfold stp at e
  rcases Nat.lt_or_ge s ws.length with hl | hl
  · rw [List.getD_eq_getElem?_getD, List.getD_eq_getElem?_getD, List.getElem?_eq_getElem hl] at e
    cases q : (ws[s])[ixo z c]? with
    | none =>
      have e : ((ws[s])[ixo z c]?).getD none = some t := e
      rw [q] at e
      cases e
    | some o =>
      have e : ((ws[s])[ixo z c]?).getD none = some t := e
      rw [q] at e
      have e : o = some t := e
      subst e
      exact h.lt _ (List.getElem_mem hl) t (List.mem_of_getElem? q)
  · rw [List.getD_eq_getElem?_getD, List.getD_eq_getElem?_getD, List.getElem?_eq_none hl] at e
    cases e
theorem rowsT_only' (ws : List (List (Option Nat))) : tupAll (ws.map rowT) = true := rowsT_only ws
theorem waysT_read {K : PySem.W.Frag} {H : Hp} {wt : Addr} {ws : List (List (Option Nat))} (h : Dp K H (.ref wt) (waysT ws)) : ∃ xs, SqT K H wt xs ∧ xs.length = ws.length ∧ ∀ s, s < ws.length → ∃ rt, xs[s]? = some (.ref rt) ∧ SqT K H rt ((ws.getD s []).map oW) := by
  obtain ⟨a, xs, e, h1, h2⟩ := dp_tup h
  cases e
  refine ⟨xs, h1, by rw [dpAll_len h2, List.length_map], fun s hs => ?_⟩
  obtain ⟨v, hv, hd⟩ := dpAll_get (i := s) (d := rowT ws[s]) h2 (by rw [List.getElem?_map, List.getElem?_eq_getElem hs]; rfl)
  obtain ⟨rt, rs, rfl, h3, h4⟩ := dp_tup hd
  have e := dpAll_oN_eq h4
  subst e
  refine ⟨rt, hv, ?_⟩
  rw [List.getD_eq_getElem?_getD, List.getElem?_eq_getElem hs]
  exact h3
theorem row_at {z : Str} {ws : List (List (Option Nat))} (h : WaysOk z.cps.size ws) {s c : Nat} (hs : s < ws.length) (hc : c ∈ z.cps.toList) : ((ws.getD s []).map oW)[ixo z c]? = some (oW (stp ws z s c)) := by
  have hl : (ws.getD s []).length = z.cps.size := by
    rw [List.getD_eq_getElem?_getD, List.getElem?_eq_getElem hs]
    exact h.len _ (List.getElem_mem hs)
  have hi : ixo z c < (ws.getD s []).length := by
    rw [hl]
    exact ixo_lt hc
  unfold stp
  obtain ⟨r, hr⟩ : ∃ r, r = ws.getD s [] := ⟨_, rfl⟩
  rw [← hr] at hi ⊢
  rw [List.getElem?_map, List.getElem?_eq_getElem hi, List.getD_eq_getElem?_getD, List.getElem?_eq_getElem hi]
  rfl
theorem drop_at {row : Str} {i c : Nat} (h : row.cps[i]? = some c) : row.cps.toList.drop i = c :: row.cps.toList.drop (i + 1) ∧ c ∈ row.cps.toList := by
  rw [← Array.getElem?_toList] at h
  obtain ⟨hi, e⟩ := List.getElem?_eq_some_iff.mp h
  rw [List.drop_eq_getElem_cons hi, e]
  exact ⟨rfl, by rw [← e]; exact List.getElem_mem hi⟩
section
variable {P : Program} {w : World} {K : PySem.W.Frag} {mg : Str → Option Value} {base : Heap}
def spWalked (K : PySem.W.Frag) (C : Addr) : Sp := fun vs H Q _ => ∃ (p : Addr) (z : Str) (ws : List (List (Option Nat))) (f s : Nat) (row : Str), vs = [.ref p, .int (s : Int), .str row] ∧ MachAt K C H p z ws f ∧ WaysOk z.cps.size ws ∧ z ∈ L64 ∧ s < ws.length ∧ (∀ c ∈ row.cps.toList, c ∈ z.cps.toList) ∧
  Q (oW (wkL ws z (some s) row.cps.toList)) H
abbrev nWalked : List Str := ["machine", "state", "row", "letter"]
theorem scWalked : FnScope nWalked ["machine", "state", "row"] (defScope sWalked) := ⟨rfl, rfl, rfl, by decide +kernel, rfl, by decide +kernel, by decide +kernel⟩
theorem ok_Walked {f C : Addr} {fd : FuncData} (Fn : Fun K "walked" "walked" sWalked f fd) (T : Txt K mg) (Mt : McT K C) : FnOk P w K mg base CX0 1 f fd ["machine", "state", "row"] (spWalked K C) := by
  refine Fn.ok scWalked (fun vs H Q E h => ?_) (fun cdv A outer s H vs Q E hr h => ?_)
  · obtain ⟨p, z, ws, f, s, row, rfl, _⟩ := h
    rfl
  · obtain ⟨p, z, ws, f, s0, row, rfl, hM, hok, hz6, hs0, hrow, k⟩ := h
    refine ⟨_, (pss_cons (ps_for PassesOwn.never rfl (pi_str (pv 2)) (pg_name (i := 3) scWalked.nd rfl (by first | exact Or.inl rfl | exact Or.inr rfl)) (pss_cons (ps_set (i := 1) scWalked.nd rfl (by first | exact Or.inl rfl | exact Or.inr rfl) (pe_ix (ixT K) (pe_ix (ixT K) (peFld K (pv 0)) (pv 1) (fun _ _ => rfl)) (peBm K PySem.F.plainAttrs_str PySem.F.slot_str_index PySem.F.type_str_index mt_sindex (peFld K (pv 0)) (pa_cons (pv 3) pa_nil)) (fun _ _ => rfl)))
  (pss_one (ps_if (pt_cmpR opIsN (pv 1) pe_non (nomark _)) (pss_one (ps_ret pe_non)) pss_nil))))
  (pss_one (ps_ret (pv 1)))), ?_⟩
    obtain ⟨dx, wt, hp, hwt⟩ := hM.ob
    obtain ⟨xs, hx1, hx2, hx3⟩ := waysT_read hwt
    refine ⟨_, rfl, row, rfl, for_it walk_str (fun i σ G => G = H ∧ ∃ (s : Nat) (v3 : Option V), σ = [some (.ref p), some (.int (s : Int)), some (.str row), v3] ∧ s < ws.length ∧ wkL ws z (some s) (row.cps.toList.drop i) = wkL ws z (some s0) row.cps.toList)
      ⟨rfl, s0, none, rfl, hs0, rfl⟩ (fun _ _ _ _ _ => trivial) ?_ ?_⟩
    · rintro i x σ G G' hi ⟨rfl, s, v3, rfl, hs, hw⟩ ⟨rfl, c, hc, rfl⟩
      obtain ⟨hd, hcm⟩ := drop_at hc
      have hcz := hrow c hcm
      obtain ⟨rest, hoc⟩ := occL hz6 hcz
      obtain ⟨rt, hrt, hrs⟩ := hx3 s hs
      refine ⟨_, rfl, p, C, dx, _, _, rfl, hp, Mt.cl, Mt.n2, mfs_ways, _, rfl, wt, _, _, _, rfl, rfl, hx1, atI_nat hrt, _, rfl, p, C, dx, _, _, rfl, hp, Mt.cl, Mt.n1, mfs_letters, rfl, _, rfl, z, ⟨#[c]⟩, ixo z c, rest, rfl, rfl, hoc, rt, _, _, oW (stp ws z s c), rfl, rfl, hrs, atI_nat (row_at hok hs hcz), _, rfl, rfl, _, rfl, ?_⟩
      rw [hd] at hw
      cases e : stp ws z s c with
      | none =>
        refine iteT ?_
        have hw : wkL ws z (stp ws z s c) (row.cps.toList.drop (i + 1)) = _ := hw
        rw [e, wk_none] at hw
        rw [← hw] at k
        exact k
      | some t =>
        refine iteF ⟨rfl, t, _, rfl, stp_lt hok e, ?_⟩
        have hw : wkL ws z (stp ws z s c) (row.cps.toList.drop (i + 1)) = _ := hw
        rw [e] at hw
        exact hw
    · rintro σ G ⟨rfl, s, v3, rfl, hs, hw⟩
      rw [List.drop_of_length_le (by simp)] at hw
      refine ⟨_, rfl, ?_⟩
      rw [← hw] at k
      exact k
end
end My
set_option Elab.async false
set_option linter.all false
set_option autoImplicit false
set_option maxRecDepth 100000
set_option maxHeartbeats 4000000
namespace My
open PySem PySem.Spec PyProof.Rows L2 Evl
open PySem.OneX (OneTxt Tail tail_ex exTail)
/-- what is wrong with a value as a row -/
def rowFault (z : Str) : PyData → Option Int
  | .str y => match y.cps.toList.findIdx? (fun c => !decide (c ∈ z.cps.toList)) with
    | some i => some (i : Int)
    | none => if y.cps.size ≤ 200 then none else some 200
  | _ => some (-1)
section
variable {P : Program} {w : World} {K : PySem.W.Frag} {mg : Str → Option Value} {base : Heap}
def spNeedRow (K : PySem.W.Frag) (CB : Addr) : Sp := fun vs H Q E => ∃ (v : V) (d : PyData) (z : Str), vs = [.str z, v] ∧ Dp K H v d ∧ shortD d ∧
  ((rowFault z d = none ∧ ∀ H', Ex H H' → Q .non H') ∨ ∃ i, rowFault z d = some i ∧ Raises CB H E (.int i))
abbrev nNeedRow : List Str := ["letters", "value", "at", "sign"]
theorem scNeedRow : FnScope nNeedRow ["letters", "value"] (defScope sNeedRow) := ⟨rfl, rfl, rfl, by decide +kernel, rfl, by decide +kernel, by decide +kernel⟩
theorem ok_NeedRow {f CB fI : Addr} {fd : FuncData} (Fn : Fun K "need_row" "need_row" sNeedRow f fd) (T : Txt K mg) (TR : PySem.OneX.OneTxt K mg "BadRow" exTail "Exception.__new__" CB fI) (Os : Own P w K mg base "is_sign" 1 ["value", "signs"] (spIsSign K)) : FnOk P w K mg base (L2.CX P w) 4 f fd ["letters", "value"] (spNeedRow K CB) := by
  refine Fn.okX scNeedRow (fun vs H Q E h => ?_) (fun cdv A outer s H vs Q E hr h => ?_)
  · obtain ⟨v, d, z, rfl, _⟩ := h
    rfl
  · obtain ⟨v, d, z, rfl, hv, hs, k⟩ := h
    refine ⟨_, (pss_cons (ps_if (pt_not (pt_val (pe_callB (crIsi K) (by rfl) T.b_isinstance (by decide +kernel) (pa_cons (pv 1) (pa_cons (pe_bltn (v := .ty "str") (by rfl) T.b_str (by decide +kernel) rfl) pa_nil))))) (pss_one (ps_raiseAt rfl TR tail_ex PySem.F.excBase_Exception hr (takes_of rfl rfl rfl rfl) (pa_cons (pe_un un_neg pe_int) pa_nil))) pss_nil)
  (pss_cons (ps_for (passes_of rfl) rfl (pi_enumS (by rfl) T.b_enumerate (pa_cons (pv 1) pa_nil)) (pgT K (n := 2) (by rfl) (pgs_cons (pg_name (i := 2) scNeedRow.nd rfl (by first | exact Or.inl rfl | exact Or.inr rfl)) (pgs_cons (pg_name (i := 3) scNeedRow.nd rfl (by first | exact Or.inl rfl | exact Or.inr rfl)) pgs_nil))) (pss_one (ps_if (pt_not (pt_val (pe_call Os.G (hr.mono (by decide)) rfl Os.m Os.kp Os.b .nil pass0 (pa_cons (pv 3) (pa_cons (pv 0) pa_nil))))) (pss_one (ps_raiseAt rfl TR tail_ex PySem.F.excBase_Exception hr (takes_of rfl rfl rfl rfl) (pa_cons (pv 2) pa_nil))) pss_nil)))
  (pss_one (ps_if (pt_cmpR op_gt (pe_callB call_len_str (by rfl) T.b_len PySem.boot_len (pa_cons (pv 1) pa_nil)) (C8.pe_gc (by rfl) T.g_MOST_LETTERS) (nomark _)) (pss_one (ps_raiseAt rfl TR tail_ex PySem.F.excBase_Exception hr (takes_of rfl rfl rfl rfl) (pa_cons (C8.pe_gc (by rfl) T.g_MOST_LETTERS) pa_nil))) pss_nil)))), ?_⟩
    have mem : ∀ {row : Str} {j d : Nat}, row.cps[j]? = some d → row.cps.toList[j]? = some d := fun {row j d} h => by
      rw [← Array.getElem?_toList] at h
      exact h
    have ty := ty_dp hv
    by_cases hstr : ∃ row, d = .str row
    · obtain ⟨row, rfl⟩ := hstr
      have ev : v = .str row := by
        cases hv
        rfl
      subst ev
      have hs : row.cps.size ≤ 100000 := hs
      refine ⟨_, rfl, _, _, _, _, _, rfl, .ty "str", ty, kit_str K _, true, rfl, iteF ?_⟩
      cases ef : row.cps.toList.findIdx? (fun c => !decide (c ∈ z.cps.toList)) with
      | none =>
        have hall : ∀ c ∈ row.cps.toList, c ∈ z.cps.toList := fun c hc => by
          have := List.findIdx?_eq_none_iff.mp ef c hc
          simpa using this
        have rf : rowFault z (.str row) = if row.cps.size ≤ 200 then none else some 200 := by
          show (match row.cps.toList.findIdx? (fun c => !decide (c ∈ z.cps.toList)) with
            | some i => some (i : Int)
            | none => if row.cps.size ≤ 200 then none else some 200) = _
          rw [ef]
        refine ⟨_, rfl, row, rfl, for_it (walk_enumS (z := row)) (fun i σ G => Ex H G ∧ ∃ v2 v3 : Option V, σ = [some (.str z), some (.str row), v2, v3]) ⟨Ex.refl _, none, none, rfl⟩ (fun _ _ _ _ _ => trivial) ?_ ?_⟩
        · rintro i x σ G G1 hi ⟨eG, v2, v3, rfl⟩ ⟨T0, c, rfl, hT0, rfl, hc⟩
          refine ⟨T0, _, rfl, SqT.of upd_same, rfl, _, _, rfl, _, _, rfl, rfl, ?_⟩
          refine ⟨_, rfl, _, rfl, _, .str ⟨#[c]⟩, z, rfl, .str _, (by show 1 ≤ 100000; decide), _, rfl, iteF1 ?_ ?_⟩
          · show (!decide (c ∈ z.cps.toList)) = false
            rw [decide_eq_true (hall c (List.mem_of_getElem? (mem hc)))]
            rfl
          · exact ⟨eG.trans (Ex.new hT0), _, _, rfl⟩
        · rintro σ G ⟨eG, v2, v3, rfl⟩
          refine ⟨_, rfl, row, rfl, (by show row.cps.size ≤ sizeLine; rw [sizeLine_eq]; omega), _, _, rfl, rfl, _, rfl, ?_⟩
          by_cases hl : row.cps.size ≤ 200
          · refine iteF1 (decide_eq_false (by show ¬ ((200 : Int) < (row.cps.size : Int)); omega)) ?_
            rcases k with ⟨_, k⟩ | ⟨i, e, _⟩
            · exact k _ eG
            · rw [rf, if_pos hl] at e
              cases e
          · refine iteT1 (decide_eq_true (by show (200 : Int) < (row.cps.size : Int); omega)) ?_
            rcases k with ⟨e, _⟩ | ⟨i, e, k⟩
            · rw [rf, if_neg hl] at e
              cases e
            · rw [rf, if_neg hl] at e
              cases e
              exact ⟨_, rfl, fun d hd => k _ d eG hd⟩
      | some i0 =>
        obtain ⟨hlt, hbad, hbefore⟩ := List.findIdx?_eq_some_iff_getElem.mp ef
        have rf : rowFault z (.str row) = some (i0 : Int) := by
          show (match row.cps.toList.findIdx? (fun c => !decide (c ∈ z.cps.toList)) with
            | some i => some (i : Int)
            | none => if row.cps.size ≤ 200 then none else some 200) = _
          rw [ef]
        have k' : Raises CB H E (.int (i0 : Int)) := by
          rcases k with ⟨e, _⟩ | ⟨i, e, k⟩
          · rw [rf] at e
            cases e
          · rw [rf] at e
            cases e
            exact k
        have hsz : row.cps.toList.length = row.cps.size := Array.length_toList
        refine ⟨_, rfl, row, rfl, for_it (walk_enumS (z := row)) (fun j σ G => Ex H G ∧ j ≤ i0 ∧ ∃ v2 v3 : Option V, σ = [some (.str z), some (.str row), v2, v3]) ⟨Ex.refl _, Nat.zero_le _, none, none, rfl⟩ (fun _ _ _ _ _ => trivial) ?_ ?_⟩
        · rintro j x σ G G1 hj ⟨eG, hji, v2, v3, rfl⟩ ⟨T0, c, rfl, hT0, rfl, hc⟩
          refine ⟨T0, _, rfl, SqT.of upd_same, rfl, _, _, rfl, _, _, rfl, rfl, ?_⟩
          have hc' := mem hc
          obtain ⟨hj2, ej⟩ := List.getElem?_eq_some_iff.mp hc'
          refine ⟨_, rfl, _, rfl, _, .str ⟨#[c]⟩, z, rfl, .str _, (by show 1 ≤ 100000; decide), _, rfl, ?_⟩
          rcases Nat.lt_or_ge j i0 with q | q
          · refine iteF1 ?_ ⟨eG.trans (Ex.new hT0), q, _, _, rfl⟩
            have := hbefore j q
            rw [ej] at this
            show (!decide (c ∈ z.cps.toList)) = false
            simpa using this
          · have e : j = i0 := by omega
            subst e
            refine iteT1 ?_ ⟨_, rfl, _, rfl, fun d hd => k' _ d (eG.trans (Ex.new hT0)) hd⟩
            rw [ej] at hbad
            exact hbad
        · rintro σ G ⟨eG, hji, v2, v3, rfl⟩
          omega
    · have k' : Raises CB H E (.int (-1)) := by
        have rf : rowFault z d = some (-1) := by
          cases d <;> first | rfl | exact (hstr ⟨_, rfl⟩).elim
        rcases k with ⟨e, _⟩ | ⟨i, e, k⟩
        · rw [rf] at e
          cases e
        · rw [rf] at e
          cases e
          exact k
      refine ⟨_, rfl, _, _, _, _, _, rfl, .ty "str", ty, kit_str K _, false, ?_, iteT ⟨1, rfl, _, rfl, fun d hd => k' _ d (Ex.refl _) hd⟩⟩
      cases d <;> first | rfl | exact (hstr ⟨_, rfl⟩).elim
/-- len(machine) -/
def spLen (K : PySem.W.Frag) (C : Addr) : Sp := fun vs H Q _ => ∃ (p : Addr) (z : Str) (ws : List (List (Option Nat))) (f : Nat), vs = [.ref p] ∧ MachAt K C H p z ws f ∧ Q (.int ((ws.length : Nat) : Int)) H
abbrev nLen : List Str := ["self"]
theorem scLen : FnScope nLen ["self"] (defScope sLen) := ⟨rfl, rfl, rfl, by decide +kernel, rfl, by decide +kernel, by decide +kernel⟩
theorem ok_Len {f C : Addr} {fd : FuncData} (Fn : Fun K "__len__" "Machine.__len__" sLen f fd) (T : Txt K mg) (Mt : McT K C) : FnOk P w K mg base CX0 1 f fd ["self"] (spLen K C) := by
  refine Fn.ok scLen (fun vs H Q E h => ?_) (fun cdv A outer s H vs Q E hr h => ?_)
  · obtain ⟨p, z, ws, f, rfl, _⟩ := h
    rfl
  · obtain ⟨p, z, ws, f, rfl, hM, k⟩ := h
    obtain ⟨dx, wt, hp, hwt⟩ := hM.ob
    obtain ⟨xs, hx1, hx2, hx3⟩ := waysT_read hwt
    refine ⟨_, (pss_one (ps_ret (pe_callB (crLen K) (by rfl) T.b_len PySem.boot_len (pa_cons (peFld K (pv 0)) pa_nil)))), ?_⟩
    refine ⟨_, rfl, p, C, dx, _, _, rfl, hp, Mt.cl, Mt.n2, mfs_ways, wt, xs, rfl, .inr hx1, ?_⟩
    rw [hx2]
    exact k
theorem eqv_oN : ∀ a b : Option Nat, PyData.eqv (oN a) (oN b) = decide (a = b)
  | none, none => rfl
  | none, some _ => rfl
  | some _, none => rfl
  | some i, some j => by
    show decide (((i : Nat) : Int) = ((j : Nat) : Int)) = _
    by_cases h : i = j
    · subst h
      rw [decide_eq_true rfl, decide_eq_true rfl]
    · rw [decide_eq_false (by omega), decide_eq_false (fun q => h (by injection q))]
end
end My
set_option Elab.async false
set_option linter.all false
set_option autoImplicit false
set_option maxRecDepth 100000
set_option maxHeartbeats 4000000
namespace My
open PySem PySem.Spec PyProof.Rows L2 Evl
open PySem.OneX (OneTxt Tail tail_ex exTail)
open PySem.OneXL (keyTail tail_key line_key)
theorem eqv_rowT (a b : List (Option Nat)) : PyData.eqv (rowT a) (rowT b) = decide (a = b) := eqvAll_of eqv_oN a b
theorem eqv_waysT (a b : List (List (Option Nat))) : PyData.eqv (waysT a) (waysT b) = decide (a = b) := eqvAll_of eqv_rowT a b
theorem sh_oN (o : Option Nat) : Sh 0 (oN o) := by
  cases o with
  | none => exact sh_non
  | some i => exact sh_int _
theorem sh_rowT (r : List (Option Nat)) : Sh 1 (rowT r) := sh_tup fun d hd => by
  obtain ⟨o, _, rfl⟩ := List.mem_map.mp hd
  exact sh_oN o
theorem sh_waysT (ws : List (List (Option Nat))) : Sh 2 (waysT ws) := sh_tup fun d hd => by
  obtain ⟨o, _, rfl⟩ := List.mem_map.mp hd
  exact sh_rowT o
abbrev kMI : List (Str × V) := [("first", .int 0)]
def gMK {α : Type} (us mv ws : List α) : List α := match us, ws with
  | [s, l, wa], [f] => [s, l, wa, f]
  | _, _ => []
theorem mi_kbinds {K : PySem.W.Frag} {f : Addr} {fd : FuncData} (F : FunD K "__init__" "Machine.__init__" (defArgs sMI) (defBody sMI) (defScope sMI) [] kMI f fd) : ∃ mv : List Value, KBn K fd ["self", "letters", "ways", "first"] 3 ["first"] (fun us ws => gMK us mv ws) (fun vs zs => gMK vs [] zs) := by
  refine F.kbinds0 (ps := ["self", "letters", "ways", "first"]) 3 ["first"] [] (fun {α} => gMK) (by simp) (by simp) (fun {vs mz zs us mv ws} r1 r2 r3 => ?_) fun D doc pm an cdv ct us mv ws hu hm hw => ?_
  · unfold gMK
    cases r1 with
    | nil => exact .nil
    | cons a r1 => cases r1 with
      | nil => exact .nil
      | cons b r1 => cases r1 with
        | nil => exact .nil
        | cons c r1 => cases r1 with
          | cons _ _ => exact .nil
          | nil => cases r3 with
            | nil => exact .nil
            | cons d r3 => cases r3 with
              | nil => exact .cons a (.cons b (.cons c (.cons d .nil)))
              | cons _ _ => exact .nil
  · match us, hu, mv, hm, ws, hw with
    | [a, b, c], _, [], _, [d], _ => rfl
/-- what isinstance asks of the machine's class -/
structure InsT (K : PySem.W.Frag) (C : Addr) : Prop where
  ha : PySem.W.findIn K (.ref C) "__class__" = some (some (.builtin "object.__class__"))
  hn : PySem.W.specialIn K (.builtin "object.__class__") "__get__" = some (some (.builtin "getset_descriptor.__get__"))
  htk : PySem.W.takesIn K (.builtin "object.__class__") = some true
  hm : PySem.W.mroIn K C (.type "object") = some true
  me : PySem.W.kitOne K (.ref C) (.ref C) = some true
  tu : PySem.W.kitOne K (.type "tuple") (.ref C) = some false
section
variable {P : Program} {w : World} {K : PySem.W.Frag} {mg : Str → Option Value} {base : Heap}
/-- one machine == another one, or a tuple -/
def spMEq (K : PySem.W.Frag) (C : Addr) : Sp := fun vs H Q _ => ∃ (p : Addr) (y : V) (z : Str) (ws : List (List (Option Nat))) (f : Nat), vs = [.ref p, y] ∧ MachAt K C H p z ws f ∧
  ((∃ (p2 : Addr) (z2 : Str) (ws2 : List (List (Option Nat))) (f2 : Nat), y = .ref p2 ∧ MachAt K C H p2 z2 ws2 f2 ∧ Q (.bl (decide (z = z2) && decide (ws = ws2) && decide (f = f2))) H) ∨
   ∃ b ys, y = .ref b ∧ H b = some (.tup ys) ∧ Q (.bl false) H)
abbrev nEq : List Str := ["self", "other"]
theorem scEq : FnScope nEq ["self", "other"] (defScope sEq) := ⟨rfl, rfl, rfl, by decide +kernel, rfl, by decide +kernel, by decide +kernel⟩
theorem ok_Eq {f C : Addr} {fd : FuncData} (Fn : Fun K "__eq__" "Machine.__eq__" sEq f fd) (T : Txt K mg) (Mt : McT K C) (It : InsT K C) (gC : mg "Machine" = some (.ref C)) : FnOk P w K mg base CX0 1 f fd ["self", "other"] (spMEq K C) := by
  refine Fn.ok scEq (fun vs H Q E h => ?_) (fun cdv A outer s H vs Q E hr h => ?_)
  · obtain ⟨p, y, z, ws, f, rfl, _⟩ := h
    rfl
  · obtain ⟨p, y, z, ws, f, rfl, hM, k⟩ := h
    obtain ⟨dx, wt, hp, hwt⟩ := hM.ob
    refine ⟨_, (pss_one (ps_ret (pe_and (pe_callB (crIsi K) (by rfl) T.b_isinstance (by decide +kernel) (pa_cons (pv 1) (pa_cons (C8.pe_gc (v := .ref C) (by rfl) ⟨_, gC, rfl⟩) pa_nil))) (pe_and (pe_cmpR op_eq (peFld K (pv 0)) (peFld K (pv 1)) (nomark _)) (pe_and (pe_cmpR (opEqD K (hu64 hr)) (peFld K (pv 0)) (peFld K (pv 1)) (nomark _)) (pe_one (pe_cmpR op_eq (peFld K (pv 0)) (peFld K (pv 1)) (nomark _)))))))), ?_⟩
    rcases k with ⟨p2, z2, ws2, f2, rfl, hM2, k⟩ | ⟨b, ys, rfl, hb, k⟩
    · obtain ⟨dx2, wt2, hp2, hwt2⟩ := hM2.ob
      refine ⟨_, rfl, _, _, _, _, _, rfl, .own C, .base (.ins hp2 Mt.cl It.ha It.hn It.htk It.hm), It.me, true, rfl, iteT ?_⟩
      refine ⟨_, rfl, p, C, dx, _, _, rfl, hp, Mt.cl, Mt.n1, mfs_letters, _, rfl, p2, C, dx2, _, _, rfl, hp2, Mt.cl, Mt.n1, mfs_letters, rfl, _, rfl, ?_⟩
      have ez : decide (V.str z = V.str z2) = decide (z = z2) := by
        by_cases h : z = z2
        · rw [h, decide_eq_true rfl, decide_eq_true rfl]
        · rw [decide_eq_false h, decide_eq_false (fun q => h (by injection q))]
      rw [ez]
      cases e1 : decide (z = z2) with
      | false =>
        rw [e1, Bool.false_and, Bool.false_and] at k
        exact iteF k
      | true =>
        rw [e1, Bool.true_and] at k
        refine iteT ⟨_, rfl, p, C, dx, _, _, rfl, hp, Mt.cl, Mt.n2, mfs_ways, _, rfl, p2, C, dx2, _, _, rfl, hp2, Mt.cl, Mt.n2, mfs_ways, _, _, hwt, hwt2, (sh_waysT ws).shaped (by decide), (sh_waysT ws2).shaped (by decide), _, rfl, ?_⟩
        rw [eqv_waysT]
        cases e2 : decide (ws = ws2) with
        | false =>
          rw [e2, Bool.false_and] at k
          exact iteF k
        | true =>
          rw [e2, Bool.true_and] at k
          refine iteT ⟨_, rfl, p, C, dx, _, _, rfl, hp, Mt.cl, Mt.n3, mfs_first, _, rfl, p2, C, dx2, _, _, rfl, hp2, Mt.cl, Mt.n3, mfs_first, rfl, ?_⟩
          have ef : decide (V.int (f : Int) = V.int (f2 : Int)) = decide (f = f2) := by
            by_cases h : f = f2
            · rw [h, decide_eq_true rfl, decide_eq_true rfl]
            · rw [decide_eq_false h, decide_eq_false (fun q => h (by injection q with q; omega))]
          rw [ef]
          exact k
    · exact ⟨_, rfl, _, _, _, _, _, rfl, .own C, .base (.tup hb), It.tu, false, rfl, iteF k⟩
/-- a state that is none is refused -/
def spNeedSt (K : PySem.W.Frag) (C CF : Addr) : Sp := fun vs H Q E => ∃ (p : Addr) (v : V) (d : PyData) (z : Str) (ws : List (List (Option Nat))) (f : Nat), vs = [.ref p, v] ∧ MachAt K C H p z ws f ∧ Dp K H v d ∧
  ((belowD d ((ws.length : Nat) : Int) = true ∧ Q .non H) ∨ (belowD d ((ws.length : Nat) : Int) = false ∧ Raises CF H E v))
abbrev nNeedSt : List Str := ["self", "value"]
theorem scNeedSt : FnScope nNeedSt ["self", "value"] (defScope sNeedSt) := ⟨rfl, rfl, rfl, by decide +kernel, rfl, by decide +kernel, by decide +kernel⟩
theorem ok_NeedSt {f C CF fI : Addr} {fd : FuncData} (Fn : Fun K "_need_state" "Machine._need_state" sNeedSt f fd) (T : Txt K mg) (Mt : McT K C) (TF : OneTxt K mg "Refused" exTail "Exception.__new__" CF fI) (Ob : Own P w K mg base "is_number_below" 3 ["value", "bound"] (spIsBelow K)) : FnOk P w K mg base (L2.CX P w) 4 f fd ["self", "value"] (spNeedSt K C CF) := by
  refine Fn.okX scNeedSt (fun vs H Q E h => ?_) (fun cdv A outer s H vs Q E hr h => ?_)
  · obtain ⟨p, v, d, z, ws, f, rfl, _⟩ := h
    rfl
  · obtain ⟨p, v, d, z, ws, f, rfl, hM, hv, k⟩ := h
    obtain ⟨dx, wt, hp, hwt⟩ := hM.ob
    obtain ⟨xs, hx1, hx2, hx3⟩ := waysT_read hwt
    refine ⟨_, (pss_one (ps_if (pt_not (pt_val (pe_call Ob.G (hr.mono (by decide)) rfl Ob.m Ob.kp Ob.b .nil pass0 (pa_cons (pv 1) (pa_cons (pe_callB (crLen K) (by rfl) T.b_len PySem.boot_len (pa_cons (peFld K (pv 0)) pa_nil)) pa_nil))))) (pss_one (ps_raiseAt rfl TF tail_ex PySem.F.excBase_Exception hr (takes_of rfl rfl rfl rfl) (pa_cons (pv 1) pa_nil))) pss_nil)), ?_⟩
    refine ⟨_, rfl, _, rfl, p, C, dx, _, _, rfl, hp, Mt.cl, Mt.n2, mfs_ways, wt, xs, rfl, .inr hx1, v, d, _, rfl, hv, _, rfl, ?_⟩
    rw [hx2]
    rcases k with ⟨e, k⟩ | ⟨e, k⟩
    · rw [e]
      exact iteF k
    · rw [e]
      exact iteT ⟨_, rfl, _, rfl, fun d hd => k _ d (Ex.refl _) hd⟩
/-- the other class's own error, with v at «letter» -/
abbrev RaisesL (CL : Addr) (H : Hp) (E : XK) (v : V) : Prop := ∀ H' d, Ex H H' → H' d = none → E (.ref CL) (some d) (upd H' d (.xd [(("letter" : Str), v)]))
def spStep (K : PySem.W.Frag) (C CF CL : Addr) : Sp := fun vs H Q E => ∃ (p : Addr) (v u : V) (d e : PyData) (z : Str) (ws : List (List (Option Nat))) (f : Nat), vs = [.ref p, v, u] ∧ MachAt K C H p z ws f ∧ WaysOk z.cps.size ws ∧ z ∈ L64 ∧ Dp K H v d ∧ Dp K H u e ∧ shortD e ∧
  ((belowD d ((ws.length : Nat) : Int) = false ∧ Raises CF H E v) ∨
   ∃ s : Nat, d = .int (s : Int) ∧ s < ws.length ∧ ((signD z e = false ∧ RaisesL CL H E u) ∨ ∃ c, e = .str ⟨#[c]⟩ ∧ c ∈ z.cps.toList ∧ Q (oW (stp ws z s c)) H))
abbrev nStep : List Str := ["self", "state", "letter"]
theorem scStep : FnScope nStep ["self", "state", "letter"] (defScope sStep) := ⟨rfl, rfl, rfl, by decide +kernel, rfl, by decide +kernel, by decide +kernel⟩
theorem ok_Step {f C CF CL fI : Addr} {fd : FuncData} (Fn : Fun K "step" "Machine.step" sStep f fd) (T : Txt K mg) (Mt : McT K C) (TL : PySem.OneXL.OneTxt K mg "NoLetter" keyTail "LookupError.__new__" CL fI) (Os : Own P w K mg base "is_sign" 1 ["value", "signs"] (spIsSign K)) (Ons : OwnMX P w K mg base C "_need_state" 4 ["self", "value"] (spNeedSt K C CF)) :
    FnOk P w K mg base (L2.CX P w) 5 f fd ["self", "state", "letter"] (spStep K C CF CL) := by
  refine Fn.okX scStep (fun vs H Q E h => ?_) (fun cdv A outer s H vs Q E hr h => ?_)
  · obtain ⟨p, v, u, d, e, z, ws, f, rfl, _⟩ := h
    rfl
  · obtain ⟨p, v, u, d, e, z, ws, f, rfl, hM, hok, hz6, hv, hu', hs, k⟩ := h
    obtain ⟨dx, wt, hp, hwt⟩ := hM.ob
    obtain ⟨xs, hx1, hx2, hx3⟩ := waysT_read hwt
    refine ⟨_, (pss_cons (ps_expr (pe_meth (k := 4) (pv 0) Ons.c Ons.mt Ons.G hr Ons.b .nil (passes_call (takes_of rfl rfl rfl rfl) (fun _ _ _ _ h => h)) (pa_cons (pv 1) pa_nil)))
  (pss_cons (ps_if (pt_not (pt_val (pe_call Os.G (hr.mono (by decide)) rfl Os.m Os.kp Os.b .nil pass0 (pa_cons (pv 2) (pa_cons (peFld K (pv 0)) pa_nil))))) (pss_one (ps_raiseAtL rfl TL tail_key PySem.F.excBase_LookupError line_key hr (takes_of rfl rfl rfl rfl) (pa_cons (pv 2) pa_nil))) pss_nil)
  (pss_one (ps_ret (pe_ix (ixT K) (pe_ix (ixT K) (peFld K (pv 0)) (pv 1) (fun _ _ => rfl)) (peBm K PySem.F.plainAttrs_str PySem.F.slot_str_index PySem.F.type_str_index mt_sindex (peFld K (pv 0)) (pa_cons (pv 2) pa_nil)) (fun _ _ => rfl)))))), ?_⟩
    refine ⟨_, rfl, p, dx, _, rfl, hp, mfs_none (by decide +kernel), _, rfl, p, v, d, z, ws, f, rfl, hM, hv, ?_⟩
    rcases k with ⟨e1, k⟩ | ⟨s, rfl, hs1, k⟩
    · exact .inr ⟨e1, k⟩
    have bt : belowD (.int (s : Int)) ((ws.length : Nat) : Int) = true := by
      show (decide ((0 : Int) ≤ (s : Int)) && decide ((s : Int) < ((ws.length : Nat) : Int))) = true
      rw [decide_eq_true (by omega), decide_eq_true (by omega)]
      rfl
    have ev : v = .int (s : Int) := dp_int hv
    subst ev
    refine .inl ⟨bt, _, rfl, _, rfl, p, C, dx, _, _, rfl, hp, Mt.cl, Mt.n1, mfs_letters, u, e, z, rfl, hu', hs, _, rfl, ?_⟩
    rcases k with ⟨e1, k⟩ | ⟨c, rfl, hc, k⟩
    · rw [e1]
      exact iteT ⟨_, rfl, _, rfl, fun d hd => k _ d (Ex.refl _) hd⟩
    have eu : u = .str ⟨#[c]⟩ := by
      cases hu'
      rfl
    subst eu
    have sg : signD z (.str ⟨#[c]⟩) = true := decide_eq_true hc
    rw [sg]
    obtain ⟨rest, hoc⟩ := occL hz6 hc
    obtain ⟨rt, hrt, hrs⟩ := hx3 s hs1
    exact iteF ⟨_, rfl, p, C, dx, _, _, rfl, hp, Mt.cl, Mt.n2, mfs_ways, _, rfl, wt, _, _, _, rfl, rfl, hx1, atI_nat hrt, _, rfl, p, C, dx, _, _, rfl, hp, Mt.cl, Mt.n1, mfs_letters, rfl, _, rfl, z, ⟨#[c]⟩, ixo z c, rest, rfl, rfl, hoc, rt, _, _, oW (stp ws z s c), rfl, rfl, hrs, atI_nat (row_at hok hs1 hc), k⟩
/-- started -/
def spStarted (K : PySem.W.Frag) (C CF : Addr) : Sp := fun vs H Q E => ∃ (p : Addr) (v : V) (d : PyData) (z : Str) (ws : List (List (Option Nat))) (f : Nat), vs = [.ref p, v] ∧ MachAt K C H p z ws f ∧ WaysOk z.cps.size ws ∧ z ∈ L64 ∧ 1 ≤ ws.length ∧ ws.length ≤ 2000 ∧ Dp K H v d ∧
  ((belowD d ((ws.length : Nat) : Int) = false ∧ Raises CF H E v) ∨
   ∃ s : Nat, d = .int (s : Int) ∧ s < ws.length ∧ ∀ mx H', Ex H H' → MachAt K C H' mx z ws s → Q (.ref mx) H')
abbrev nStarted : List Str := ["self", "state"]
theorem scStarted : FnScope nStarted ["self", "state"] (defScope sStarted) := ⟨rfl, rfl, rfl, by decide +kernel, rfl, by decide +kernel, by decide +kernel⟩
theorem rowO_rowT (r : List (Option Nat)) : rowO (rowT r) = r := by
  show (r.map oN).map stepO = r
  rw [List.map_map]
  have : ∀ o : Option Nat, (stepO ∘ oN) o = o := fun o => by
    cases o with
    | none => rfl
    | some i =>
      show some ((i : Int).toNat) = some i
      congr 1
  rw [show (stepO ∘ oN) = id from funext this, List.map_id]
theorem rows_rowT (ws : List (List (Option Nat))) : (ws.map rowT).map rowO = ws := by
  rw [List.map_map, show (rowO ∘ rowT) = id from funext rowO_rowT, List.map_id]
theorem stepOk_oN {n : Nat} {o : Option Nat} (h : ∀ s, o = some s → s < n) : stepOkD n (oN o) = true := by
  cases o with
  | none => rfl
  | some i =>
    have := h i rfl
    show (decide ((0 : Int) ≤ (i : Int)) && decide ((i : Int) < (n : Int))) = true
    rw [decide_eq_true (by omega), decide_eq_true (by omega)]
    rfl
theorem rowOk_seq {m n : Nat} {d : PyData} {r : List (Option Nat)} (e : seqD d = some (r.map oN)) (hl : r.length = m) (h : ∀ s, some s ∈ r → s < n) : rowOkD m n d = true := by
  unfold rowOkD
  rw [e]
  show (decide ((r.map oN).length = m) && (r.map oN).all (stepOkD n)) = true
  rw [List.length_map, decide_eq_true hl, Bool.true_and, List.all_map, List.all_eq_true]
  intro o ho
  exact stepOk_oN fun s q => h s (q ▸ ho)
theorem ok_Started {f C CB CF fI0 : Addr} {fd fdI : FuncData} (Fn : Fun K "started" "Machine.started" sStarted f fd) (T : Txt K mg) (Mt : McT K C) (M : Mk K C fI0) (gC : mg "Machine" = some (.ref C)) (GI : FnOk P w K mg base (L2.CX P w) 4 fI0 fdI ["self", "letters", "ways", "first"] (spMI K C CB)) (FI : FunD K "__init__" "Machine.__init__" (defArgs sMI) (defBody sMI) (defScope sMI) [] kMI fI0 fdI)
    (Ons : OwnMX P w K mg base C "_need_state" 4 ["self", "value"] (spNeedSt K C CF)) : FnOk P w K mg base (L2.CX P w) 6 f fd ["self", "state"] (spStarted K C CF) := by
  obtain ⟨mv, kI⟩ := mi_kbinds FI
  refine Fn.okX scStarted (fun vs H Q E h => ?_) (fun cdv A outer s H vs Q E hr h => ?_)
  · obtain ⟨p, v, d, z, ws, f, rfl, _⟩ := h
    rfl
  · obtain ⟨p, v, d, z, ws, f, rfl, hM, hok, hz6, n1, n2, hv, k⟩ := h
    obtain ⟨dx, wt, hp, hwt⟩ := hM.ob
    refine ⟨_, (pss_cons (ps_expr (pe_meth (k := 4) (pv 0) Ons.c Ons.mt Ons.G (hr.mono (by decide)) Ons.b .nil (passes_call (takes_of rfl rfl rfl rfl) (fun _ _ _ _ h => h)) (pa_cons (pv 1) pa_nil)))
  (pss_one (ps_ret (pe_makeK M GI (hr.mono (by decide)) rfl gC kI (passes_call (takes_of rfl rfl rfl rfl) (fun _ _ _ _ h => h)) (pa_cons (peFld K (pv 0)) (pa_cons (peFld K (pv 0)) pa_nil)) (pk_cons (pv 1) pk_nil))))), ?_⟩
    refine ⟨_, rfl, p, dx, _, rfl, hp, mfs_none (by decide +kernel), _, rfl, p, v, d, z, ws, f, rfl, hM, hv, ?_⟩
    rcases k with ⟨e1, k⟩ | ⟨s, rfl, hs1, k⟩
    · exact .inr ⟨e1, k⟩
    have bt : belowD (.int (s : Int)) ((ws.length : Nat) : Int) = true := by
      show (decide ((0 : Int) ≤ (s : Int)) && decide ((s : Int) < ((ws.length : Nat) : Int))) = true
      rw [decide_eq_true (by omega), decide_eq_true (by omega)]
      rfl
    have ev : v = .int (s : Int) := dp_int hv
    subst ev
    refine .inl ⟨bt, _, rfl, p, C, dx, _, _, rfl, hp, Mt.cl, Mt.n1, mfs_letters, _, rfl, p, C, dx, _, _, rfl, hp, Mt.cl, Mt.n2, mfs_ways, _, rfl, rfl, rfl, fun mx dx2 hmx hdx2 ndx2 => ?_⟩
    have em : Ex H (upd (upd H dx2 (.own mx)) mx (.ins C dx2 [])) := (Ex.new hdx2).trans (Ex.new (by rw [upd_ne ndx2.symm]; exact hmx))
    refine ⟨mx, dx2, _, _, _, .str z, waysT ws, .int (s : Int), rfl, upd_same, .str z, dp_ex em hwt, .int _, .inr ⟨z, rfl, subw_self hz6, .inr ⟨ws.map rowT, rfl, by rw [List.length_map]; exact n1, by rw [List.length_map]; exact n2, .inr ⟨fun r hr => ?_, .inr ⟨s, rfl, by rw [List.length_map]; exact hs1, fun H3 eB hM3 => ⟨rfl, ?_⟩⟩⟩⟩⟩⟩
    · obtain ⟨r0, hr0, rfl⟩ := List.mem_map.mp hr
      rw [List.length_map]
      exact rowOk_seq (r := r0) rfl (hok.len r0 hr0) (hok.lt r0 hr0)
    · rw [rows_rowT] at hM3
      exact k mx H3 (fun c o q => eB c o (em c o q) (ne_of_none q hmx)) hM3
theorem rowFault_none {z row : Str} (h : rowFault z (.str row) = none) : (∀ c ∈ row.cps.toList, c ∈ z.cps.toList) ∧ row.cps.size ≤ 200 := by
  have h : (match row.cps.toList.findIdx? (fun c => !decide (c ∈ z.cps.toList)) with
    | some i => some (i : Int)
    | none => if row.cps.size ≤ 200 then none else some 200) = none := h
  cases e : row.cps.toList.findIdx? (fun c => !decide (c ∈ z.cps.toList)) with
  | some i =>
    rw [e] at h
    cases h
  | none =>
    rw [e] at h
    refine ⟨fun c hc => ?_, ?_⟩
    · have := List.findIdx?_eq_none_iff.mp e c hc
      simpa using this
    · have h : (if row.cps.size ≤ 200 then (none : Option Int) else some 200) = none := h
      by_cases q : row.cps.size ≤ 200
      · exact q
      · rw [if_neg q] at h
        cases h
def spAfter (K : PySem.W.Frag) (C CB : Addr) : Sp := fun vs H Q E => ∃ (p : Addr) (v : V) (d : PyData) (z : Str) (ws : List (List (Option Nat))) (f : Nat), vs = [.ref p, v] ∧ MachAt K C H p z ws f ∧ WaysOk z.cps.size ws ∧ z ∈ L64 ∧ f < ws.length ∧ Dp K H v d ∧ shortD d ∧
  ((∃ row, d = .str row ∧ rowFault z d = none ∧ ∀ H', Ex H H' → Q (oW (wkL ws z (some f) row.cps.toList)) H') ∨ ∃ i, rowFault z d = some i ∧ Raises CB H E (.int i))
abbrev nAfter : List Str := ["self", "row"]
theorem scAfter : FnScope nAfter ["self", "row"] (defScope sAfter) := ⟨rfl, rfl, rfl, by decide +kernel, rfl, by decide +kernel, by decide +kernel⟩
theorem ok_After {f C CB : Addr} {fd : FuncData} (Fn : Fun K "after" "Machine.after" sAfter f fd) (T : Txt K mg) (Mt : McT K C) (Onr : OwnX P w K mg base "need_row" 4 ["letters", "value"] (spNeedRow K CB)) (Ow : Own P w K mg base "walked" 1 ["machine", "state", "row"] (spWalked K C)) : FnOk P w K mg base (L2.CX P w) 5 f fd ["self", "row"] (spAfter K C CB) := by
  refine Fn.okX scAfter (fun vs H Q E h => ?_) (fun cdv A outer s H vs Q E hr h => ?_)
  · obtain ⟨p, v, d, z, ws, f, rfl, _⟩ := h
    rfl
  · obtain ⟨p, v, d, z, ws, f, rfl, hM, hok, hz6, hf, hv, hs, k⟩ := h
    obtain ⟨dx, wt, hp, hwt⟩ := hM.ob
    refine ⟨_, (pss_cons (ps_expr (pe_call Onr.G (hr.mono (by decide)) rfl Onr.m Onr.kp Onr.b .nil (passes_call (takes_of rfl rfl rfl rfl) (fun _ _ _ _ h => h)) (pa_cons (peFld K (pv 0)) (pa_cons (pv 1) pa_nil))))
  (pss_one (ps_ret (pe_call Ow.G (hr.mono (by decide)) rfl Ow.m Ow.kp Ow.b .nil pass0 (pa_cons (pv 0) (pa_cons (peFld K (pv 0)) (pa_cons (pv 1) pa_nil))))))), ?_⟩
    refine ⟨_, rfl, p, C, dx, _, _, rfl, hp, Mt.cl, Mt.n1, mfs_letters, _, rfl, v, d, z, rfl, hv, hs, ?_⟩
    rcases k with ⟨row, rfl, e, k⟩ | k
    · refine .inl ⟨e, fun H1 e1 => ?_⟩
      have ev : v = .str row := by
        cases hv
        rfl
      subst ev
      obtain ⟨ha, _⟩ := rowFault_none e
      have hM1 := hM.ex e1
      exact ⟨_, rfl, _, rfl, p, C, dx, _, _, rfl, e1 _ _ hp, Mt.cl, Mt.n3, mfs_first, _, rfl, p, z, ws, f, f, row, rfl, hM1, hok, hz6, hf, ha, k _ e1⟩
    · exact .inr k
def spReads (K : PySem.W.Frag) (C CB : Addr) : Sp := fun vs H Q E => ∃ (p : Addr) (v : V) (d : PyData) (z : Str) (ws : List (List (Option Nat))) (f : Nat), vs = [.ref p, v] ∧ MachAt K C H p z ws f ∧ WaysOk z.cps.size ws ∧ z ∈ L64 ∧ f < ws.length ∧ Dp K H v d ∧ shortD d ∧
  ((∃ row, d = .str row ∧ rowFault z d = none ∧ ∀ H', Ex H H' → Q (.bl (wkL ws z (some f) row.cps.toList).isSome) H') ∨ ∃ i, rowFault z d = some i ∧ Raises CB H E (.int i))
abbrev nReads : List Str := ["self", "row"]
theorem scReads : FnScope nReads ["self", "row"] (defScope sReads) := ⟨rfl, rfl, rfl, by decide +kernel, rfl, by decide +kernel, by decide +kernel⟩
theorem ok_Reads {f C CB : Addr} {fd : FuncData} (Fn : Fun K "reads" "Machine.reads" sReads f fd) (T : Txt K mg) (Mt : McT K C) (Oa : OwnMX P w K mg base C "after" 5 ["self", "row"] (spAfter K C CB)) : FnOk P w K mg base (L2.CX P w) 6 f fd ["self", "row"] (spReads K C CB) := by
  refine Fn.okX scReads (fun vs H Q E h => ?_) (fun cdv A outer s H vs Q E hr h => ?_)
  · obtain ⟨p, v, d, z, ws, f, rfl, _⟩ := h
    rfl
  · obtain ⟨p, v, d, z, ws, f, rfl, hM, hok, hz6, hf, hv, hs, k⟩ := h
    obtain ⟨dx, wt, hp, hwt⟩ := hM.ob
    refine ⟨_, (pss_one (ps_ret (pe_cmpR opNotN (pe_meth (k := 5) (pv 0) Oa.c Oa.mt Oa.G hr Oa.b .nil (passes_call (takes_of rfl rfl rfl rfl) (fun _ _ _ _ h => h)) (pa_cons (pv 1) pa_nil)) pe_non (nomark _)))), ?_⟩
    refine ⟨_, rfl, p, dx, _, rfl, hp, mfs_none (by decide +kernel), _, rfl, p, v, d, z, ws, f, rfl, hM, hok, hz6, hf, hv, hs, ?_⟩
    rcases k with ⟨row, rfl, e, k⟩ | k
    · refine .inl ⟨row, rfl, e, fun H1 e1 => ⟨rfl, ?_⟩⟩
      have k := k H1 e1
      cases q : wkL ws z (some f) row.cps.toList with
      | none =>
        rw [q] at k
        exact k
      | some t =>
        rw [q] at k
        exact k
    · exact .inr k
/-- how many letters are read -/
def begL (ws : List (List (Option Nat))) (z : Str) : Nat → List Nat → Nat
  | _, [] => 0
  | s, c :: l => match stp ws z s c with
    | none => 0
    | some t => begL ws z t l + 1
def spBeg (K : PySem.W.Frag) (C CB : Addr) : Sp := fun vs H Q E => ∃ (p : Addr) (v : V) (d : PyData) (z : Str) (ws : List (List (Option Nat))) (f : Nat), vs = [.ref p, v] ∧ MachAt K C H p z ws f ∧ WaysOk z.cps.size ws ∧ z ∈ L64 ∧ f < ws.length ∧ Dp K H v d ∧ shortD d ∧
  ((∃ row, d = .str row ∧ rowFault z d = none ∧ ∀ H', Ex H H' → Q (.int ((begL ws z f row.cps.toList : Nat) : Int)) H') ∨ ∃ i, rowFault z d = some i ∧ Raises CB H E (.int i))
abbrev nBeg : List Str := ["self", "row", "state", "at", "letter"]
theorem scBeg : FnScope nBeg ["self", "row"] (defScope sBeg) := ⟨rfl, rfl, rfl, by decide +kernel, rfl, by decide +kernel, by decide +kernel⟩
theorem ok_Beg {f C CB : Addr} {fd : FuncData} (Fn : Fun K "beginning" "Machine.beginning" sBeg f fd) (T : Txt K mg) (Mt : McT K C) (Onr : OwnX P w K mg base "need_row" 4 ["letters", "value"] (spNeedRow K CB)) : FnOk P w K mg base (L2.CX P w) 5 f fd ["self", "row"] (spBeg K C CB) := by
  refine Fn.okX scBeg (fun vs H Q E h => ?_) (fun cdv A outer s H vs Q E hr h => ?_)
  · obtain ⟨p, v, d, z, ws, f, rfl, _⟩ := h
    rfl
  · obtain ⟨p, v, d, z, ws, f, rfl, hM, hok, hz6, hf, hv, hs, k⟩ := h
    obtain ⟨dx, wt, hp, hwt⟩ := hM.ob
    refine ⟨_, (pss_cons (ps_expr (pe_call Onr.G (hr.mono (by decide)) rfl Onr.m Onr.kp Onr.b .nil (passes_call (takes_of rfl rfl rfl rfl) (fun _ _ _ _ h => h)) (pa_cons (peFld K (pv 0)) (pa_cons (pv 1) pa_nil))))
  (pss_cons (ps_set (i := 2) scBeg.nd rfl (by first | exact Or.inl rfl | exact Or.inr rfl) (peFld K (pv 0)))
  (pss_cons (ps_for (passes_of rfl) rfl (pi_enumS (by rfl) T.b_enumerate (pa_cons (pv 1) pa_nil)) (pgT K (n := 2) (by rfl) (pgs_cons (pg_name (i := 3) scBeg.nd rfl (by first | exact Or.inl rfl | exact Or.inr rfl)) (pgs_cons (pg_name (i := 4) scBeg.nd rfl (by first | exact Or.inl rfl | exact Or.inr rfl)) pgs_nil))) (pss_cons (ps_set (i := 2) scBeg.nd rfl (by first | exact Or.inl rfl | exact Or.inr rfl) (pe_ix (ixT K) (pe_ix (ixT K) (peFld K (pv 0)) (pv 2) (fun _ _ => rfl)) (peBm K PySem.F.plainAttrs_str PySem.F.slot_str_index PySem.F.type_str_index mt_sindex (peFld K (pv 0)) (pa_cons (pv 4) pa_nil)) (fun _ _ => rfl)))
  (pss_one (ps_if (pt_cmpR opIsN (pv 2) pe_non (nomark _)) (pss_one (ps_ret (pv 3))) pss_nil))))
  (pss_one (ps_ret (pe_callB call_len_str (by rfl) T.b_len PySem.boot_len (pa_cons (pv 1) pa_nil))))))), ?_⟩
    refine ⟨_, rfl, p, C, dx, _, _, rfl, hp, Mt.cl, Mt.n1, mfs_letters, _, rfl, v, d, z, rfl, hv, hs, ?_⟩
    rcases k with ⟨row, rfl, e, k⟩ | k
    · refine .inl ⟨e, fun H1 e1 => ?_⟩
      have ev : v = .str row := by
        cases hv
        rfl
      subst ev
      obtain ⟨ha, hsz⟩ := rowFault_none e
      refine ⟨_, rfl, p, C, dx, _, _, rfl, e1 _ _ hp, Mt.cl, Mt.n3, mfs_first, ?_⟩
      refine ⟨_, rfl, row, rfl, for_it (walk_enumS (z := row)) (fun i σ G => Ex H G ∧ ∃ (s : Nat) (v3 v4 : Option V), σ = [some (.ref p), some (.str row), some (.int (s : Int)), v3, v4] ∧ s < ws.length ∧ i + begL ws z s (row.cps.toList.drop i) = begL ws z f row.cps.toList)
        ⟨e1, f, none, none, rfl, hf, by rw [Nat.zero_add]; rfl⟩ (fun _ _ _ _ _ => trivial) ?_ ?_⟩
      · rintro i x σ G G1 hi ⟨eG, s, v3, v4, rfl, hs1, hb⟩ ⟨T0, c, rfl, hT0, rfl, hc⟩
        have eT : Ex G (upd G T0 (.tup [.int (i : Int), .str ⟨#[c]⟩])) := Ex.new hT0
        have eG1 := eG.trans eT
        have hMG := hM.ex eG1
        refine ⟨T0, _, rfl, SqT.of upd_same, rfl, _, _, rfl, _, _, rfl, rfl, ?_⟩
        generalize upd G T0 (.tup [.int (i : Int), .str ⟨#[c]⟩]) = G2 at eT eG1 hMG ⊢
        obtain ⟨dx2, wt2, hp2, hwt2⟩ := hMG.ob
        obtain ⟨xs, hx1, hx2, hx3⟩ := waysT_read hwt2
        obtain ⟨hd, hcm⟩ := drop_at hc
        have hcz := ha c hcm
        obtain ⟨rest, hoc⟩ := occL hz6 hcz
        obtain ⟨rt, hrt, hrs⟩ := hx3 s hs1
        refine ⟨_, rfl, p, C, dx2, _, _, rfl, hp2, Mt.cl, Mt.n2, mfs_ways, _, rfl, wt2, _, _, _, rfl, rfl, hx1, atI_nat hrt, _, rfl, p, C, dx2, _, _, rfl, hp2, Mt.cl, Mt.n1, mfs_letters, rfl, _, rfl, z, ⟨#[c]⟩, ixo z c, rest, rfl, rfl, hoc, rt, _, _, oW (stp ws z s c), rfl, rfl, hrs, atI_nat (row_at hok hs1 hcz), _, rfl, rfl, _, rfl, ?_⟩
        rw [hd] at hb
        have hb : i + (match stp ws z s c with
          | none => 0
          | some t => begL ws z t (row.cps.toList.drop (i + 1)) + 1) = _ := hb
        cases q : stp ws z s c with
        | none =>
          rw [q] at hb
          have k := k _ eG1
          rw [← hb] at k
          exact iteT ⟨_, rfl, k⟩
        | some t =>
          rw [q] at hb
          exact iteF ⟨eG1, t, _, _, rfl, stp_lt hok q, by rw [← hb]; show i + 1 + begL ws z t _ = i + (begL ws z t _ + 1); omega⟩
      · rintro σ G ⟨eG, s, v3, v4, rfl, hs1, hb⟩
        rw [List.drop_of_length_le (by simp)] at hb
        refine ⟨_, rfl, row, rfl, (by show row.cps.size ≤ sizeLine; rw [sizeLine_eq]; omega), ?_⟩
        have k := k _ eG
        rw [← hb] at k
        exact k
    · exact .inr k
end
end My
set_option Elab.async false
set_option linter.all false
set_option autoImplicit false
set_option maxRecDepth 100000
set_option maxHeartbeats 4000000
namespace My
open PySem PySem.Spec PyProof.Rows L2 Evl
open PySem.OneX (OneTxt Tail tail_ex exTail)
open PySem.OneXL (keyTail tail_key line_key)
open LamX
abbrev nRefused : List Str := ["work", "error"]
theorem scRefused : FnScope nRefused ["work"] (defScope sRefused) := ⟨rfl, rfl, rfl, by decide +kernel, rfl, by decide +kernel, by decide +kernel⟩
/-- what is caught: of which class, what the answer calls it, what it holds -/
def Caught (CM CB CF CL : Addr) (cls : Value) (dd : Addr) (H : Hp) (nm : Str) (v : V) : Prop :=
  (cls = .ref CM ∧ nm = "machine" ∧ H dd = some (.xd [(("at" : Str), v)])) ∨ (cls = .ref CB ∧ nm = "row" ∧ H dd = some (.xd [(("at" : Str), v)])) ∨
  (cls = .ref CF ∧ nm = "refused" ∧ H dd = some (.xd [(("at" : Str), v)])) ∨ (cls = .ref CL ∧ nm = "letter" ∧ H dd = some (.xd [(("letter" : Str), v)]))
/-- refused: try: work() / except .. as error: return (.., error.at) .. / return None -/
def TRef (CM CB CF CL : Addr) : (XK → Hp → VK → Prop) → Hp → VK → Prop := fun tl H Q =>
  tl (fun cls d H' => ∃ (dd : Addr) (nm : Str) (v : V), d = some dd ∧ Caught CM CB CF CL cls dd H' nm v ∧ ∀ t, H' t = none → Q (.ref t) (upd H' t (.tup [.str nm, v]))) H (fun _ H' => Q .non H')
theorem takes_len {X : Cx} {W : WX} (tk : Takes X W) : Takes X (fun c d σ H => σ.length = X.N.length → W c d σ H) := fun u s' ⟨a, B, sI, pins, σ, H, cls, d, e, I, nb, up, sky, na, os, ag, h⟩ =>
  tk u s' ⟨a, B, sI, pins, σ, H, cls, d, e, I, nb, up, sky, na, os, ag, h I.len⟩
/-- the classes of errors: which clause takes which -/
structure ErrT (K : PySem.W.Frag) (mg : Str → Option Value) (CM CB CF CL fM fB fF fL : Addr) : Prop where
  m : PySem.OneX.OneTxt K mg "BadMachine" exTail "Exception.__new__" CM fM
  b : PySem.OneX.OneTxt K mg "BadRow" exTail "Exception.__new__" CB fB
  f : PySem.OneX.OneTxt K mg "Refused" exTail "Exception.__new__" CF fF
  l : PySem.OneXL.OneTxt K mg "NoLetter" keyTail "LookupError.__new__" CL fL
  bm : PySem.W.exmOne K (.ref CB) (.ref CM) = some false
  fm : PySem.W.exmOne K (.ref CF) (.ref CM) = some false
  fb : PySem.W.exmOne K (.ref CF) (.ref CB) = some false
  lm : PySem.W.exmOne K (.ref CL) (.ref CM) = some false
  lb : PySem.W.exmOne K (.ref CL) (.ref CB) = some false
  lf : PySem.W.exmOne K (.ref CL) (.ref CF) = some false
theorem refused_gives {X : Cx} {CM CB CF CL fM fB fF fL g : Addr} {cdg : Value} {q : Str} (ET : ErrT X.K X.mg CM CB CF CL fM fB fF fL) : GivesTo X nRefused "_law_refused" (defScope sRefused) g cdg (defBody sRefused) "work" q (TRef CM CB CF CL) := by
  intro f c' s H Q tl act hc h
  let Y : Cx := (cxOf C8.CX0 X.prog X.w X.K X.mg X.base nRefused "_law_refused" (defScope sRefused) g cdg X.A X.stack s H C8.E0).nox
  have g1 : Gl Y "BadMachine" := rfl
  have g2 : Gl Y "BadRow" := rfl
  have g3 : Gl Y "Refused" := rfl
  have g4 : Gl Y "NoLetter" := rfl
  refine ⟨_, pss_cons (ps_try_manyAs (X := Y)
      (tb := fun W D σ H => ∃ Ech : XK, (∀ cls d σ' H', σ'.length = 2 → Ech cls d H' → W cls d σ' H') ∧ σ[0]? = some (some (.ref f)) ∧ H c' = some (CodeO c' q) ∧ tl Ech H (fun _ H' => D.nx σ H'))
      rfl rfl L2.takes0 (fun W pn xe tk _ => ?_)
      (.cons (i := 1) (c := .ref CM) scRefused.nd rfl rfl ⟨g1, rfl, .inl ET.m.gC⟩ (fun a oe cls d pn hz hf => pss_one (ps_ret (pe_tup (pa_cons pe_str (pa_cons (pe_byAt ET.m hz hf (pv 1)) pa_nil)))))
        (.cons (i := 1) (c := .ref CB) scRefused.nd rfl rfl ⟨g2, rfl, .inl ET.b.gC⟩ (fun a oe cls d pn hz hf => pss_one (ps_ret (pe_tup (pa_cons pe_str (pa_cons (pe_byAt ET.b hz hf (pv 1)) pa_nil)))))
          (.cons (i := 1) (c := .ref CF) scRefused.nd rfl rfl ⟨g3, rfl, .inl ET.f.gC⟩ (fun a oe cls d pn hz hf => pss_one (ps_ret (pe_tup (pa_cons pe_str (pa_cons (pe_byAt ET.f hz hf (pv 1)) pa_nil)))))
            (.cons (i := 1) (c := .ref CL) scRefused.nd rfl rfl ⟨g4, rfl, .inl ET.l.gC⟩ (fun a oe cls d pn hz hf => pss_one (ps_ret (pe_tup (pa_cons pe_str (pa_cons (pe_byAtL ET.l hz hf (pv 1)) pa_nil))))) .nil))))) (pss_one (ps_ret pe_non)), ?_⟩
  · refine ⟨fun pins s' σ H' D I h' => ?_⟩
    obtain ⟨Ech, hW, h1, h2, h3⟩ := h'
    exact (pss_one (ps_expr (act (fun c d σ H => σ.length = 2 → W c d σ H) pn xe Ech _ _ (takes_len tk) (fun cls d σ' H' e hl => hW cls d σ' H' hl e)))).run pins s' σ H' D I ⟨h1, h2, h3⟩
  · refine ⟨fun cls d H' => ∃ (dd : Addr) (nm : Str) (v : V), d = some dd ∧ Caught CM CB CF CL cls dd H' nm v ∧ ∀ t, H' t = none → Q (.ref t) (upd H' t (.tup [.str nm, v])), fun cls d σ' H' hl ⟨dd, nm, v, ed, hcg, k⟩ => ?_, rfl, hc, ?_⟩
    · subst ed
      match σ', hl with
      | [x, y], _ =>
        have two : 2 ≤ sizeLine := by
          rw [sizeLine_eq]
          decide
        rcases hcg with ⟨rfl, rfl, hd⟩ | ⟨rfl, rfl, hd⟩ | ⟨rfl, rfl, hd⟩ | ⟨rfl, rfl, hd⟩
        · exact ⟨true, ET.m.te, fun _ a ha => ⟨_, rfl, rfl, rfl, dd, v, rfl, hd, two, fun t ht => k t ht⟩, fun q => Bool.noConfusion q⟩
        · exact ⟨false, ET.bm, fun q => Bool.noConfusion q, fun _ => ⟨true, ET.b.te, fun _ a ha => ⟨_, rfl, rfl, rfl, dd, v, rfl, hd, two, fun t ht => k t ht⟩, fun q => Bool.noConfusion q⟩⟩
        · exact ⟨false, ET.fm, fun q => Bool.noConfusion q, fun _ => ⟨false, ET.fb, fun q => Bool.noConfusion q, fun _ => ⟨true, ET.f.te, fun _ a ha => ⟨_, rfl, rfl, rfl, dd, v, rfl, hd, two, fun t ht => k t ht⟩, fun q => Bool.noConfusion q⟩⟩⟩
        · exact ⟨false, ET.lm, fun q => Bool.noConfusion q, fun _ => ⟨false, ET.lb, fun q => Bool.noConfusion q, fun _ => ⟨false, ET.lf, fun q => Bool.noConfusion q, fun _ => ⟨true, ET.l.te, fun _ a ha => ⟨_, rfl, rfl, rfl, dd, v, rfl, hd, two, fun t ht => k t ht⟩, fun q => Bool.noConfusion q⟩⟩⟩⟩
    · exact h
/-! ### draws from texts; the law's own walk -/
section
variable {P : Program} {w : World} {K : PySem.W.Frag} {mg : Str → Option Value} {base : Heap}
def spOfS : Sp := fun vs H Q _ => ∃ (a b : Addr) (z : Str), vs = [.ref a, .str z] ∧ Deal H a b ∧ 1 ≤ z.cps.size ∧ z.cps.size ≤ 100 ∧
  ∀ (c : Nat) H', c ∈ z.cps.toList → ExD a b H H' → Deal H' a b → Q (.str ⟨#[c]⟩) H'
theorem ok_OfS {f : Addr} {fd : FuncData} (Fn : Fun K "_law_of" "_law_of" sOf f fd) (T : Txt K mg) (Oa : Own P w K mg base "_law_any" 1 ["deal", "bound"] spAny) : FnOk P w K mg base CX0 2 f fd ["deal", "some"] spOfS := by
  refine Fn.ok scOf (fun vs H Q E h => ?_) (fun cdv A outer s H vs Q E hr h => ?_)
  · obtain ⟨a, b, z, rfl, _⟩ := h
    rfl
  · obtain ⟨a, b, z, rfl, hD, l1, l2, k⟩ := h
    refine ⟨_, (pss_one (ps_ret (pe_ix ix_str (pv 1) (pe_call Oa.G (hr.mono (by decide)) rfl Oa.m Oa.kp Oa.b .nil pass0 (pa_cons (pv 0) (pa_cons (pe_callB call_len_str (by rfl) T.b_len PySem.boot_len (pa_cons (pv 1) pa_nil)) pa_nil))) (fun _ _ => rfl)))), ?_⟩
    have zs : z.cps.size ≤ sizeLine := by
      rw [sizeLine_eq]
      omega
    refine ⟨_, rfl, _, rfl, _, rfl, z, rfl, zs, a, b, _, rfl, hD, (by show (1 : Int) ≤ (z.cps.size : Int); omega), (by show (z.cps.size : Int) ≤ 1000; omega), fun d H' hd e hD' => ?_⟩
    have hd : d < z.cps.toList.length := by
      have hd : (d : Int) < (z.cps.size : Int) := hd
      rw [Array.length_toList]
      omega
    exact ⟨z, _, _, rfl, rfl, zs, by
      unfold atI
      rw [show ixN z.cps.toList.length (d : Int) = some d from ixN_nat hd]
      exact List.getElem?_eq_getElem hd, k _ H' (List.getElem_mem hd) e hD'⟩
theorem waysN_read {K : PySem.W.Frag} {H : Hp} {wa : Addr} {ws : List (List (Option Nat))} (h : Dp K H (.ref wa) (waysN ws)) : ∃ xs, SqL K H wa xs ∧ xs.length = ws.length ∧ ∀ s, s < ws.length → ∃ ra, xs[s]? = some (.ref ra) ∧ SqL K H ra ((ws.getD s []).map oW) := by
  obtain ⟨a, xs, e, h1, h2⟩ := dp_lst h
  cases e
  refine ⟨xs, h1, by rw [dpAll_len h2, List.length_map], fun s hs => ?_⟩
  obtain ⟨v, hv, hd⟩ := dpAll_get (i := s) (d := rowN ws[s]) h2 (by rw [List.getElem?_map, List.getElem?_eq_getElem hs]; rfl)
  obtain ⟨ra, rs, rfl, h3, h4⟩ := dp_lst hd
  have e := dpAll_oN_eq h4
  subst e
  refine ⟨ra, hv, ?_⟩
  rw [List.getD_eq_getElem?_getD, List.getElem?_eq_getElem hs]
  exact h3
/-- the states on the way -/
def lwL (ws : List (List (Option Nat))) (z : Str) : Nat → List Nat → List Nat
  | s, [] => [s]
  | s, c :: l => match stp ws z s c with
    | none => [s]
    | some t => s :: lwL ws z t l
theorem lw_len {ws : List (List (Option Nat))} {z : Str} : ∀ (l : List Nat) (s : Nat), (lwL ws z s l).length = begL ws z s l + 1
  | [], s => rfl
  | c :: l, s => by
    unfold lwL begL
    cases stp ws z s c with
    | none => rfl
    | some t => exact congrArg (· + 1) (lw_len l t)
theorem lw_last {ws : List (List (Option Nat))} {z : Str} : ∀ (l : List Nat) (s : Nat), (begL ws z s l = l.length → ∃ t, wkL ws z (some s) l = some t ∧ (lwL ws z s l).getLast? = some t) ∧ (begL ws z s l ≠ l.length → wkL ws z (some s) l = none) ∧ begL ws z s l ≤ l.length
  | [], s => ⟨fun _ => ⟨s, rfl, rfl⟩, fun h => (h rfl).elim, Nat.le_refl _⟩
  | c :: l, s => by
    unfold lwL begL wkL
    cases e : stp ws z s c with
    | none => exact ⟨fun h => (by cases h), fun _ => wk_none _, Nat.zero_le _⟩
    | some t =>
      obtain ⟨h1, h2, h3⟩ := lw_last (ws := ws) (z := z) l t
      refine ⟨fun h => ?_, fun h => ?_, Nat.succ_le_succ h3⟩
      · obtain ⟨u, e1, e2⟩ := h1 (by simpa using h)
        refine ⟨u, e1, ?_⟩
        rw [List.getLast?_cons, e2]
        rfl
      · exact h2 fun q => h (by show _ + 1 = (c :: l).length; rw [q]; rfl)
def spLWalk (K : PySem.W.Frag) : Sp := fun vs H Q _ => ∃ (wa : Addr) (z : Str) (ws : List (List (Option Nat))) (s : Nat) (row : Str), vs = [.str z, .ref wa, .int (s : Int), .str row] ∧ Dp K H (.ref wa) (waysN ws) ∧ WaysOk z.cps.size ws ∧ z ∈ L64 ∧ s < ws.length ∧ (∀ c ∈ row.cps.toList, c ∈ z.cps.toList) ∧ row.cps.size ≤ 1000 ∧
  ∀ p H', Ex H H' → H p = none → H' p = some (.lst ((lwL ws z s row.cps.toList).map fun (j : Nat) => V.int (j : Int))) → Q (.ref p) H'
abbrev nLWalk : List Str := ["letters", "ways", "state", "row", "found", "letter"]
theorem scLWalk : FnScope nLWalk ["letters", "ways", "state", "row"] (defScope sLWalk) := ⟨rfl, rfl, rfl, by decide +kernel, rfl, by decide +kernel, by decide +kernel⟩
theorem ok_LWalk {f : Addr} {fd : FuncData} (Fn : Fun K "_law_walk" "_law_walk" sLWalk f fd) (T : Txt K mg) : FnOk P w K mg base CX0 1 f fd ["letters", "ways", "state", "row"] (spLWalk K) := by
  refine Fn.ok scLWalk (fun vs H Q E h => ?_) (fun cdv A outer s H vs Q E hr h => ?_)
  · obtain ⟨wa, z, ws, s, row, rfl, _⟩ := h
    rfl
  · obtain ⟨wa, z, ws, s0, row, rfl, hwa, hok, hz6, hs0, ha, hsz, k⟩ := h
    refine ⟨_, (pss_cons (ps_set (i := 4) scLWalk.nd rfl (by first | exact Or.inl rfl | exact Or.inr rfl) (pe_lst (pa_cons (pv 2) pa_nil)))
  (pss_cons (ps_for PassesOwn.never rfl (pi_str (pv 3)) (pg_name (i := 5) scLWalk.nd rfl (by first | exact Or.inl rfl | exact Or.inr rfl)) (pss_cons (ps_set (i := 2) scLWalk.nd rfl (by first | exact Or.inl rfl | exact Or.inr rfl) (pe_ix (ixL K) (pe_ix (ixL K) (pv 1) (pv 2) (fun _ _ => rfl)) (peBm K PySem.F.plainAttrs_str PySem.F.slot_str_index PySem.F.type_str_index mt_sindex (pv 0) (pa_cons (pv 5) pa_nil)) (fun _ _ => rfl)))
  (pss_cons (ps_if (pt_cmpR opIsN (pv 2) pe_non (nomark _)) (pss_one (ps_ret (pv 4))) pss_nil)
  (pss_one (ps_expr (peBm K PySem.F.plainAttrs_list PySem.F.slot_list_append PySem.F.type_list_append mt_append (pv 4) (pa_cons (pv 2) pa_nil)))))))
  (pss_one (ps_ret (pv 4))))), ?_⟩
    refine ⟨_, rfl, (by show 1 ≤ sizeLine; decide), fun p hp => ?_⟩
    have rd : ∀ {G : Hp}, (∀ c o, H c = some o → G c = some o) → ∃ xs, SqL K G wa xs ∧ ∀ s, s < ws.length → ∃ ra, xs[s]? = some (.ref ra) ∧ SqL K G ra ((ws.getD s []).map oW) := fun e => by
      obtain ⟨xs, x1, x2, x3⟩ := waysN_read (dp_ex e hwa)
      exact ⟨xs, x1, x3⟩
    refine ⟨_, rfl, row, rfl, for_it walk_str (fun i σ G => Ex H G ∧ i ≤ row.cps.size ∧ ∃ (s : Nat) (l : List Nat) (v5 : Option V), σ = [some (.str z), some (.ref wa), some (.int (s : Int)), some (.str row), some (.ref p), v5] ∧ s < ws.length ∧ l.length ≤ i ∧ G p = some (.lst ((l ++ [s]).map fun (j : Nat) => V.int (j : Int))) ∧ l ++ lwL ws z s (row.cps.toList.drop i) = lwL ws z s0 row.cps.toList)
      ⟨Ex.new hp, Nat.zero_le _, s0, [], none, rfl, hs0, Nat.zero_le _, upd_same, rfl⟩ (fun _ _ _ _ _ => trivial) ?_ ?_⟩
    · rintro i x σ G G1 hi ⟨eG, hi2, s, l, v5, rfl, hs1, hl, hpG, hb⟩ ⟨rfl, c, hc, rfl⟩
      obtain ⟨hd, hcm⟩ := drop_at hc
      have hcz := ha c hcm
      obtain ⟨rest, hoc⟩ := occL hz6 hcz
      obtain ⟨xs, x1, x3⟩ := rd eG
      obtain ⟨ra, hra, hrs⟩ := x3 s hs1
      refine ⟨_, rfl, _, rfl, wa, _, _, _, rfl, rfl, x1, atI_nat hra, _, rfl, rfl, _, rfl, z, ⟨#[c]⟩, ixo z c, rest, rfl, rfl, hoc, ra, _, _, oW (stp ws z s c), rfl, rfl, hrs, atI_nat (row_at hok hs1 hcz), _, rfl, rfl, _, rfl, ?_⟩
      rw [hd] at hb
      have hb : l ++ (match stp ws z s c with
        | none => [s]
        | some t => s :: lwL ws z t (row.cps.toList.drop (i + 1))) = _ := hb
      cases q : stp ws z s c with
      | none =>
        rw [q] at hb
        have hb : l ++ [s] = _ := hb
        rw [hb] at hpG
        exact iteT ⟨_, rfl, k p _ eG hp hpG⟩
      | some t =>
        rw [q] at hb
        have hb : l ++ s :: lwL ws z t (row.cps.toList.drop (i + 1)) = _ := hb
        refine iteF ⟨_, rfl, .inl ⟨rfl, _, SqL.of hpG⟩, _, rfl, p, _, _, rfl, rfl, hpG, ?_, ?_⟩
        · rw [List.length_map, List.length_append, List.length_singleton, sizeLine_eq]
          omega
        · refine ⟨fun c2 o h2 => ?_, hi, t, l ++ [s], _, rfl, stp_lt hok q, by rw [List.length_append, List.length_singleton]; omega, ?_, by rw [List.append_assoc]; exact hb⟩
          · rw [upd_ne (ne_of_none h2 hp)]
            exact eG _ _ h2
          · rw [upd_same, List.map_append (l₁ := l ++ [s])]
            rfl
    · rintro σ G ⟨eG, hi2, s, l, v5, rfl, hs1, hl, hpG, hb⟩
      rw [List.drop_of_length_le (by simp)] at hb
      have hb : l ++ [s] = _ := hb
      rw [hb] at hpG
      exact ⟨_, rfl, k p _ eG hp hpG⟩
end
end My
set_option Elab.async false
set_option linter.all false
set_option autoImplicit false
set_option maxRecDepth 100000
set_option maxHeartbeats 4000000
namespace My
open PySem PySem.Spec PyProof.Rows L2 Evl
open PySem.OneX (OneTxt Tail tail_ex exTail)
open PySem.OneXL (keyTail tail_key line_key)
/-- a method -/
structure OwnM (P : Program) (w : World) (K : PySem.W.Frag) (mg : Str → Option Value) (base : Heap) (C : Addr) (m : Str) (k : Nat) (ps : List Str) (sp : Sp) where
  f : Addr
  fd : FuncData
  G : FnOk P w K mg base CX0 k f fd ps sp
  c : Cls K C
  mt : Meth K C m f
  b : Binds K fd ps []
/-- a method that a built-in asks the class for -/
structure OwnG (P : Program) (w : World) (K : PySem.W.Frag) (mg : Str → Option Value) (base : Heap) (C : Addr) (m : Str) (k : Nat) (ps : List Str) (sp : Sp) where
  f : Addr
  fd : FuncData
  G : FnOk P w K mg base CX0 k f fd ps sp
  s : PySem.W.findIn K (.ref C) m = some (some (.ref f))
  fn : PySem.W.isFn K (.ref f) = true
  b : Binds K fd ps []
/-- how machines are made -/
structure Made (P : Program) (w : World) (K : PySem.W.Frag) (mg : Str → Option Value) (base : Heap) (C CB : Addr) where
  fI : Addr
  fdI : FuncData
  M : Mk K C fI
  gC : mg "Machine" = some (.ref C)
  GI : FnOk P w K mg base (L2.CX P w) 4 fI fdI ["self", "letters", "ways", "first"] (spMI K C CB)
  FI : FunD K "__init__" "Machine.__init__" (defArgs sMI) (defBody sMI) (defScope sMI) [] kMI fI fdI
def gMK3 {α : Type} (us mv ws : List α) : List α := match us, ws with
  | [s], [wa, l, f] => [s, l, wa, f]
  | _, _ => []
/-- Machine(ways=.., letters=.., first=..) -/
theorem mi_kbinds3 {K : PySem.W.Frag} {f : Addr} {fd : FuncData} (F : FunD K "__init__" "Machine.__init__" (defArgs sMI) (defBody sMI) (defScope sMI) [] kMI f fd) : ∃ mv : List Value, KBn K fd ["self", "letters", "ways", "first"] 1 ["ways", "letters", "first"] (fun us ws => gMK3 us mv ws) (fun vs zs => gMK3 vs [] zs) := by
  refine F.kbinds0 (ps := ["self", "letters", "ways", "first"]) 1 ["ways", "letters", "first"] [] (fun {α} => gMK3) (by simp) (by simp) (fun {vs mz zs us mv ws} r1 r2 r3 => ?_) fun D doc pm an cdv ct us mv ws hu hm hw => ?_
  · unfold gMK3
    cases r1 with
    | nil => exact .nil
    | cons a r1 => cases r1 with
      | cons _ _ => exact .nil
      | nil => cases r3 with
        | nil => exact .nil
        | cons b r3 => cases r3 with
          | nil => exact .nil
          | cons c r3 => cases r3 with
            | nil => exact .nil
            | cons d r3 => cases r3 with
              | nil => exact .cons a (.cons c (.cons b (.cons d .nil)))
              | cons _ _ => exact .nil
  · match us, hu, mv, hm, ws, hw with
    | [a], _, [], _, [b, c, d], _ => rfl
/-- Machine(letters, ways) -/
theorem mi_binds0 {K : PySem.W.Frag} {f : Addr} {fd : FuncData} (F : FunD K "__init__" "Machine.__init__" (defArgs sMI) (defBody sMI) (defScope sMI) [] kMI f fd) : ∃ ds, Vals [V.int 0] ds ∧ Binds K fd ["self", "letters", "ways", "first"] ds := by
  refine F.binds0 (ps := ["self", "letters", "ways", "first"]) 3 (by simp) rfl fun D doc pm an cdv ct us ks hu hk => ?_
  match us, hu, ks, hk with
  | [a, b, c], _, [d], _ => exact ⟨_, _, _, _, _, _, rfl, rfl, rfl⟩
theorem seqD_rowN (r : List (Option Nat)) : seqD (rowN r) = some (r.map oN) := rfl
theorem rowO_rowN (r : List (Option Nat)) : rowO (rowN r) = r := rowO_rowT r
theorem rows_rowN (ws : List (List (Option Nat))) : (ws.map rowN).map rowO = ws := by
  rw [List.map_map, show (rowO ∘ rowN) = id from funext rowO_rowN, List.map_id]
section
variable {P : Program} {w : World} {K : PySem.W.Frag} {mg : Str → Option Value} {base : Heap}
/-- a machine of what makes one -/
theorem mi_right {C CB : Addr} {H : Hp} {Q : VK} {E : XK} {p dx : Addr} {z : Str} {ws : List (List (Option Nat))} {f : Nat} {vw : V} {dw : PyData} (hp : H p = some (.ins C dx [])) (hz : z ∈ L64) (hw : Dp K H vw dw) (hd : dw = waysN ws ∨ dw = waysT ws) (hok : WaysOk z.cps.size ws) (n1 : 1 ≤ ws.length) (n2 : ws.length ≤ 2000) (hf : f < ws.length)
    (k : ∀ H', ExB p H H' → MachAt K C H' p z ws f → Q .non H') : spMI K C CB [.ref p, .str z, vw, .int (f : Int)] H Q E := by
  refine ⟨p, dx, _, _, _, .str z, dw, .int (f : Int), rfl, hp, .str z, hw, .int _, .inr ⟨z, rfl, subw_self hz, .inr ?_⟩⟩
  rcases hd with rfl | rfl
  · refine ⟨ws.map rowN, rfl, by rw [List.length_map]; exact n1, by rw [List.length_map]; exact n2, .inr ⟨fun r hr => ?_, .inr ⟨f, rfl, by rw [List.length_map]; exact hf, fun H3 eB hM3 => ?_⟩⟩⟩
    · obtain ⟨r0, hr0, rfl⟩ := List.mem_map.mp hr
      rw [List.length_map]
      exact rowOk_seq (r := r0) rfl (hok.len r0 hr0) (hok.lt r0 hr0)
    · rw [rows_rowN] at hM3
      exact k H3 eB hM3
  · refine ⟨ws.map rowT, rfl, by rw [List.length_map]; exact n1, by rw [List.length_map]; exact n2, .inr ⟨fun r hr => ?_, .inr ⟨f, rfl, by rw [List.length_map]; exact hf, fun H3 eB hM3 => ?_⟩⟩⟩
    · obtain ⟨r0, hr0, rfl⟩ := List.mem_map.mp hr
      rw [List.length_map]
      exact rowOk_seq (r := r0) rfl (hok.len r0 hr0) (hok.lt r0 hr0)
    · rw [rows_rowT] at hM3
      exact k H3 eB hM3
/-- a new machine of what makes one -/
theorem mk_right {C CB : Addr} {H : Hp} {Q : Hp → Prop} {E : XK} {x dx : Addr} {z : Str} {ws : List (List (Option Nat))} {f : Nat} {vw : V} {dw : PyData} (hx : H x = none) (hdx : H dx = none) (ne : dx ≠ x) (hz : z ∈ L64) (hw : Dp K H vw dw) (hd : dw = waysN ws ∨ dw = waysT ws) (hok : WaysOk z.cps.size ws) (n1 : 1 ≤ ws.length) (n2 : ws.length ≤ 2000) (hf : f < ws.length)
    (k : ∀ H', Ex H H' → MachAt K C H' x z ws f → Q H') : spMI K C CB [.ref x, .str z, vw, .int (f : Int)] (upd (upd H dx (.own x)) x (.ins C dx [])) (fun v H3 => v = .non ∧ Q H3) E := by
  have em : Ex H (upd (upd H dx (.own x)) x (.ins C dx [])) := (Ex.new hdx).trans (Ex.new (by rw [upd_ne ne.symm]; exact hx))
  refine mi_right (dw := dw) upd_same hz (dp_ex em hw) hd hok n1 n2 hf fun H3 eB hM => ⟨rfl, k H3 (fun c o q => eB c o (em c o q) (ne_of_none q hx)) hM⟩
theorem MachAt.tex {C : Addr} {H H' : Hp} {p : Addr} {z : Str} {ws : List (List (Option Nat))} {f : Nat} (h : MachAt K C H p z ws f) (e : TEx H H') (ei : ∀ dx fs, H p = some (.ins C dx fs) → H' p = some (.ins C dx fs)) : MachAt K C H' p z ws f := by
  obtain ⟨dx, wt, h1, h2⟩ := h.ob
  exact ⟨dx, wt, ei _ _ h1, dp_tex e h2 (rowsT_only ws)⟩
/-- a list's object bent -/
theorem MachAt.put {C : Addr} {H : Hp} {p q : Addr} {z : Str} {ws : List (List (Option Nat))} {f : Nat} {xs : List V} {o : HO} (h : MachAt K C H p z ws f) (e : H q = some (.lst xs)) : MachAt K C (upd H q o) p z ws f := h.tex (tex_upd e) fun dx fs hp => by
  rw [upd_ne]
  · exact hp
  · rintro rfl
    rw [e] at hp
    cases hp
theorem ex_keep {H H' : Hp} {q : Addr} {o u : HO} (e : Ex H H') (hq : H q = none) (_h : H' q = some u) : Ex H (upd H' q o) := e.mut hq
theorem dp_rows {H : Hp} {ws : List (List (Option Nat))} {cc : Nat → Addr} (h : ∀ j, j < ws.length → H (cc j) = some (.lst ((ws.getD j []).map oW))) : DpAll K H (refs ws.length cc) (ws.map rowN) := by
  rw [← range_get (f := rowN) (d := []) ws]
  refine dpAll_map _ fun j hj => ?_
  exact .lst (SqL.of (h j (List.mem_range.mp hj))) (dpAll_oN _)
def w5 : List (List (Option Nat)) → List (List (Option Nat))
  | [] => []
  | r :: l => (r ++ [some 5]) :: l
theorem w5_len (ws : List (List (Option Nat))) : (w5 ws).length = ws.length := by cases ws <;> rfl
theorem w5_zero {ws : List (List (Option Nat))} (h : 1 ≤ ws.length) : (w5 ws).getD 0 [] = ws.getD 0 [] ++ [some 5] := by
  cases ws with
  | nil => cases h
  | cons r l => rfl
theorem w5_at {ws : List (List (Option Nat))} {j : Nat} (h : j ≠ 0) : (w5 ws).getD j [] = ws.getD j [] := by
  cases ws with
  | nil => rfl
  | cons r l => cases j with
    | zero => exact (h rfl).elim
    | succ j => rfl
theorem fl_word : ∀ z ∈ L64, ((PyData.str z).canLay0 && (PyData.str z).showable && (PyData.str z).leavesShort 8 && decide ((PyData.str z).weight ≤ 100)) = true := by decide +kernel
theorem fl_z {z : Str} (h : z ∈ L64) : Fl 0 100 (.str z) := by
  have := fl_word z h
  simp only [Bool.and_eq_true, decide_eq_true_eq] at this
  exact fl_str this.1.1.1 this.1.1.2 this.1.2 100 this.2
theorem fl_rowT {r : List (Option Nat)} (h : r.length ≤ 6) (hs : ∀ s, some s ∈ r → s < 256) : Fl 1 54 (rowT r) := by
  refine fl_tup (k := 0) (w := 8) (m := 6) (fun d hd => ?_) (by rw [List.length_map]; exact h)
  obtain ⟨o, ho, rfl⟩ := List.mem_map.mp hd
  cases o with
  | none => exact fl_non.mono (Nat.le_refl _) (by omega)
  | some s => exact fl_nat (hs s ho)
theorem fl_waysT {k : Nat} {ws : List (List (Option Nat))} (hok : WaysOk k ws) (hk : k ≤ 6) (n7 : ws.length ≤ 7) : Fl 2 385 (waysT ws) := by
  refine fl_tup (k := 1) (w := 54) (m := 7) (fun d hd => ?_) (by rw [List.length_map]; exact n7)
  obtain ⟨r, hr, rfl⟩ := List.mem_map.mp hd
  exact fl_rowT (by rw [hok.len r hr]; exact hk) fun s hs => by
    have := hok.lt r hr s hs
    omega
def kd4 (z : Str) (ws : List (List (Option Nat))) (f : Nat) : PyData := .tuple [.str z, waysT ws, .int (f : Int), .int ((ws.length : Nat) : Int)]
theorem fl_kd4 {z : Str} {ws : List (List (Option Nat))} {f : Nat} (hz : z ∈ L64) (hok : WaysOk z.cps.size ws) (n7 : ws.length ≤ 7) (hf : f < ws.length) : Fl 3 1544 (kd4 z ws f) := by
  refine fl_tup (k := 2) (w := 385) (m := 4) (fun d hd => ?_) (Nat.le_refl 4)
  rcases List.mem_cons.mp hd with rfl | hd
  · exact (fl_z hz).mono (by omega) (by omega)
  rcases List.mem_cons.mp hd with rfl | hd
  · exact fl_waysT hok (l64_len hz) n7
  rcases List.mem_cons.mp hd with rfl | hd
  · exact (fl_nat (by omega)).mono (by omega) (by omega)
  rcases List.mem_cons.mp hd with rfl | hd
  · exact (fl_nat (by omega)).mono (by omega) (by omega)
  cases hd
theorem row_len {k : Nat} {ws : List (List (Option Nat))} (hok : WaysOk k ws) {s : Nat} (h : s < ws.length) : (ws.getD s []).length = k := by
  rw [List.getD_eq_getElem?_getD, List.getElem?_eq_getElem h]
  exact hok.len _ (List.getElem_mem h)
theorem cut_head {xs : List V} {v : V} : cutV (xs ++ [v]) none (some (-1)) = xs := by
  show List.take (HT.sIx (xs ++ [v]).length (xs ++ [v]).length (some (-1)) - 0) (List.drop 0 (xs ++ [v])) = xs
  have e : HT.sIx (xs ++ [v]).length (xs ++ [v]).length (some (-1)) = xs.length := by
    show (if (-1 : Int) < 0 then ((-1 : Int) + ((xs ++ [v]).length : Int)).toNat else min (-1 : Int).toNat (xs ++ [v]).length) = xs.length
    rw [if_pos (by omega), List.length_append, List.length_singleton]
    omega
  rw [e, List.drop_zero, Nat.sub_zero, List.take_left]
theorem cut_take {xs : List V} {k : Nat} (h : k ≤ xs.length) : cutV xs none (some (k : Int)) = xs.take k := by
  show List.take (HT.sIx xs.length xs.length (some (k : Int)) - 0) (List.drop 0 xs) = _
  have e : HT.sIx xs.length xs.length (some (k : Int)) = k := by
    show (if (k : Int) < 0 then ((k : Int) + (xs.length : Int)).toNat else min (k : Int).toNat xs.length) = k
    rw [if_neg (by omega)]
    omega
  rw [e, List.drop_zero, Nat.sub_zero]
theorem cut_drop {xs : List V} {k : Nat} (h : k ≤ xs.length) : cutV xs (some (k : Int)) none = xs.drop k := by
  show List.take (xs.length - HT.sIx xs.length 0 (some (k : Int))) (List.drop (HT.sIx xs.length 0 (some (k : Int))) xs) = _
  have e : HT.sIx xs.length 0 (some (k : Int)) = k := by
    show (if (k : Int) < 0 then ((k : Int) + (xs.length : Int)).toNat else min (k : Int).toNat xs.length) = k
    rw [if_neg (by omega)]
    omega
  rw [e]
  exact List.take_of_length_le (by rw [List.length_drop]; exact Nat.le_refl _)
theorem dpAll_split {H : Hp} : ∀ {as bs : List PyData} {xs : List V}, DpAll K H xs (as ++ bs) → ∃ ys zs, xs = ys ++ zs ∧ DpAll K H ys as ∧ DpAll K H zs bs
  | [], bs, xs, h => ⟨[], xs, rfl, .nil, h⟩
  | a :: as, bs, xs, h => by
    cases h with
    | cons h t =>
      obtain ⟨ys, zs, rfl, h1, h2⟩ := dpAll_split t
      exact ⟨_ :: ys, zs, rfl, .cons h h1, h2⟩
def flipO : Option Nat → Option Nat
  | none => some 0
  | some _ => none
theorem flip_ne (o : Option Nat) : flipO o ≠ o := by cases o <;> simp [flipO]
theorem if_flip {o : Option Nat} {σ : L2.St} {H : Hp} {Q : VK} (h : Q (oW (flipO o)) H) : if decide (oW o = V.non) = true then tC (.int 0) σ H Q else tC .non σ H Q := by
  cases o with
  | none => exact iteT1 (by rfl) h
  | some s => exact iteF1 (decide_eq_false fun q => by cases q) h
theorem eq_mach {C : Addr} {H : Hp} {Q : VK} {p p2 : Addr} {z z2 : Str} {ws ws2 : List (List (Option Nat))} {f f2 : Nat} {r : Bool} (h : MachAt K C H p z ws f) (h2 : MachAt K C H p2 z2 ws2 f2) (e : (decide (z = z2) && decide (ws = ws2) && decide (f = f2)) = r) (k : Q (.bl r) H) : rEqOwn K C (spMEq K C) E0 (.ref p) (.ref p2) H Q := by
  obtain ⟨dx, wt, a1, _⟩ := h.ob
  obtain ⟨dx2, wt2, b1, _⟩ := h2.ob
  subst e
  exact ⟨p, dx, _, rfl, a1, .inl ⟨p2, dx2, _, rfl, b1⟩, p, _, z, ws, f, rfl, h, .inl ⟨p2, z2, ws2, f2, rfl, h2, _, rfl, k⟩⟩
theorem eq_tup {C : Addr} {H : Hp} {Q : VK} {p b : Addr} {z : Str} {ws : List (List (Option Nat))} {f : Nat} {ys : List V} (nf : PySem.W.notFirst K C (.type "tuple") = true) (h : MachAt K C H p z ws f) (hb : H b = some (.tup ys)) (k : Q (.bl false) H) : rEqOwn K C (spMEq K C) E0 (.ref p) (.ref b) H Q := by
  obtain ⟨dx, wt, a1, _⟩ := h.ob
  exact ⟨p, dx, _, rfl, a1, .inr ⟨nf, b, ys, rfl, hb⟩, p, _, z, ws, f, rfl, h, .inr ⟨b, ys, rfl, hb, _, rfl, k⟩⟩
theorem eqv_rowN (a b : List (Option Nat)) : PyData.eqv (rowN a) (rowN b) = decide (a = b) := eqvAll_of eqv_oN a b
theorem eqv_waysN (a b : List (List (Option Nat))) : PyData.eqv (waysN a) (waysN b) = decide (a = b) := eqvAll_of eqv_rowN a b
theorem sh_waysN (ws : List (List (Option Nat))) : Sh 2 (waysN ws) := by
  refine sh_lst fun d hd => ?_
  obtain ⟨r, _, rfl⟩ := List.mem_map.mp hd
  refine sh_lst fun d hd => ?_
  obtain ⟨o, _, rfl⟩ := List.mem_map.mp hd
  exact sh_oN o
/-- the letters that are not a text's, as many at most -/
def strangeS (z : Str) : Str := Txt.slice (wordP fun i => !pz z i) none (some (z.length : Int))
theorem strange_ok {z : Str} (h : z ∈ L64) : strangeS z ∈ L64 ∧ (z ≠ "" → strangeS z ≠ z) ∧ (wordP fun i => !pz z i).length ≤ 6 := by
  have q : ∀ z ∈ L64, strangeS z ∈ L64 ∧ (z ≠ "" → strangeS z ≠ z) ∧ (wordP fun i => !pz z i).length ≤ 6 := by decide +kernel
  exact q z h
theorem four_sz : 4 ≤ sizeLine := by rw [sizeLine_eq]; omega
theorem one_sz : 1 ≤ sizeLine := by rw [sizeLine_eq]; omega
def spKept (K : PySem.W.Frag) : Sp := fun vs H Q _ => ∃ (wa : Addr) (z : Str) (ws : List (List (Option Nat))) (f : Nat), vs = [.str z, .ref wa, .int (f : Int)] ∧ Dp K H (.ref wa) (waysN ws) ∧ WaysOk z.cps.size ws ∧ z ∈ L64 ∧ 1 ≤ ws.length ∧ ws.length ≤ 7 ∧ f < ws.length ∧ ∀ H', Ex H H' → Q (.bl true) H'
abbrev nKept : List Str := ["letters", "ways", "first", "handed", "machine", "due", "twin", "at", "turned", "bent", "strange", "row", "letter"]
theorem scKept : FnScope nKept ["letters", "ways", "first"] (defScope sKept) := ⟨rfl, rfl, rfl, by decide +kernel, rfl, by decide +kernel, by decide +kernel⟩
theorem ok_Kept {f C CB : Addr} {fd : FuncData} (Fn : Fun K "_law_is_kept" "_law_is_kept" sKept f fd) (T : Txt K mg) (Mt : McT K C) (It : InsT K C) (nf : PySem.W.notFirst K C (.type "tuple") = true) (Md : Made P w K mg base C CB) (Eq : OwnG P w K mg base C "__eq__" 1 ["self", "other"] (spMEq K C)) (Ln : OwnG P w K mg base C "__len__" 1 ["self"] (spLen K C)) :
    FnG P w K mg base CX0 6 f fd ["letters", "ways", "first"] (spKept K) := by
  obtain ⟨mv, kI⟩ := mi_kbinds Md.FI
  obtain ⟨mv3, kI3⟩ := mi_kbinds3 Md.FI
  obtain ⟨ds0, hv0, hb0⟩ := mi_binds0 Md.FI
  refine okG Fn scKept (fun vs H Q E h => ?_) (fun cdv A outer s H vs Q E gd hr h => ?_)
  · obtain ⟨wa, z, ws, f, rfl, _⟩ := h
    rfl
  · obtain ⟨wa, z, ws, f, rfl, hwa, hok, hz6, n1, n7, hf, k⟩ := h
    have hu := hu64 hr
    refine ⟨_, (pss_cons (ps_setLc (i := 3) (own := [("row", 11)]) rfl scKept.nd rfl rfl (sw_true rfl rfl rfl (by decide +kernel)) (piL K (pv 1)) (blkOk_by (N := nKept) (sc := defScope sKept) (by decide +kernel)) (fun _ _ _ _ _ => (pg_name (i := 11) scKept.nd rfl (by first | exact Or.inl rfl | exact Or.inr rfl))) (fun _ _ _ _ _ => pts_nil) (fun _ _ _ _ _ => (pe_callTy (crListOf K) (by rfl) T.b_list (by decide +kernel) (pa_cons (pv 11) pa_nil))))
  (pss_cons (ps_set (i := 4) scKept.nd rfl (by first | exact Or.inl rfl | exact Or.inr rfl) (pe_makeK Md.M Md.GI (hr.mono (by decide)) rfl Md.gC kI (passes_call L2.takes0 (fun _ _ _ _ h => h)) (pa_cons (pv 0) (pa_cons (pv 3) pa_nil)) (pk_cons (pv 2) pk_nil)))
  (pss_cons (ps_expr (peBm K PySem.F.plainAttrs_list PySem.F.slot_list_append PySem.F.type_list_append mt_append (pe_ix (ixL K) (pv 3) pe_int (fun _ _ => rfl)) (pa_cons pe_int pa_nil)))
  (pss_cons (ps_expr (peBm K PySem.F.plainAttrs_list PySem.F.slot_list_append PySem.F.type_list_append mt_append (pv 3) (pa_cons (pe_lst pa_nil) pa_nil)))
  (pss_cons (ps_set (i := 5) scKept.nd rfl (by first | exact Or.inl rfl | exact Or.inr rfl) (pe_callTy (crTup K) (by rfl) T.b_tuple (by decide +kernel) (pa_cons (pe_lc (own := [("row", 11)]) rfl scKept.nd (piL K (pv 1)) (blkOk_by (N := nKept) (sc := defScope sKept) (by decide +kernel)) (fun _ _ _ _ _ => (pg_name (i := 11) scKept.nd rfl (by first | exact Or.inl rfl | exact Or.inr rfl))) (fun _ _ _ _ _ => pts_nil) (fun _ _ _ _ _ => (pe_callTy (crTup K) (by rfl) T.b_tuple (by decide +kernel) (pa_cons (pv 11) pa_nil)))) pa_nil)))
  (pss_cut (ps_if (pt_cmpR op_ne (pe_callB (crRepr K gd hr.units) (by rfl) T.b_repr (by decide +kernel) (pa_cons (pe_tup (pa_cons (peFld K (pv 4)) (pa_cons (peFld K (pv 4)) (pa_cons (peFld K (pv 4)) (pa_cons (pe_callB (cr_lenOwn Ln.G Ln.s Ln.fn Ln.b pass0 (hr.mono (by decide))) (by rfl) T.b_len PySem.boot_len (pa_cons (pv 4) pa_nil)) pa_nil))))) pa_nil)) (pe_callB (crRepr K gd hr.units) (by rfl) T.b_repr (by decide +kernel) (pa_cons (pe_tup (pa_cons (pv 0) (pa_cons (pv 5) (pa_cons (pv 2) (pa_cons (pe_callB (crLen K) (by rfl) T.b_len PySem.boot_len (pa_cons (pv 1) pa_nil)) pa_nil))))) pa_nil)) (nomark _)) (pss_one (ps_ret pe_bl)) pss_nil)
  (pss_cons (ps_set (i := 6) scKept.nd rfl (by first | exact Or.inl rfl | exact Or.inr rfl) (pe_makeK0 Md.M Md.GI (hr.mono (by decide)) rfl Md.gC kI3 (passes_call L2.takes0 (fun _ _ _ _ h => h)) (pk_cons (pv 5) (pk_cons (pv 0) (pk_cons (pv 2) pk_nil)))))
  (pss_cons (ps_if (PW.pt (pw_or (pt_not (pt_cmpR (op_eqOwn Eq.G Eq.s Eq.fn Eq.b pass0 (hr.mono (by decide))) (pv 4) (pv 6) (nomark _))) (pw_or (pt_cmpR (op_eqOwn Eq.G Eq.s Eq.fn Eq.b pass0 (hr.mono (by decide))) (pv 4) (pv 5) (nomark _)) (pw_or1 (pt_cmpR op_ne (pe_cmpR (op_eqOwn Eq.G Eq.s Eq.fn Eq.b pass0 (hr.mono (by decide))) (pe_make Md.M Md.GI (hr.mono (by decide)) rfl Md.gC hb0 hv0 (passes_call L2.takes0 (fun _ _ _ _ h => h)) (pa_cons (pv 0) (pa_cons (pv 1) pa_nil))) (pv 4) (nomark _)) (pe_cmpR op_eq (pv 2) pe_int (nomark _)) (nomark _)))))) (pss_one (ps_ret pe_bl)) pss_nil)
  (pss_cut (ps_if (pt_cmpR op_ne (pv 0) pe_str (nomark _)) (pss_cons (ps_set (i := 7) scKept.nd rfl (by first | exact Or.inl rfl | exact Or.inr rfl) (pe_op op_sub (pe_callB (crLen K) (by rfl) T.b_len PySem.boot_len (pa_cons (pv 1) pa_nil)) pe_int))
  (pss_cons (ps_set (i := 8) scKept.nd rfl (by first | exact Or.inl rfl | exact Or.inr rfl) (pe_lst (pa_cons (pe_ifExp (pt_cmpR opIsN (pe_ix (ixL K) (pe_ix (ixL K) (pv 1) (pv 7) (fun _ _ => rfl)) (pe_un un_neg pe_int) (fun _ _ => rfl)) pe_non (nomark _)) pe_int pe_non) pa_nil)))
  (pss_cons (ps_set (i := 9) scKept.nd rfl (by first | exact Or.inl rfl | exact Or.inr rfl) (pe_makeK Md.M Md.GI (hr.mono (by decide)) rfl Md.gC kI (passes_call L2.takes0 (fun _ _ _ _ h => h)) (pa_cons (pv 0) (pa_cons (pe_op op_cat (pe_slice (slL K) (pv 1) po_none (po_some (pv 7))) (pe_lst (pa_cons (pe_op op_cat (pe_slice (slL K) (pe_ix (ixL K) (pv 1) (pv 7) (fun _ _ => rfl)) po_none (po_some (pe_un un_neg pe_int))) (pv 8)) pa_nil))) pa_nil)) (pk_cons (pv 2) pk_nil)))
  (pss_cons (ps_set (i := 10) scKept.nd rfl (by first | exact Or.inl rfl | exact Or.inr rfl) (pe_slice C8.sl_txt (pe_join pe_str (pe_lc (own := [("letter", 12)]) rfl scKept.nd (pi_str pe_str) (blkOk_by (N := nKept) (sc := defScope sKept) (by decide +kernel)) (fun _ _ _ _ _ => (pg_name (i := 12) scKept.nd rfl (by first | exact Or.inl rfl | exact Or.inr rfl))) (fun _ _ _ _ _ => (pts_one (pt_cmpR op_notInS (pv 12) (pv 0) (by first | exact nobehind _ (by decide) (by decide) | rfl)))) (fun _ _ _ _ _ => (pv 12)))) po_none (po_some (pe_callB call_len_str (by rfl) T.b_len PySem.boot_len (pa_cons (pv 0) pa_nil)))))
  (pss_one (ps_if (PW.pt (pw_or (pt_cmpR (op_eqOwn Eq.G Eq.s Eq.fn Eq.b pass0 (hr.mono (by decide))) (pv 9) (pv 4) (nomark _)) (pw_or (pt_cmpR (op_eqOwn Eq.G Eq.s Eq.fn Eq.b pass0 (hr.mono (by decide))) (pv 4) (pv 9) (nomark _)) (pw_or1 (PW.pt (pw_and (pt_cmpR op_eq (pe_callB call_len_str (by rfl) T.b_len PySem.boot_len (pa_cons (pv 10) pa_nil)) (pe_callB call_len_str (by rfl) T.b_len PySem.boot_len (pa_cons (pv 0) pa_nil)) (nomark _)) (pw_and1 (pt_cmpR (op_eqOwn Eq.G Eq.s Eq.fn Eq.b pass0 (hr.mono (by decide))) (pv 4) (pe_makeK Md.M Md.GI (hr.mono (by decide)) rfl Md.gC kI (passes_call L2.takes0 (fun _ _ _ _ h => h)) (pa_cons (pv 10) (pa_cons (pv 1) pa_nil)) (pk_cons (pv 2) pk_nil)) (nomark _))))))))) (pss_one (ps_ret pe_bl)) pss_nil)))))) pss_nil)
  (pss_one (ps_ret (pe_cmpR (opEqD K hu) (pe_slice (slL K) (pv 3) po_none (po_some (pe_un un_neg pe_int))) (pe_op op_cat (pe_lst (pa_cons (pe_op op_cat (pe_callTy (crListOf K) (by rfl) T.b_list (by decide +kernel) (pa_cons (pe_ix (ixL K) (pv 1) pe_int (fun _ _ => rfl)) pa_nil)) (pe_lst (pa_cons pe_int pa_nil))) pa_nil)) (pe_lc (own := [("row", 11)]) rfl scKept.nd (piL K (pe_slice (slL K) (pv 1) (po_some pe_int) po_none)) (blkOk_by (N := nKept) (sc := defScope sKept) (by decide +kernel)) (fun _ _ _ _ _ => (pg_name (i := 11) scKept.nd rfl (by first | exact Or.inl rfl | exact Or.inr rfl))) (fun _ _ _ _ _ => pts_nil) (fun _ _ _ _ _ => (pe_callTy (crListOf K) (by rfl) T.b_list (by decide +kernel) (pa_cons (pv 11) pa_nil))))) (nomark _))))))))))))), ?_⟩
    have lz := l64_len hz6
    obtain ⟨xw, hxw, lxw, rdw⟩ := waysN_read hwa
    have rdG : ∀ {G : Hp}, Ex H G → SqL K G wa xw ∧ ∀ s, s < ws.length → ∃ ra, xw[s]? = some (.ref ra) ∧ SqL K G ra ((ws.getD s []).map oW) := fun e => ⟨ex_l e hxw, fun s hs => by
      obtain ⟨ra, r1, r2⟩ := rdw s hs
      exact ⟨ra, r1, ex_l e r2⟩⟩
    -- handed
    refine ⟨_, rfl, wa, rfl, ⟨_, hxw⟩, fun D hD => ?_⟩
    refine lcFresh (walk_list (K := K) (a := wa) (xs := xw)) (fun i => .lst ((ws.getD i []).map oW)) (by omega) hD (fun G e => (rdG e).1) (fun i x G G1 hi e1 hy A kA => ?_) (fun H1 cc e1 hD1 hcc inj => ?_)
    · obtain ⟨rfl, hx⟩ := hy
      obtain ⟨ra, hra, hrs⟩ := (rdG e1).2 i (lxw ▸ hi)
      rw [hra] at hx
      cases hx
      exact ⟨by rfl, _, rfl, ra, _, rfl, .inl hrs, fun l hl => kA l _ hl (Ex.new hl) upd_same⟩
    rw [lxw] at hD1 hcc inj
    -- machine
    refine ⟨_, rfl, _, rfl, _, rfl, rfl, rfl, fun p dx hp hdx ne => ?_⟩
    show spMI K C CB [.ref p, .str z, .ref D, .int (f : Int)] _ _ _
    refine mk_right (dw := waysN ws) hp hdx ne hz6 (.lst (SqL.of hD1) (dp_rows fun j hj => (hcc j hj).2.2)) (.inl rfl) hok n1 (by omega) hf fun H2 e2 hM2 => ?_
    have e02 := e1.trans e2
    -- handed[0].append(5)
    refine ⟨_, rfl, D, _, 0, .ref (cc 0), rfl, rfl, SqL.of (e2 _ _ hD1), atI_nat (refs_at (n := ws.length) (cc := cc) (j := 0) (by omega)), .inl ⟨rfl, _, SqL.of (e2 _ _ (hcc 0 (by omega)).2.2)⟩, cc 0, _, _, rfl, rfl, e2 _ _ (hcc 0 (by omega)).2.2, ?_, ?_⟩
    · rw [List.length_map, row_len hok (by omega), sizeLine_eq]
      omega
    have h0 := hcc 0 (by omega)
    have e03 : Ex H (upd H2 (cc 0) (.lst ((ws.getD 0 []).map oW ++ [V.int 5]))) := e02.mut h0.1
    have hM3 := hM2.put (o := .lst ((ws.getD 0 []).map oW ++ [V.int 5])) (e2 _ _ h0.2.2)
    have hD3 : (upd H2 (cc 0) (.lst ((ws.getD 0 []).map oW ++ [V.int 5]))) D = some (.lst (refs ws.length cc)) := by
      rw [upd_ne h0.2.1.symm]
      exact e2 _ _ hD1
    have hc3 : ∀ j, j < ws.length → (upd H2 (cc 0) (.lst ((ws.getD 0 []).map oW ++ [V.int 5]))) (cc j) = some (.lst (((w5 ws).getD j []).map oW)) := fun j hj => by
      by_cases q : j = 0
      · subst q
        rw [upd_same, w5_zero n1, List.map_append]
        rfl
      · rw [upd_ne fun e => q (inj j 0 hj (by omega) e), w5_at q]
        exact e2 _ _ (hcc j hj).2.2
    generalize (upd H2 (cc 0) (.lst ((ws.getD 0 []).map oW ++ [V.int 5]))) = H3 at e03 hM3 hD3 hc3
    -- handed.append([])
    refine ⟨_, rfl, .inl ⟨rfl, _, SqL.of hD3⟩, by decide, fun e he => ⟨D, _, .ref e, rfl, rfl, Ex.new he _ _ hD3, by rw [refs_len, sizeLine_eq]; omega, ?_⟩⟩
    have e04 : Ex H (upd (upd H3 e (.lst [])) D (.lst (refs ws.length cc ++ [.ref e]))) := (e03.trans (Ex.new he)).mut hD
    have hM4 : MachAt K C (upd (upd H3 e (.lst [])) D (.lst (refs ws.length cc ++ [.ref e]))) p z ws f := (hM3.ex (Ex.new he)).put (Ex.new he _ _ hD3)
    have hc4 : ∀ j, j < (w5 ws).length → (upd (upd H3 e (.lst [])) D (.lst (refs ws.length cc ++ [.ref e]))) (cc j) = some (.lst (((w5 ws).getD j []).map oW)) := fun j hj => by
      rw [w5_len] at hj
      rw [upd_ne (hcc j hj).2.1]
      exact Ex.new he _ _ (hc3 j hj)
    have hr4 := dp_rows (K := K) hc4
    rw [w5_len] at hr4
    have hD4 : (upd (upd H3 e (.lst [])) D (.lst (refs ws.length cc ++ [.ref e]))) D = some (.lst (refs ws.length cc ++ [.ref e])) := upd_same
    have lr : (refs ws.length cc).length = ws.length := refs_len _ _
    generalize refs ws.length cc = hs at hr4 hD4 lr e04 hM4
    generalize (upd (upd H3 e (.lst [])) D (.lst (hs ++ [.ref e]))) = H5 at hr4 hD4 e04 hM4
    -- due
    refine ⟨_, rfl, wa, rfl, ⟨_, (rdG e04).1⟩, fun D2 hD2 => ?_⟩
    refine lcT (K := K) (walk_list (K := K) (a := wa) (xs := xw)) (fun i => rowT (ws.getD i [])) (fun i _ => rowT_only _) (by omega) hD2 (fun G e => (rdG (e04.trans e)).1) (fun i x G G1 hi e1 hy A kA => ?_) (fun H6 ys e5 hD6 hys => ?_)
    · obtain ⟨rfl, hx⟩ := hy
      obtain ⟨ra, hra, hrs⟩ := (rdG (e04.trans e1)).2 i (lxw ▸ hi)
      rw [hra] at hx
      cases hx
      exact ⟨by rfl, _, rfl, ra, _, rfl, .inl ⟨hrs, fun l hl => kA _ _ (Ex.new hl) (.tup (SqT.of upd_same) (dpAll_oN _))⟩⟩
    rw [lxw, range_get] at hys
    refine ⟨D2, ys, rfl, .inl ⟨SqL.of hD6, fun du hdu => ?_⟩⟩
    have e57 := e5.trans (Ex.new (o := .tup ys) hdu)
    have e06 := e04.trans e57
    have hw6 : Dp K (upd H6 du (.tup ys)) (.ref du) (waysT ws) := .tup (SqT.of upd_same) (dpAll_ex (Ex.new hdu) hys)
    have hM6 := hM4.ex e57
    have hD7 := e57 _ _ hD4
    have hr6 := dpAll_ex e57 hr4
    have hdu6 : (upd H6 du (.tup ys)) du = some (.tup ys) := upd_same
    generalize upd H6 du (.tup ys) = H7 at e57 e06 hw6 hM6 hD7 hr6 hdu6
    refine ⟨fun σ G => σ = [some (.str z), some (.ref wa), some (.int (f : Int)), some (.ref D), some (.ref p), some (.ref du), none, none, none, none, none, none, none] ∧ Ex H7 G, ?_, ?_⟩
    · obtain ⟨dx1, wt, hp1, hw1⟩ := hM6.ob
      refine ⟨_, rfl, p, C, dx1, _, _, rfl, hp1, Mt.cl, Mt.n1, mfs_letters, _, rfl, p, C, dx1, _, _, rfl, hp1, Mt.cl, Mt.n2, mfs_ways, _, rfl, p, C, dx1, _, _, rfl, hp1, Mt.cl, Mt.n3, mfs_first, _, rfl, p, dx1, _, rfl, hp1, ⟨p, z, ws, f, rfl, hM6, ws.length, rfl, by omega, ?_⟩⟩
      refine ⟨four_sz, fun t ht => ?_⟩
      dsimp only [tNil]
      refine rRepr_fl (fl_kd4 hz6 hok n7 hf) (by decide) (by decide) (by rfl) (.tup (SqT.of upd_same) (.cons (.str z) (.cons (dp_ex (Ex.new ht) hw1) (.cons (.int _) (.cons (.int _) .nil))))) ?_
      refine ⟨_, rfl, _, rfl, _, rfl, _, rfl, wa, xw, rfl, .inl (ex_l (Ex.new ht) (rdG e06).1), four_sz, fun t2 ht2 => ?_⟩
      dsimp only [tNil]
      refine rRepr_fl (fl_kd4 hz6 hok n7 hf) (by decide) (by decide) (by rfl) (.tup (SqT.of upd_same) (.cons (.str z) (.cons (dp_ex (Ex.new ht2) (dp_ex (Ex.new ht) hw6)) (.cons (.int _) (.cons (by rw [lxw]; exact .int _) .nil))))) ?_
      generalize (kd4 z ws f).shown = sh
      refine ⟨rfl, _, rfl, iteF1 (by rw [decide_eq_true rfl]; rfl) ⟨rfl, (Ex.new ht).trans (Ex.new ht2)⟩⟩
    rintro _ G ⟨rfl, eG⟩
    -- twin
    refine ⟨_, rfl, _, rfl, _, rfl, rfl, rfl, fun tw dx2 hp2 hdx2 ne2 => ?_⟩
    show spMI K C CB [.ref tw, .str z, .ref du, .int (f : Int)] _ _ _
    refine mk_right (dw := waysT ws) hp2 hdx2 ne2 hz6 (dp_ex eG hw6) (.inr rfl) hok n1 (by omega) hf fun H8 e8 hM8 => ?_
    have e78 := eG.trans e8
    refine ⟨_, rfl, _, rfl, eq_mach (hM6.ex e78) hM8 (r := true) (by simp) ⟨true, rfl, iteF1 rfl ?_⟩⟩
    refine ⟨_, rfl, _, rfl, eq_tup nf (hM6.ex e78) (e78 _ _ hdu6) ⟨false, rfl, iteF1 rfl ?_⟩⟩
    refine ⟨_, rfl, _, rfl, fun tw2 dx3 hp3 hdx3 ne3 => ?_⟩
    show spMI K C CB [.ref tw2, .str z, .ref wa, .int ((0 : Nat) : Int)] _ _ _
    refine mk_right (dw := waysN ws) hp3 hdx3 ne3 hz6 (dp_ex (e06.trans e78) hwa) (.inl rfl) hok n1 (by omega) (by omega) fun H9 e9 hM9 => ?_
    have e79 := e78.trans e9
    refine ⟨_, rfl, eq_mach hM9 (hM6.ex e79) (r := decide (0 = f)) (by simp) ?_⟩
    refine ⟨_, rfl, rfl, rfl, _, rfl, iteF1 ?_ ?_⟩
    · by_cases q : f = 0
      · subst q
        rfl
      · rw [decide_eq_false (show ¬ (0 = f) from fun e => q e.symm), decide_eq_false (show ¬ (V.int (f : Int) = V.int 0) from fun e => q (by injection e with e; omega))]
        rfl
    refine ⟨fun σ G => (∃ v6 v7 v8 v9 v10 : Option V, σ = [some (.str z), some (.ref wa), some (.int (f : Int)), some (.ref D), some (.ref p), some (.ref du), v6, v7, v8, v9, v10, none, none]) ∧ Ex H7 G, ?_, ?_⟩
    · refine ⟨_, rfl, rfl, _, rfl, ?_⟩
      by_cases qz : z = ""
      · refine iteF1 (by rw [decide_eq_true (congrArg V.str qz)]; rfl) ⟨⟨_, _, _, _, _, rfl⟩, e79⟩
      refine iteT1 (by rw [decide_eq_false (fun e => qz (by injection e))]; rfl) ?_
      obtain ⟨w0, r1, o, hws⟩ : ∃ (w0 : List (List (Option Nat))) (r1 : List (Option Nat)) (o : Option Nat), ws = w0 ++ [r1 ++ [o]] := by
        rcases List.eq_nil_or_concat ws with q | ⟨w0, r, q⟩
        · rw [q] at n1
          cases n1
        · have hr : r.length = z.cps.size := hok.len r (by rw [q]; simp)
          rcases List.eq_nil_or_concat r with q2 | ⟨r1, o, q2⟩
          · rw [q2] at hr
            have : z.cps.size ≠ 0 := fun e => qz (by
              cases z
              congr 1
              exact Array.eq_empty_of_size_eq_zero e)
            exact (this hr.symm).elim
          · exact ⟨w0, r1, o, by rw [q, q2]; simp⟩
      have hlen : ws.length = w0.length + 1 := by rw [hws, List.length_append, List.length_singleton]
      obtain ⟨wa2, xs2, qe, hs2, hd2⟩ := dp_lst hwa
      cases qe
      rw [hws, List.map_append] at hd2
      obtain ⟨y0, y1, rfl, hy0, hy1⟩ := dpAll_split hd2
      have l0 : y0.length = w0.length := by rw [dpAll_len hy0, List.length_map]
      cases hy1 with
      | cons hl hnil =>
      cases hnil
      obtain ⟨ra, rs, rfl, hra, hrs⟩ := dp_lst hl
      have ers := dpAll_oN_eq hrs
      subst ers
      have e09 := e06.trans e79
      have swG : ∀ {G : Hp}, Ex H G → SqL K G wa (y0 ++ [V.ref ra]) := fun e => ex_l e hs2
      have sraG : ∀ {G : Hp}, Ex H G → SqL K G ra (r1.map oW ++ [oW o]) := fun e => by
        have := ex_l e hra
        rw [List.map_append] at this
        exact this
      have hat : (y0 ++ [V.ref ra])[y0.length]? = some (.ref ra) := by simp
      -- at
      refine ⟨_, rfl, wa, _, rfl, .inl (swG e09), _, _, rfl, rfl, ?_⟩
      have eat : ((y0 ++ [V.ref ra]).length : Int) - 1 = ((y0.length : Nat) : Int) := by
        rw [List.length_append, List.length_singleton]
        omega
      dsimp only
      rw [eat]
      -- turned
      refine ⟨_, rfl, _, rfl, wa, _, _, _, rfl, rfl, swG e09, atI_nat hat, 1, rfl, ra, _, _, _, rfl, rfl, sraG e09, My.atI_last, rfl, _, rfl, if_flip ?_⟩
      refine ⟨one_sz, fun tn htn => ?_⟩
      have e10 : Ex H9 (upd H9 tn (.lst [oW (flipO o)])) := Ex.new htn
      have htn10 : (upd H9 tn (.lst [oW (flipO o)])) tn = some (.lst [oW (flipO o)]) := upd_same
      generalize upd H9 tn (.lst [oW (flipO o)]) = H10 at e10 htn10
      have e010 := e09.trans e10
      -- ways[:at]
      refine ⟨_, rfl, _, rfl, _, rfl, _, rfl, wa, _, rfl, swG e010, fun sl hsl => ?_⟩
      rw [show cutV (y0 ++ [V.ref ra]) none (some ((y0.length : Nat) : Int)) = y0 by rw [cut_take (by rw [List.length_append, List.length_singleton]; omega), List.take_left]]
      have e11 : Ex H10 (upd H10 sl (.lst y0)) := Ex.new hsl
      have hsl11 : (upd H10 sl (.lst y0)) sl = some (.lst y0) := upd_same
      generalize upd H10 sl (.lst y0) = H11 at e11 hsl11
      have e011 := e010.trans e11
      -- ways[at][:-1] + turned
      refine ⟨_, rfl, _, rfl, wa, _, _, _, rfl, rfl, swG e011, atI_nat hat, 1, rfl, _, rfl, ra, _, rfl, sraG e011, fun sr hsr => ?_⟩
      rw [cut_head]
      have e12 : Ex H11 (upd H11 sr (.lst (r1.map oW))) := Ex.new hsr
      have hsr12 : (upd H11 sr (.lst (r1.map oW))) sr = some (.lst (r1.map oW)) := upd_same
      generalize upd H11 sr (.lst (r1.map oW)) = H12 at e12 hsr12
      have lr1 : r1.length ≤ 6 := by
        have := hok.len (r1 ++ [o]) (by rw [hws]; simp)
        rw [List.length_append, List.length_singleton] at this
        omega
      refine ⟨_, rfl, sr, tn, _, _, rfl, rfl, hsr12, e12 _ _ (e11 _ _ htn10), ?_, fun c hc => ⟨one_sz, fun l1 hl1 => ⟨sl, l1, y0, [V.ref c], rfl, rfl, ?_, upd_same, ?_, fun nw hnw => ?_⟩⟩⟩
      · rw [List.length_map, sizeLine_eq]
        show r1.length + 1 ≤ _
        omega
      · exact Ex.new hl1 _ _ (Ex.new hc _ _ (e12 _ _ hsl11))
      · rw [sizeLine_eq]
        show y0.length + 1 ≤ _
        omega
      have e13 := ((Ex.new (o := .lst (r1.map oW ++ [oW (flipO o)])) hc).trans (Ex.new (o := .lst [V.ref c]) hl1)).trans (Ex.new (o := .lst (y0 ++ [V.ref c])) hnw)
      have hc13 : (upd (upd (upd H12 c (.lst (r1.map oW ++ [oW (flipO o)]))) l1 (.lst [V.ref c])) nw (.lst (y0 ++ [V.ref c]))) c = some (.lst (r1.map oW ++ [oW (flipO o)])) := Ex.new hnw _ _ (Ex.new hl1 _ _ upd_same)
      have hnw13 : (upd (upd (upd H12 c (.lst (r1.map oW ++ [oW (flipO o)]))) l1 (.lst [V.ref c])) nw (.lst (y0 ++ [V.ref c]))) nw = some (.lst (y0 ++ [V.ref c])) := upd_same
      generalize (upd (upd (upd H12 c (.lst (r1.map oW ++ [oW (flipO o)]))) l1 (.lst [V.ref c])) nw (.lst (y0 ++ [V.ref c]))) = H13 at e13 hc13 hnw13
      have e013 := (e011.trans e12).trans e13
      have e713 := (((e79.trans e10).trans e11).trans e12).trans e13
      have okb : WaysOk z.cps.size (w0 ++ [r1 ++ [flipO o]]) := by
        refine ⟨fun r hr => ?_, fun r hr s hs => ?_⟩
        · rcases List.mem_append.mp hr with h | h
          · exact hok.len r (by rw [hws]; simp [h])
          · rw [List.mem_singleton.mp h]
            have := hok.len (r1 ++ [o]) (by rw [hws]; simp)
            rw [List.length_append] at this ⊢
            exact this
        · rw [List.length_append, List.length_singleton, ← hlen]
          rcases List.mem_append.mp hr with h | h
          · exact hok.lt r (by rw [hws]; simp [h]) s hs
          · rw [List.mem_singleton.mp h] at hs
            rcases List.mem_append.mp hs with h | h
            · exact hok.lt (r1 ++ [o]) (by rw [hws]; simp) s (by simp [h])
            · have := List.mem_singleton.mp h
              cases o with
              | none => cases this; omega
              | some j => cases this
      have hb13 : Dp K H13 (.ref nw) (waysN (w0 ++ [r1 ++ [flipO o]])) := by
        refine .lst (SqL.of hnw13) ?_
        rw [List.map_append]
        refine dpAll_app (dpAll_ex e013 hy0) (dpAll_one (.lst (SqL.of hc13) ?_))
        have := dpAll_oN (K := K) (H := H13) (r1 ++ [flipO o])
        rw [List.map_append] at this
        exact this
      have wne : w0 ++ [r1 ++ [flipO o]] ≠ ws := fun q => by
        rw [hws] at q
        have q := List.append_cancel_left q
        injection q with q _
        have q := List.append_cancel_left q
        injection q with q _
        exact flip_ne o q
      -- bent
      refine ⟨_, rfl, rfl, rfl, fun bt dxb hpb hdxb neb => ?_⟩
      show spMI K C CB [.ref bt, .str z, .ref nw, .int (f : Int)] _ _ _
      refine mk_right (dw := waysN (w0 ++ [r1 ++ [flipO o]])) hpb hdxb neb hz6 hb13 (.inl rfl) okb (by rw [List.length_append]; exact Nat.le_add_left _ _) (by rw [List.length_append, List.length_singleton]; omega) (by rw [List.length_append, List.length_singleton]; omega) fun H14 e14 hM14 => ?_
      have e714 := e713.trans e14
      -- strange
      refine ⟨⟨_, rfl⟩, _, rfl, fun D4 hD4 => ?_⟩
      refine lcD (K := K) (walk_str (z := "abcd01")) (fun i => !pz z i) (fun i => .str (sgn i)) (by decide) hD4 (fun _ _ => trivial) ?_ ?_
      · rintro i u G2 G1 hi e1 ⟨rfl, c, hc, rfl⟩ N A2 ⟨itN, itA⟩
        have ec : ("abcd01" : Str).cps.getD i 0 = c := by
          rw [Array.getD_eq_getD_getElem?, hc]
          rfl
        refine ⟨by rfl, _, rfl, _, rfl, c, z, rfl, rfl, _, rfl, ?_⟩
        unfold pz at itN itA
        unfold sgn at itA
        rw [ec] at itN
        rw [ec] at itA
        cases wv : decide (c ∈ z.cps.toList) with
        | true => exact iteF1 rfl (itN (by rw [wv]; rfl) _ (Ex.refl _))
        | false => exact iteT1 rfl ⟨_, rfl, itA (by rw [wv]; rfl) _ _ (Ex.refl _) (.str _)⟩
      intro H15 ys2 e15 hD15 hys2
      have hys3 : ys2 = (((List.range 6).filter fun i => !pz z i).map sgn).map V.str := dpStrs_eq (by
        rw [List.map_map]
        exact hys2)
      subst hys3
      obtain ⟨j1, j2⟩ := join_p fun i => !pz z i
      obtain ⟨q1, q2, q3⟩ := strange_ok hz6
      have lzs : z.length ≤ sizeLine := by
        rw [sizeLine_eq]
        show z.cps.size ≤ _
        omega
      refine ⟨_, D4, _, rfl, rfl, .inl (SqL.of hD15), j2, _, rfl, z, rfl, lzs, _, rfl, _, rfl, ?_, ?_⟩
      · rw [j1, sizeLine_eq]
        omega
      rw [j1]
      have hsg : strangeS z = Txt.slice (wordP fun i => !pz z i) none (some (z.length : Int)) := rfl
      rw [← hsg]
      have lsg : (strangeS z).length ≤ sizeLine := by
        have := l64_len q1
        rw [sizeLine_eq]
        show (strangeS z).cps.size ≤ _
        omega
      generalize strangeS z = sg at q1 q2 lsg
      have e715 := e714.trans e15
      have hM15 := hM14.ex e15
      refine ⟨_, rfl, _, rfl, eq_mach hM15 (hM6.ex e715) (r := false) (by rw [decide_eq_false wne]; simp) ⟨false, rfl, iteF1 rfl ?_⟩⟩
      refine ⟨_, rfl, _, rfl, eq_mach (hM6.ex e715) hM15 (r := false) (by rw [decide_eq_false wne.symm]; simp) ⟨false, rfl, iteF1 rfl ?_⟩⟩
      refine ⟨_, rfl, sg, rfl, lsg, _, rfl, z, rfl, lzs, rfl, _, rfl, ?_⟩
      by_cases ql : sg.cps.size = z.cps.size
      · refine iteT1 (decide_eq_true (congrArg (fun n : Nat => V.int (n : Int)) ql)) ?_
        refine ⟨_, rfl, _, rfl, _, rfl, _, rfl, rfl, rfl, fun st dxs hps hdxs nes => ?_⟩
        show spMI K C CB [.ref st, .str sg, .ref wa, .int (f : Int)] _ _ _
        refine mk_right (dw := waysN ws) hps hdxs nes q1 (dp_ex (e06.trans e715) hwa) (.inl rfl) (by rw [ql]; exact hok) n1 (by omega) hf fun H16 e16 hM16 => ?_
        have e716 := e715.trans e16
        exact eq_mach (hM6.ex e716) hM16 (r := false) (by rw [decide_eq_false (q2 qz).symm]; simp) ⟨false, rfl, iteF1 rfl ⟨⟨_, _, _, _, _, rfl⟩, e716⟩⟩
      · exact iteF1 (decide_eq_false fun e => ql (by injection e with e; exact Int.ofNat.inj e)) (iteF1 rfl ⟨⟨_, _, _, _, _, rfl⟩, e715⟩)
    · rintro _ G3 ⟨⟨v6, v7, v8, v9, v10, rfl⟩, e10⟩
      have e010 := e06.trans e10
      have hD10 := e10 _ _ hD7
      refine ⟨_, rfl, _, rfl, _, rfl, D, _, rfl, SqL.of hD10, fun q hq => ?_⟩
      rw [cut_head]
      have e11 : Ex G3 (upd G3 q (.lst hs)) := Ex.new hq
      have hq11 : (upd G3 q (.lst hs)) q = some (.lst hs) := upd_same
      generalize upd G3 q (.lst hs) = G4 at e11 hq11
      have e011 := e010.trans e11
      obtain ⟨ra, hra, hrs⟩ := (rdG e011).2 0 (by omega)
      refine ⟨_, rfl, wa, _, 0, .ref ra, rfl, rfl, (rdG e011).1, atI_nat hra, ra, _, rfl, .inl hrs, fun l0 hl0 => ?_⟩
      refine ⟨one_sz, fun l5 hl5 => ⟨l0, l5, _, _, rfl, rfl, Ex.new hl5 _ _ upd_same, upd_same, ?_, fun c hc => ⟨one_sz, fun l1 hl1 => ?_⟩⟩⟩
      · rw [List.length_map, row_len hok (by omega), sizeLine_eq]
        show z.cps.size + 1 ≤ _
        omega
      have e12 := (((Ex.new (o := .lst ((ws.getD 0 []).map oW)) hl0).trans (Ex.new (o := .lst [V.int 5]) hl5)).trans (Ex.new (o := .lst ((ws.getD 0 []).map oW ++ [V.int 5])) hc)).trans (Ex.new (o := .lst [V.ref c]) hl1)
      have hc12 : (upd (upd (upd (upd G4 l0 (.lst ((ws.getD 0 []).map oW))) l5 (.lst [V.int 5])) c (.lst ((ws.getD 0 []).map oW ++ [V.int 5]))) l1 (.lst [V.ref c])) c = some (.lst ((ws.getD 0 []).map oW ++ [V.int 5])) := Ex.new hl1 _ _ upd_same
      have hl12 : (upd (upd (upd (upd G4 l0 (.lst ((ws.getD 0 []).map oW))) l5 (.lst [V.int 5])) c (.lst ((ws.getD 0 []).map oW ++ [V.int 5]))) l1 (.lst [V.ref c])) l1 = some (.lst [V.ref c]) := upd_same
      generalize (upd (upd (upd (upd G4 l0 (.lst ((ws.getD 0 []).map oW))) l5 (.lst [V.int 5])) c (.lst ((ws.getD 0 []).map oW ++ [V.int 5]))) l1 (.lst [V.ref c])) = G5 at e12 hc12 hl12
      have e012 := e011.trans e12
      refine ⟨_, rfl, 1, rfl, wa, _, rfl, (rdG e012).1, fun sl hsl => ?_⟩
      have ec : cutV xw (some 1) none = xw.drop 1 := cut_drop (k := 1) (by omega)
      rw [ec]
      have e13 : Ex G5 (upd G5 sl (.lst (xw.drop 1))) := Ex.new hsl
      have hsl13 : (upd G5 sl (.lst (xw.drop 1))) sl = some (.lst (xw.drop 1)) := upd_same
      generalize upd G5 sl (.lst (xw.drop 1)) = G6 at e13 hsl13
      have e013 := e012.trans e13
      refine ⟨sl, rfl, ⟨_, SqL.of hsl13⟩, fun D3 hD3 => ?_⟩
      have ld : (xw.drop 1).length = ws.length - 1 := by rw [List.length_drop, lxw]
      refine lcDA (K := K) (walk_list (K := K) (a := sl) (xs := xw.drop 1)) (fun i => rowN (ws.getD (i + 1) [])) (by omega) hD3 (fun G e => SqL.of (e _ _ hsl13)) (fun i x G G1 hi e1 hy A kA => ?_) (fun H6 ys e5 hD6 hys => ?_)
      · obtain ⟨rfl, hx⟩ := hy
        rw [List.getElem?_drop, Nat.add_comm 1 i] at hx
        obtain ⟨ra, hra, hrs⟩ := (rdG (e013.trans e1)).2 (i + 1) (by omega)
        rw [hra] at hx
        cases hx
        exact ⟨by rfl, _, rfl, ra, _, rfl, .inl hrs, fun l hl => kA _ _ (Ex.new hl) (.lst (SqL.of (nw_upd hl)) (dpAll_oN _))⟩
      have hys := dpAll_ex nw_ex hys
      have lys := dpAll_len hys
      rw [List.length_map, List.length_range, ld] at lys
      refine ⟨l1, D3, _, _, rfl, rfl, e5 _ _ (e13 _ _ hl12), hD6, ?_, fun fin hfin => ?_⟩
      · rw [sizeLine_eq]
        show 1 + ys.length ≤ _
        omega
      refine ⟨waysN (w5 ws), waysN (w5 ws), ?_, ?_, (sh_waysN _).shaped (by omega), (sh_waysN _).shaped (by omega), ?_⟩
      · have eG := ((e12.trans e13).trans e5).trans (Ex.new (o := .lst ([V.ref c] ++ ys)) hfin)
        exact .lst (SqL.of (eG _ _ hq11)) (dpAll_ex ((e10.trans e11).trans eG) hr6)
      · have e6 := Ex.new (o := .lst ([V.ref c] ++ ys)) hfin
        have ew : waysN (w5 ws) = .list (rowN (ws.getD 0 [] ++ [some 5]) :: (List.range (ws.length - 1)).map fun i => rowN (ws.getD (i + 1) [])) := by
          cases ws with
          | nil => cases n1
          | cons r l =>
            show PyData.list _ = PyData.list _
            congr 1
            show rowN (r ++ [some 5]) :: l.map rowN = rowN (r ++ [some 5]) :: (List.range l.length).map fun i => rowN (l.getD i [])
            rw [range_get]
        rw [ew]
        rw [ld] at hys
        refine .lst (SqL.of upd_same) (.cons (.lst (SqL.of (e6 _ _ (e5 _ _ (e13 _ _ hc12)))) ?_) (dpAll_ex e6 hys))
        have := dpAll_oN (K := K) (H := upd H6 fin (.lst ([V.ref c] ++ ys))) (ws.getD 0 [] ++ [some 5])
        rw [List.map_append] at this
        exact this
      · rw [eqv_waysN, decide_eq_true rfl]
        exact k _ ((e013.trans e5).trans (Ex.new hfin))
end
end My
set_option Elab.async false
set_option linter.all false
set_option autoImplicit false
set_option maxRecDepth 100000
set_option maxHeartbeats 4000000
namespace My
open PySem PySem.Spec PyProof.Rows L2 Evl
open PySem.OneX (OneTxt Tail tail_ex exTail)
open PySem.OneXL (keyTail tail_key line_key)
open LamX (TabB TabS Tabs ExtN CodeO pe_lamcall lamS_by)
/-- all but the deal's two lists and the tables stay -/
def ExR (a b : Addr) (H H' : Hp) : Prop := ∀ c o, H c = some o → c ≠ a → c ≠ b → (∀ ps, o ≠ .tbl ps) → H' c = some o
theorem ExR.refl {a b : Addr} {H : Hp} : ExR a b H H := fun _ _ h _ _ _ => h
theorem ExR.trans {a b : Addr} {H H1 H2 : Hp} (e : ExR a b H H1) (f : ExR a b H1 H2) : ExR a b H H2 := fun c o h n m t => f c o (e c o h n m t) n m t
theorem exR_of {a b : Addr} {H H' : Hp} (e : Ex H H') : ExR a b H H' := fun c o h _ _ _ => e c o h
theorem exR_D {a b : Addr} {H H' : Hp} (e : ExD a b H H') : ExR a b H H' := fun c o h n m _ => e c o h n m
theorem exR_N {a b : Addr} {H H' : Hp} (e : ExtN H H') : ExR a b H H' := fun c o h _ _ t => e c o h t
theorem tex_extN {H H' : Hp} (e : ExtN H H') : TEx H H' := ⟨fun b xs h => e b _ h (fun ps z => by cases z), fun b o u h => e b _ h (fun ps z => by cases z)⟩
theorem Deal.extN {H H' : Hp} {a b : Addr} (h : Deal H a b) (e : ExtN H H') : Deal H' a b := by
  obtain ⟨⟨cs, z, h1, h2, r⟩, ne⟩ := h
  exact ⟨⟨cs, z, e _ _ h1 (fun ps q => by cases q), e _ _ h2 (fun ps q => by cases q), r⟩, ne⟩
theorem MachAt.extN {K : PySem.W.Frag} {C : Addr} {H H' : Hp} {p : Addr} {z : Str} {ws : List (List (Option Nat))} {f : Nat} (h : MachAt K C H p z ws f) (e : ExtN H H') : MachAt K C H' p z ws f := by
  obtain ⟨dx, wt, h1, h2⟩ := h.ob
  exact ⟨dx, wt, e _ _ h1 (fun ps q => by cases q), dp_tex (tex_extN e) h2 (rowsT_only ws)⟩
theorem MachAt.exD {K : PySem.W.Frag} {C : Addr} {H H' : Hp} {p a b : Addr} {z : Str} {ws : List (List (Option Nat))} {f : Nat} (h : MachAt K C H p z ws f) (d : Deal H a b) (e : ExD a b H H') : MachAt K C H' p z ws f := by
  obtain ⟨dx, wt, h1, h2⟩ := h.ob
  obtain ⟨⟨xs, q1⟩, ys, q2⟩ := d.lst
  exact ⟨dx, wt, e _ _ h1 (fun q => by rw [q, q1] at h1; cases h1) (fun q => by rw [q, q2] at h1; cases h1), dp_tex (e.tex d) h2 (rowsT_only ws)⟩
theorem tabs_keep {T : List (Addr × Str)} {H H' : Hp} (t : Tabs T H) (e : ∀ b o, H b = some o → (∀ xs, o ≠ .lst xs) → H' b = some o) : Tabs T H' := fun p hp => by
  obtain ⟨ps, h1, h2, h3⟩ := t p hp
  refine ⟨ps, e _ _ h1 (fun xs q => by cases q), h2, fun pos cv hc => ?_⟩
  obtain ⟨c, e1, e2⟩ := h3 pos cv hc
  exact ⟨c, e1, e _ _ e2 (fun xs q => by unfold CodeO at q; cases q)⟩
theorem tabs_exD {T : List (Addr × Str)} {H H' : Hp} {a b : Addr} (t : Tabs T H) (d : Deal H a b) (e : ExD a b H H') : Tabs T H' := by
  obtain ⟨⟨xs, q1⟩, ys, q2⟩ := d.lst
  exact tabs_keep t fun c o hc n => e c o hc (fun q => by rw [q, q1] at hc; cases hc; exact n _ rfl) (fun q => by rw [q, q2] at hc; cases hc; exact n _ rfl)
/-- a part of the memory that none of the drawing and of the tables touches -/
structure Calm (a b : Addr) (S H : Hp) : Prop where
  ex : Ex S H
  no : ∀ c o, S c = some o → c ≠ a ∧ c ≠ b ∧ ∀ ps, o ≠ .tbl ps
theorem Calm.R {a b : Addr} {S H H' : Hp} (h : Calm a b S H) (e : ExR a b H H') : Calm a b S H' :=
  ⟨fun c o q => e c o (h.ex c o q) (h.no c o q).1 (h.no c o q).2.1 (h.no c o q).2.2, h.no⟩
theorem rep_list {z : Str} {n : Nat} : (repS z n).cps.toList = (List.replicate n z.cps.toList).flatten := by
  unfold repS
  simp
theorem repS_size {z : Str} {n : Nat} : (repS z n).cps.size = n * z.cps.size := by
  rw [← Array.length_toList, rep_list, List.length_flatten, List.map_replicate, List.sum_replicate_nat, Array.length_toList]
theorem rep_mem {z : Str} {n c : Nat} (h : c ∈ (repS z n).cps.toList) : c ∈ z.cps.toList := by
  rw [rep_list] at h
  obtain ⟨l, hl, hc⟩ := List.mem_flatten.mp h
  rw [(List.mem_replicate.mp hl).2] at hc
  exact hc
theorem ones_of {cs : List Nat} : ∀ {ys : List V}, (∀ v ∈ ys, ∃ c ∈ cs, v = V.str ⟨#[c]⟩) → ∃ ds : List Nat, ys = (ds.map fun c => (⟨#[c]⟩ : Str)).map V.str ∧ ∀ d ∈ ds, d ∈ cs
  | [], _ => ⟨[], rfl, by simp⟩
  | v :: ys, h => by
    obtain ⟨ds, e, hd⟩ := ones_of (ys := ys) fun v hv => h v (by simp [hv])
    obtain ⟨c, hc, rfl⟩ := h v (by simp)
    exact ⟨c :: ds, by rw [e]; rfl, fun d q => by
      rcases List.mem_cons.mp q with rfl | q
      · exact hc
      · exact hd d q⟩
theorem glue_fold : ∀ (ds : List Nat) (acc : Array Nat), ((ds.map fun c => (⟨#[c]⟩ : Str)).foldl (fun acc p => acc ++ ("" : Str).cps ++ p.cps) acc) = acc ++ ds.toArray
  | [], acc => by simp
  | d :: ds, acc => by
    rw [List.map_cons, List.foldl_cons, glue_fold ds]
    apply Array.toList_inj.mp
    have e : ("" : Str).cps = #[] := rfl
    rw [e]
    simp
theorem join_ones (ds : List Nat) : Txt.join "" (ds.map fun c => (⟨#[c]⟩ : Str)) = ⟨ds.toArray⟩ := by
  cases ds with
  | nil => rfl
  | cons d ds =>
    show (⟨((ds.map fun c => (⟨#[c]⟩ : Str)).foldl (fun acc p => acc ++ ("" : Str).cps ++ p.cps) (#[d] : Array Nat))⟩ : Str) = _
    rw [glue_fold]
    congr 1
    apply Array.toList_inj.mp
    simp
theorem ones_small {ds : List Nat} (h : ds.length ≤ 1000) : ((ds.map fun c => (⟨#[c]⟩ : Str)).map (·.length)).sum + (ds.map fun c => (⟨#[c]⟩ : Str)).length * ("" : Str).length ≤ 16777216 := by
  have e : ((ds.map fun c => (⟨#[c]⟩ : Str)).map (·.length)) = ds.map fun _ => 1 := by
    rw [List.map_map]
    rfl
  have e0 : ("" : Str).length = 0 := rfl
  rw [e, e0, Nat.mul_zero, Nat.add_zero]
  have : ∀ l : List Nat, (l.map fun _ => 1).sum = l.length := fun l => by
    induction l with
    | nil => rfl
    | cons x l ih =>
      rw [List.map_cons, List.sum_cons, ih, List.length_cons]
      omega
  rw [this]
  omega
/-! repr of what a row holds -/
def reO : Option Nat → Str
  | none => Str.ofString "None"
  | some k => Str.ofString (toString ((k : Nat) : Int))
def rReprO : List V → Hp → VK → Prop := fun xs H Q => ∃ o : Option Nat, xs = [oW o] ∧ (∀ k, o = some k → k < 256) ∧ Q (.str (reO o)) H
theorem log_small : ∀ j : Fin 256, (((j.val : Nat) : Int)).natAbs.log2 < 1920 := by decide +kernel
theorem crReprO {X : Cx} : CallR X (.builtin "repr") rReprO := by
  intro pins s σ H xs us Q I r h
  obtain ⟨o, rfl, hz, q⟩ := h
  obtain ⟨u, rfl, ru⟩ := vals1 r
  cases o with
  | none =>
    cases ru
    exact PySem.P.repr_of_none ⟨.str _, H, I.tok _, ⟨_, rfl⟩, q⟩
  | some k =>
    obtain ⟨t, rfl⟩ := ru
    exact PySem.P.repr_of_int (log_small ⟨k, hz k rfl⟩) ⟨.str _, H, I.tok _, ⟨_, rfl⟩, q⟩
theorem fault_none {z row : Str} (h1 : ∀ c ∈ row.cps.toList, c ∈ z.cps.toList) (h2 : row.cps.size ≤ 200) : rowFault z (.str row) = none := by
  show (match row.cps.toList.findIdx? (fun c => !decide (c ∈ z.cps.toList)) with
    | some i => some (i : Int)
    | none => if row.cps.size ≤ 200 then none else some 200) = none
  have e : row.cps.toList.findIdx? (fun c => !decide (c ∈ z.cps.toList)) = none := by
    rw [List.findIdx?_eq_none_iff]
    intro c hc
    rw [decide_eq_true (h1 c hc)]
    rfl
  rw [e]
  show (if row.cps.size ≤ 200 then (none : Option Int) else some 200) = none
  rw [if_pos h2]
theorem fault_long {z row : Str} (h1 : ∀ c ∈ row.cps.toList, c ∈ z.cps.toList) (h2 : 200 < row.cps.size) : rowFault z (.str row) = some 200 := by
  show (match row.cps.toList.findIdx? (fun c => !decide (c ∈ z.cps.toList)) with
    | some i => some (i : Int)
    | none => if row.cps.size ≤ 200 then none else some 200) = some 200
  have e : row.cps.toList.findIdx? (fun c => !decide (c ∈ z.cps.toList)) = none := by
    rw [List.findIdx?_eq_none_iff]
    intro c hc
    rw [decide_eq_true (h1 c hc)]
    rfl
  rw [e]
  show (if row.cps.size ≤ 200 then (none : Option Int) else some 200) = some 200
  rw [if_neg (by omega)]
theorem nn_some (o : Option Nat) : (!decide (oW o = V.non)) = o.isSome := by
  cases o with
  | none => rfl
  | some s => rw [decide_eq_false (fun q => by cases q)]; rfl
theorem three_sz : 3 ≤ sizeLine := by rw [sizeLine_eq]; omega
theorem two_sz : 2 ≤ sizeLine := by rw [sizeLine_eq]; omega
theorem ixo_at {z : Str} (h : z ∈ L64) {i c : Nat} (hc : z.cps[i]? = some c) : ixo z c = i := by
  have q : ∀ z ∈ L64, ((List.range 6).all fun i => match z.cps[i]? with | some c => ixo z c == i | none => true) = true := by decide +kernel
  have l := l64_len h
  have hi : i < z.cps.size := by
    obtain ⟨hi, _⟩ := Array.getElem?_eq_some_iff.mp hc
    exact hi
  have := List.all_eq_true.mp (q z h) i (List.mem_range.mpr (by omega))
  rw [hc] at this
  exact eq_of_beq this
theorem z_pos {z : Str} (h : z ≠ "") : 1 ≤ z.cps.size := by
  rcases Nat.eq_zero_or_pos z.cps.size with q | q
  · exact (h (by
      cases z
      congr 1
      exact Array.eq_empty_of_size_eq_zero q)).elim
  · exact q
def kdR (nm : Str) (d : PyData) : PyData := .tuple [.str nm, d]
def kd3 (o : Option Nat) (n : Nat) : PyData := .tuple [oN o, .bool o.isSome, .int (n : Int)]
theorem fl_kd3 {o : Option Nat} {n : Nat} (h : ∀ s, o = some s → s < 256) (hn : n < 256) : Fl 1 27 (kd3 o n) := by
  refine fl_tup (k := 0) (w := 8) (m := 3) (fun d hd => ?_) (Nat.le_refl 3)
  rcases List.mem_cons.mp hd with rfl | hd
  · cases o with
    | none => exact fl_non.mono (Nat.le_refl _) (by omega)
    | some s => exact fl_nat (h s rfl)
  rcases List.mem_cons.mp hd with rfl | hd
  · exact (fl_bool _).mono (Nat.le_refl _) (by omega)
  rcases List.mem_cons.mp hd with rfl | hd
  · exact fl_nat hn
  cases hd
def kdS (s : Nat) (ws : List (List (Option Nat))) (z : Str) (f : Nat) : PyData := .tuple [.int (s : Int), waysT ws, .str z, .int (f : Int)]
theorem sh_z {z : Str} (h : z ∈ L64) : Sh 0 (.str z) := sh_str (by
  have := fl_word z h
  simp only [Bool.and_eq_true] at this
  exact this.1.1.1)
theorem sh_kdS {s : Nat} {ws : List (List (Option Nat))} {z : Str} {f : Nat} (h : z ∈ L64) : Sh 3 (kdS s ws z f) := by
  refine sh_tup fun d hd => ?_
  rcases List.mem_cons.mp hd with rfl | hd
  · exact (sh_int _).mono (by omega)
  rcases List.mem_cons.mp hd with rfl | hd
  · exact sh_waysT ws
  rcases List.mem_cons.mp hd with rfl | hd
  · exact (sh_z h).mono (by omega)
  rcases List.mem_cons.mp hd with rfl | hd
  · exact (sh_int _).mono (by omega)
  cases hd
/-- what stays while the law walks -/
structure WSt (K : PySem.W.Frag) (C a b : Addr) (S : Hp) (mx : Addr) (z : Str) (ws : List (List (Option Nat))) (f : Nat) (TT : List (Addr × Str)) (H G : Hp) : Prop where
  r : ExR a b H G
  d : Deal G a b
  s : Calm a b S G
  t : Tabs TT G
  m : MachAt K C G mx z ws f
theorem WSt.ex {K : PySem.W.Frag} {C a b mx : Addr} {S : Hp} {z : Str} {ws : List (List (Option Nat))} {f : Nat} {TT : List (Addr × Str)} {H G G' : Hp} (h : WSt K C a b S mx z ws f TT H G) (e : Ex G G') : WSt K C a b S mx z ws f TT H G' :=
  ⟨h.r.trans (exR_of e), h.d.ex e, h.s.R (exR_of e), h.t.ext e, h.m.ex e⟩
theorem WSt.exD {K : PySem.W.Frag} {C a b mx : Addr} {S : Hp} {z : Str} {ws : List (List (Option Nat))} {f : Nat} {TT : List (Addr × Str)} {H G G' : Hp} (h : WSt K C a b S mx z ws f TT H G) (e : ExD a b G G') (d : Deal G' a b) : WSt K C a b S mx z ws f TT H G' :=
  ⟨h.r.trans (exR_D e), d, h.s.R (exR_D e), tabs_exD h.t h.d e, h.m.exD h.d e⟩
theorem WSt.exN {K : PySem.W.Frag} {C a b mx : Addr} {S : Hp} {z : Str} {ws : List (List (Option Nat))} {f : Nat} {TT : List (Addr × Str)} {H G G' : Hp} (h : WSt K C a b S mx z ws f TT H G) (e : ExtN G G') (t : Tabs TT G') : WSt K C a b S mx z ws f TT H G' :=
  ⟨h.r.trans (exR_N e), h.d.extN e, h.s.R (exR_N e), t, h.m.extN e⟩
section
variable {P : Program} {w : World} {K : PySem.W.Frag} {mg : Str → Option Value} {base : Heap}
/-- a def whose code object is told -/
theorem okC {x qual : Str} {st : Stmt} {f : Addr} {N ps : List Str} {k : Nat} {sp : Sp} {oc kV doc pm cdv ct : Value} {od an : Option Addr} {osl : Array (Option Value)}
    (lk : K.lookup f = some ⟨oc, od, .func (PySem.W.fnOf x qual (defArgs st) (defBody st) (defScope st) .none kV doc pm an cdv ct), osl⟩) (hcd : PySem.W.codeIn K cdv qual = true) (S : FnScope N ps (defScope st)) (len : ∀ vs H Q E, sp vs H Q E → vs.length = ps.length)
    (hbody : ∀ (A : Around) (outer : List Env) (s : Shared) (H : Hp) (vs : List V) (Q : VK) (E : XK), Room k (A.deeper (envOfC qual (defScope st) s.heap.objs.size f cdv)) → sp vs H Q E →
      ∃ t, PSs (cxOf CX0 P w K mg base N qual (defScope st) f cdv A outer s H E).nox (defBody st) t ∧ t { nx := fun _ H' => Q .non H', rt := Q } (start N vs) H) : FnOk P w K mg base CX0 (k + 1) f (PySem.W.fnOf x qual (defArgs st) (defBody st) (defScope st) .none kV doc pm an cdv ct) ps sp :=
  fn_of lk hcd S len fun A outer s H vs Q E hr hsp => by
    obtain ⟨t, h, q⟩ := hbody A outer s H vs Q E hr hsp
    exact ⟨t, h.nox, q⟩
def spIsW (K : PySem.W.Frag) (T : List (Addr × Str)) : Sp := fun vs H Q _ => ∃ (a b wa : Addr) (S : Hp) (z : Str) (ws : List (List (Option Nat))) (f : Nat), vs = [.ref a, .str z, .ref wa, .int (f : Int)] ∧ Deal H a b ∧ Calm a b S H ∧ Dp K S (.ref wa) (waysN ws) ∧ WaysOk z.cps.size ws ∧ z ∈ L64 ∧ 1 ≤ ws.length ∧ ws.length ≤ 7 ∧ f < ws.length ∧ Tabs T H ∧
  ∀ H', ExR a b H H' → Deal H' a b → Tabs T H' → Q (.bl true) H'
abbrev sIsW : Stmt := sIsWalked
abbrev nIsW : List Str := ["deal", "letters", "ways", "first", "machine", "turn", "row", "at", "walk", "due", "state", "other", "letter", "long"]
theorem scIsW : FnScope nIsW ["deal", "letters", "ways", "first"] (defScope sIsWalked) := ⟨rfl, rfl, rfl, by decide +kernel, rfl, by decide +kernel, by decide +kernel⟩
theorem ok_IsW {f C CM CB CF CL fM fB fF fL c pt : Addr} {oc kV doc pm ct : Value} {od an : Option Addr} {osl : Array (Option Value)} {q0 : Str} {TT : List (Addr × Str)} (hq0 : (("_law_is_walked" : Str) ++ (".<locals>." : Str)) ++ ("<lambda>" : Str) = q0) (hT0 : (pt, q0) ∈ TT) (hT1 : ∀ p ∈ TT, p.1 = pt → p.2 = q0)
    (lk : K.lookup f = some ⟨oc, od, .func (PySem.W.fnOf "_law_is_walked" "_law_is_walked" (defArgs sIsWalked) (defBody sIsWalked) (defScope sIsWalked) .none kV doc pm an (.ref c) ct), osl⟩) (hcd : PySem.W.codeIn K (.ref c) "_law_is_walked" = true) (T : Txt K mg) (Mt : McT K C) (ET : ErrT K mg CM CB CF CL fM fB fF fL) (TB : TabB base mg c pt)
    (Md : Made P w K mg base C CM) (Ma : OwnMX P w K mg base C "after" 5 ["self", "row"] (spAfter K C CB)) (Mr : OwnMX P w K mg base C "reads" 6 ["self", "row"] (spReads K C CB)) (Mb : OwnMX P w K mg base C "beginning" 5 ["self", "row"] (spBeg K C CB)) (Ms : OwnMX P w K mg base C "started" 6 ["self", "state"] (spStarted K C CF)) (Mp : OwnMX P w K mg base C "step" 5 ["self", "state", "letter"] (spStep K C CF CL))
    (Oa : Own P w K mg base "_law_any" 1 ["deal", "bound"] spAny) (Oo : Own P w K mg base "_law_of" 2 ["deal", "some"] spOf) (Os : Own P w K mg base "_law_of" 2 ["deal", "some"] spOfS) (Ow : Own P w K mg base "_law_walk" 1 ["letters", "ways", "state", "row"] (spLWalk K))
    {fR : Addr} {fdR : FuncData} (FR : Fun K "_law_refused" "_law_refused" sRefused fR fdR) (mR : mg "_law_refused" = some (.ref fR)) (bR : L2.Binds K fdR ["work"] []) :
    FnG P w K mg base CX0 10 f (PySem.W.fnOf "_law_is_walked" "_law_is_walked" (defArgs sIsWalked) (defBody sIsWalked) (defScope sIsWalked) .none kV doc pm an (.ref c) ct) ["deal", "letters", "ways", "first"] (spIsW K TT) := by
  obtain ⟨mv, kI⟩ := mi_kbinds Md.FI
  obtain ⟨ocR, odR, kVR, docR, pmR, anR, cdR, ctR, oslR, eR, lkR, hcR⟩ := FR.ex
  subst eR
  refine okGc lk hcd scIsW (fun vs H Q E h => ?_) (fun A outer s H vs Q E gd hr h => ?_)
  · obtain ⟨a, b, wa, S, z, ws, f, rfl, _⟩ := h
    rfl
  · obtain ⟨a, b, wa, S, z, ws, f, rfl, hD, hS, hwa, hok, hz6, n1, n7, hf, hT, k⟩ := h
    have hu := hu64 hr
    refine ⟨_, (pss_cons (ps_set (i := 4) scIsW.nd rfl (by first | exact Or.inl rfl | exact Or.inr rfl) (pe_makeK Md.M Md.GI (hr.mono (by decide)) rfl Md.gC kI (passes_call L2.takes0 (fun _ _ _ _ h => h)) (pa_cons (pv 1) (pa_cons (pv 2) pa_nil)) (pk_cons (pv 3) pk_nil)))
  (pss_cons (ps_for PassesOwn.never rfl (pi_range1 (by rfl) T.b_range (pa_cons pe_int pa_nil)) (pg_name (i := 5) scIsW.nd rfl (by first | exact Or.inl rfl | exact Or.inr rfl)) (pss_cut (ps_set (i := 6) scIsW.nd rfl (by first | exact Or.inl rfl | exact Or.inr rfl) (pe_ifExp (pt_cmpR op_eq (pv 1) pe_str (nomark _)) pe_str (pe_join pe_str (pe_lc (own := [("at", 7)]) rfl scIsW.nd (pi_range1 (by rfl) T.b_range (pa_cons (pe_call Oo.G (hr.mono (by decide)) rfl Oo.m Oo.kp Oo.b .nil pass0 (pa_cons (pv 0) (pa_cons (pe_lst (pa_cons pe_int (pa_cons pe_int (pa_cons pe_int (pa_cons pe_int (pa_cons pe_int (pa_cons pe_int pa_nil))))))) pa_nil))) pa_nil)) (blkOk_by (N := nIsW) (sc := defScope sIsW) (by decide +kernel)) (fun _ _ _ _ _ => (pg_name (i := 7) scIsW.nd rfl (by first | exact Or.inl rfl | exact Or.inr rfl))) (fun _ _ _ _ _ => pts_nil) (fun _ _ _ _ _ => (pe_call Os.G (hr.mono (by decide)) rfl Os.m Os.kp Os.b .nil pass0 (pa_cons (pv 0) (pa_cons (pv 1) pa_nil))))))))
  (pss_cons (ps_set (i := 8) scIsW.nd rfl (by first | exact Or.inl rfl | exact Or.inr rfl) (pe_call Ow.G (hr.mono (by decide)) rfl Ow.m Ow.kp Ow.b .nil pass0 (pa_cons (pv 1) (pa_cons (pv 2) (pa_cons (pv 3) (pa_cons (pv 6) pa_nil))))))
  (pss_cut (ps_set (i := 9) scIsW.nd rfl (by first | exact Or.inl rfl | exact Or.inr rfl) (pe_ifExp (pt_cmpR op_gt (pe_callB (crLen K) (by rfl) T.b_len PySem.boot_len (pa_cons (pv 8) pa_nil)) (pe_callB call_len_str (by rfl) T.b_len PySem.boot_len (pa_cons (pv 6) pa_nil)) (nomark _)) (pe_ix (ixL K) (pv 8) (pe_un un_neg pe_int) (fun _ _ => rfl)) pe_non))
  (pss_cut (ps_if (pt_cmpR op_ne (pe_callB (crRepr K gd hr.units) (by rfl) T.b_repr (by decide +kernel) (pa_cons (pe_tup (pa_cons (pe_meth (k := 5) (pv 4) Ma.c Ma.mt Ma.G (hr.mono (by decide)) Ma.b .nil (passes_call L2.takes0 (fun _ _ _ _ h => h)) (pa_cons (pv 6) pa_nil)) (pa_cons (pe_meth (k := 6) (pv 4) Mr.c Mr.mt Mr.G (hr.mono (by decide)) Mr.b .nil (passes_call L2.takes0 (fun _ _ _ _ h => h)) (pa_cons (pv 6) pa_nil)) (pa_cons (pe_meth (k := 5) (pv 4) Mb.c Mb.mt Mb.G (hr.mono (by decide)) Mb.b .nil (passes_call L2.takes0 (fun _ _ _ _ h => h)) (pa_cons (pv 6) pa_nil)) pa_nil)))) pa_nil)) (pe_callB (crRepr K gd hr.units) (by rfl) T.b_repr (by decide +kernel) (pa_cons (pe_tup (pa_cons (pv 9) (pa_cons (pe_cmpR opNotN (pv 9) pe_non (nomark _)) (pa_cons (pe_op op_sub (pe_callB (crLen K) (by rfl) T.b_len PySem.boot_len (pa_cons (pv 8) pa_nil)) pe_int) pa_nil)))) pa_nil)) (nomark _)) (pss_one (ps_ret pe_bl)) pss_nil)
  (pss_cons (ps_set (i := 10) scIsW.nd rfl (by first | exact Or.inl rfl | exact Or.inr rfl) (pe_call Oa.G (hr.mono (by decide)) rfl Oa.m Oa.kp Oa.b .nil pass0 (pa_cons (pv 0) (pa_cons (pe_callB (crLen K) (by rfl) T.b_len PySem.boot_len (pa_cons (pv 2) pa_nil)) pa_nil))))
  (pss_cons (ps_set (i := 11) scIsW.nd rfl (by first | exact Or.inl rfl | exact Or.inr rfl) (pe_meth (k := 6) (pv 4) Ms.c Ms.mt Ms.G (hr.mono (by decide)) Ms.b .nil (passes_call L2.takes0 (fun _ _ _ _ h => h)) (pa_cons (pv 10) pa_nil)))
  (pss_cons (ps_if (pt_cmpR (opNeD K hu) (pe_tup (pa_cons (peFld K (pv 11)) (pa_cons (peFld K (pv 11)) (pa_cons (peFld K (pv 11)) (pa_cons (peFld K (pv 4)) pa_nil))))) (pe_tup (pa_cons (pv 10) (pa_cons (peFld K (pv 4)) (pa_cons (pv 1) (pa_cons (pv 3) pa_nil))))) (nomark _)) (pss_one (ps_ret pe_bl)) pss_nil)
  (pss_cut (ps_for PassesOwn.never rfl (pi_enumS (by rfl) T.b_enumerate (pa_cons (pv 1) pa_nil)) (pgT K (n := 2) (by rfl) (pgs_cons (pg_name (i := 7) scIsW.nd rfl (by first | exact Or.inl rfl | exact Or.inr rfl)) (pgs_cons (pg_name (i := 12) scIsW.nd rfl (by first | exact Or.inl rfl | exact Or.inr rfl)) pgs_nil))) (pss_one (ps_if (pt_cmpR op_ne (pe_callB crReprO (by rfl) T.b_repr (by decide +kernel) (pa_cons (pe_meth (k := 5) (pv 4) Mp.c Mp.mt Mp.G (hr.mono (by decide)) Mp.b .nil (passes_call L2.takes0 (fun _ _ _ _ h => h)) (pa_cons (pv 10) (pa_cons (pv 12) pa_nil))) pa_nil)) (pe_callB crReprO (by rfl) T.b_repr (by decide +kernel) (pa_cons (pe_ix (ixL K) (pe_ix (ixL K) (pv 2) (pv 10) (fun _ _ => rfl)) (pv 7) (fun _ _ => rfl)) pa_nil)) (nomark _)) (pss_one (ps_ret pe_bl)) pss_nil)))
  (pss_cut (ps_set (i := 13) scIsW.nd rfl (by first | exact Or.inl rfl | exact Or.inr rfl) (pe_ifExp (pt_cmpR op_eq (pv 1) pe_str (nomark _)) pe_str (pe_op op_mulS (pe_ix ix_str (pv 1) pe_int (fun _ _ => rfl)) pe_int)))
  (pss_cons (ps_if (pt_cmpR op_ne (pe_meth (k := 5) (pv 4) Mb.c Mb.mt Mb.G (hr.mono (by decide)) Mb.b .nil (passes_call L2.takes0 (fun _ _ _ _ h => h)) (pa_cons (pv 13) pa_nil)) (pe_op op_sub (pe_callB (crLen K) (by rfl) T.b_len PySem.boot_len (pa_cons (pe_call Ow.G (hr.mono (by decide)) rfl Ow.m Ow.kp Ow.b .nil pass0 (pa_cons (pv 1) (pa_cons (pv 2) (pa_cons (pv 3) (pa_cons (pv 13) pa_nil))))) pa_nil)) pe_int) (nomark _)) (pss_one (ps_ret pe_bl)) pss_nil)
  (pss_one (ps_if (PW.pt (pw_and (pt_cmpR op_ne (pv 1) pe_str (nomark _)) (pw_and1 (pt_cmpR (opNeD K hu) (pe_lamcall (T := TT) rfl mR FR.kp lkR hcR bR scRefused rfl (.inl rfl) (refused_gives ET) TB rfl (by show (pt, (("_law_is_walked" : Str) ++ (".<locals>." : Str)) ++ ("<lambda>" : Str)) ∈ TT; rw [hq0]; exact hT0) (fun p hp e => by show p.2 = (("_law_is_walked" : Str) ++ (".<locals>." : Str)) ++ ("<lambda>" : Str); rw [hq0]; exact hT1 p hp e) (hr.mono (by decide)) (lamS_by (by show LamX.lamSB (defScope sIsWalked) _ = true; decide +kernel)) rfl (fun _ _ _ _ _ => rfl) (fun A outer s H E f c2 hr2 => pe_meth (k := 5) (pv 4) Ma.c Ma.mt Ma.G hr2 Ma.b .nil (passes_call (takes_of rfl rfl rfl rfl) (fun _ _ _ _ h => h)) (pa_cons (pe_op op_add_str (pv 13) (pe_ix ix_str (pv 1) (pe_un un_neg pe_int) (fun _ _ => rfl))) pa_nil))) (pe_tup (pa_cons pe_str (pa_cons pe_int pa_nil))) (nomark _))))) (pss_one (ps_ret pe_bl)) pss_nil)))))))))))))
  (pss_one (ps_ret pe_bl)))), ?_⟩
    -- machine
    refine ⟨_, rfl, _, rfl, _, rfl, rfl, rfl, fun mx dx hp hdx ne => ?_⟩
    show spMI K C CM [.ref mx, .str z, .ref wa, .int (f : Int)] _ _ _
    refine mk_right (dw := waysN ws) hp hdx ne hz6 (dp_ex hS.ex hwa) (.inl rfl) hok n1 (by omega) hf fun H1 e1 hM1 => ?_
    have I1 : WSt K C a b S mx z ws f TT H H1 := ⟨exR_of e1, hD.ex e1, hS.R (exR_of e1), hT.ext e1, hM1⟩
    have lz := l64_len hz6
    have lzs : z.length ≤ sizeLine := by
      rw [sizeLine_eq]
      show z.cps.size ≤ _
      omega
    obtain ⟨xw, hxw, lxw, rdw⟩ := waysN_read hwa
    have rdG : ∀ {G : Hp}, Calm a b S G → SqL K G wa xw ∧ ∀ s, s < ws.length → ∃ ra, xw[s]? = some (.ref ra) ∧ SqL K G ra ((ws.getD s []).map oW) := fun e => ⟨ex_l e.ex hxw, fun s hs => by
      obtain ⟨ra, r1, r2⟩ := rdw s hs
      exact ⟨ra, r1, ex_l e.ex r2⟩⟩
    refine ⟨4, rfl, (by decide), (by decide), for_it walk_r0 (fun i σ G => WSt K C a b S mx z ws f TT H G ∧ ∃ v5 v6 v7 v8 v9 v10 v11 v12 v13 : Option V, σ = [some (.ref a), some (.str z), some (.ref wa), some (.int (f : Int)), some (.ref mx), v5, v6, v7, v8, v9, v10, v11, v12, v13])
      ⟨I1, none, none, none, none, none, none, none, none, none, rfl⟩ (fun _ _ _ _ _ => trivial) ?_ ?_⟩
    rotate_left
    · rintro σ G ⟨I, _⟩
      exact k _ I.r I.d I.t
    rintro i x σ G0 G hi ⟨I, v5, v6, v7, v8, v9, v10, v11, v12, v13, rfl⟩ ⟨rfl, rfl⟩
    -- row
    refine ⟨fun σ G => WSt K C a b S mx z ws f TT H G ∧ ∃ (row : Str) (v5 v7 v8 v9 v10 v11 v12 v13 : Option V), σ = [some (.ref a), some (.str z), some (.ref wa), some (.int (f : Int)), some (.ref mx), v5, some (.str row), v7, v8, v9, v10, v11, v12, v13] ∧ (∀ c ∈ row.cps.toList, c ∈ z.cps.toList) ∧ row.cps.size ≤ 9, ?_, ?_⟩
    · refine ⟨_, rfl, rfl, _, rfl, ?_⟩
      by_cases qz : z = ""
      · refine iteT1 (decide_eq_true (congrArg V.str qz)) ⟨I, "", _, _, _, _, _, _, _, _, rfl, fun c hc => (by cases hc), Nat.zero_le _⟩
      refine iteF1 (decide_eq_false fun e => qz (by injection e)) ?_
      have z1 : 1 ≤ z.cps.size := by
        rcases Nat.eq_zero_or_pos z.cps.size with q | q
        · exact (qz (by
            cases z
            congr 1
            exact Array.eq_empty_of_size_eq_zero q)).elim
        · exact q
      refine ⟨⟨_, rfl⟩, _, rfl, (by rw [sizeLine_eq]; decide), fun s hs => ⟨a, b, s, _, rfl, I.d.ex (Ex.new hs), upd_same, (I.d.fresh hs).1.symm, (I.d.fresh hs).2.symm, by decide, by decide, fun j v G2 hv e2 hD2 => ?_⟩⟩
      obtain ⟨m, rfl, hm⟩ : ∃ m : Nat, v = .int (m : Int) ∧ m ≤ 9 := by
        have := List.mem_of_getElem? hv
        simp only [List.mem_cons, List.not_mem_nil, or_false] at this
        rcases this with rfl | rfl | rfl | rfl | rfl | rfl
        · exact ⟨0, rfl, by omega⟩
        · exact ⟨1, rfl, by omega⟩
        · exact ⟨2, rfl, by omega⟩
        · exact ⟨3, rfl, by omega⟩
        · exact ⟨5, rfl, by omega⟩
        · exact ⟨9, rfl, by omega⟩
      have I2 := (I.ex (Ex.new (o := .lst [V.int 0, V.int 1, V.int 2, V.int 3, V.int 5, V.int 9]) hs)).exD e2 hD2
      refine ⟨_, rfl, by omega, by omega, fun D hD => ?_⟩
      refine lcDl (a := a) (b := b) walk_r0 (fun v => ∃ c ∈ z.cps.toList, v = V.str ⟨#[c]⟩) (by omega) hD hD2 (fun _ => trivial) ?_ ?_
      · rintro j u G4 G5 hj e4 hB4 ⟨rfl, rfl⟩ A2 hA
        exact ⟨by rfl, _, rfl, _, rfl, a, b, z, rfl, hB4, z1, by omega, fun c G6 hc e6 hD6 => hA _ G6 ⟨c, hc, rfl⟩ e6 hD6⟩
      · intro G4 ys e4 hB4 hy hC hl
        obtain ⟨ds, rfl, hds⟩ := ones_of hC
        rw [List.length_map, List.length_map] at hl
        have hl : ds.length ≤ 9 := by omega
        refine ⟨_, D, _, rfl, rfl, .inl (SqL.of hy), ones_small (by omega), ?_⟩
        rw [join_ones]
        exact ⟨I2.exD e4 hB4, ⟨ds.toArray⟩, _, _, _, _, _, _, _, _, rfl, fun c hc => hds c (by simpa using hc), by simpa using hl⟩
    rintro _ G1 ⟨I1, row, v5, v7, v8, v9, v10, v11, v12, v13, rfl, hrow, lrow⟩
    -- walk
    refine ⟨_, rfl, _, rfl, _, rfl, _, rfl, wa, z, ws, f, row, rfl, dp_ex I1.s.ex hwa, hok, hz6, hf, hrow, by omega, fun p G2 e2 hpn hpw => ?_⟩
    have I2 := I1.ex e2
    have lwl := lw_len (ws := ws) (z := z) row.cps.toList f
    obtain ⟨lw1, lw2, lw3⟩ := lw_last (ws := ws) (z := z) row.cps.toList f
    have lrs : row.length ≤ sizeLine := by
      rw [sizeLine_eq]
      show row.cps.size ≤ _
      omega
    have lrl : row.cps.toList.length = row.cps.size := Array.length_toList
    have o256 : ∀ s, wkL ws z (some f) row.cps.toList = some s → s < 256 := by
      have gen : ∀ (l : List Nat) (t s : Nat), t < ws.length → wkL ws z (some t) l = some s → s < ws.length := by
        intro l
        induction l with
        | nil =>
          intro t s ht e
          have e : some t = some s := e
          cases e
          exact ht
        | cons c l ih =>
          intro t s ht e
          have e : wkL ws z (stp ws z t c) l = some s := e
          cases q : stp ws z t c with
          | none =>
            rw [q, wk_none] at e
            cases e
          | some u =>
            rw [q] at e
            exact ih u s (stp_lt hok q) e
      intro s e
      have := gen _ _ _ hf e
      omega
    -- due
    refine ⟨fun σ G => Ex G2 G ∧ ∃ (v5 v7 v10 v11 v12 v13 : Option V), σ = [some (.ref a), some (.str z), some (.ref wa), some (.int (f : Int)), some (.ref mx), v5, some (.str row), v7, some (.ref p), some (oW (wkL ws z (some f) row.cps.toList)), v10, v11, v12, v13], ?_, ?_⟩
    · refine ⟨_, rfl, p, _, rfl, .inl (SqL.of hpw), _, rfl, row, rfl, lrs, _, _, rfl, rfl, _, rfl, ?_⟩
      by_cases q : begL ws z f row.cps.toList = row.cps.toList.length
      · obtain ⟨t, ht, hlast⟩ := lw1 q
        obtain ⟨l0, hl0⟩ := List.getLast?_eq_some_iff.mp hlast
        refine iteT1 (decide_eq_true (by
          rw [List.length_map, lwl, q, lrl]
          show (row.cps.size : Int) < ((row.cps.size + 1 : Nat) : Int)
          omega)) ?_
        refine ⟨_, rfl, 1, rfl, p, _, _, .int (t : Int), rfl, rfl, SqL.of hpw, ?_, Ex.refl _, v5, v7, v10, v11, v12, v13, ?_⟩
        · rw [hl0, List.map_append]
          exact My.atI_last
        · rw [ht]
          rfl
      · refine iteF1 (decide_eq_false (by
          rw [List.length_map, lwl]
          show ¬ ((row.cps.size : Int) < ((begL ws z f row.cps.toList + 1 : Nat) : Int))
          omega)) ⟨Ex.refl _, v5, v7, v10, v11, v12, v13, ?_⟩
        rw [lw2 q]
        rfl
    rintro _ G3 ⟨e3, v5, v7, v10, v11, v12, v13, rfl⟩
    have I3 := I2.ex e3
    have hpw3 := e3 _ _ hpw
    -- repr
    refine ⟨fun σ G => WSt K C a b S mx z ws f TT H G ∧ ∃ (v5 v6 v7 v8 v9 v10 v11 v12 v13 : Option V), σ = [some (.ref a), some (.str z), some (.ref wa), some (.int (f : Int)), some (.ref mx), v5, v6, v7, v8, v9, v10, v11, v12, v13], ?_, ?_⟩
    · have hfault := fault_none hrow (by omega)
      have hshort : shortD (.str row) := by
        show row.cps.size ≤ 100000
        omega
      obtain ⟨dx1, wt1, hm3, _⟩ := I3.m.ob
      refine ⟨_, rfl, mx, dx1, _, rfl, hm3, mfs_none (by decide +kernel), _, rfl, mx, .str row, .str row, z, ws, f, rfl, I3.m, hok, hz6, hf, .str _, hshort, .inl ⟨row, rfl, hfault, fun H4 e4 => ?_⟩⟩
      have m4 := I3.m.ex e4
      refine ⟨_, rfl, mx, dx1, _, rfl, e4 _ _ hm3, mfs_none (by decide +kernel), _, rfl, mx, .str row, .str row, z, ws, f, rfl, m4, hok, hz6, hf, .str _, hshort, .inl ⟨row, rfl, hfault, fun H5 e5 => ?_⟩⟩
      refine ⟨_, rfl, mx, dx1, _, rfl, e5 _ _ (e4 _ _ hm3), mfs_none (by decide +kernel), _, rfl, mx, .str row, .str row, z, ws, f, rfl, m4.ex e5, hok, hz6, hf, .str _, hshort, .inl ⟨row, rfl, hfault, fun H6 e6 => ?_⟩⟩
      have e36 := (e4.trans e5).trans e6
      refine ⟨three_sz, fun t ht => ?_⟩
      dsimp only [tNil]
      refine rRepr_fl (d := kd3 (wkL ws z (some f) row.cps.toList) (begL ws z f row.cps.toList)) (fl_kd3 o256 (by omega)) (by decide) (by decide) (by rfl) (.tup (SqT.of upd_same) (.cons dp_oN (.cons (.bl _) (.cons (.int _) .nil)))) ?_
      have e37 := e36.trans (Ex.new (o := .tup [oW (wkL ws z (some f) row.cps.toList), .bl (wkL ws z (some f) row.cps.toList).isSome, .int ((begL ws z f row.cps.toList : Nat) : Int)]) ht)
      refine ⟨_, rfl, _, rfl, rfl, _, rfl, p, _, rfl, .inl (SqL.of (e37 _ _ hpw3)), _, _, rfl, rfl, three_sz, fun t2 ht2 => ?_⟩
      dsimp only [tNil]
      refine rRepr_fl (d := kd3 (wkL ws z (some f) row.cps.toList) (begL ws z f row.cps.toList)) (fl_kd3 o256 (by omega)) (by decide) (by decide) (by rfl) (.tup (SqT.of upd_same) (.cons dp_oN (.cons (by rw [nn_some]; exact .bl _) (.cons ?_ .nil)))) ?_
      · rw [List.length_map, lwl, show (((begL ws z f row.cps.toList + 1 : Nat) : Int) - 1) = ((begL ws z f row.cps.toList : Nat) : Int) by omega]
        exact .int _
      generalize (kd3 (wkL ws z (some f) row.cps.toList) (begL ws z f row.cps.toList)).shown = sh
      exact ⟨rfl, _, rfl, iteF1 (by rw [decide_eq_true rfl]; rfl) ⟨(I3.ex e37).ex (Ex.new ht2), _, _, _, _, _, _, _, _, _, rfl⟩⟩
    rintro _ G4 ⟨I4, v5, v6, v7, v8, v9, v10, v11, v12, v13, rfl⟩
    -- state
    obtain ⟨xq1, xq2⟩ := rdG I4.s
    refine ⟨_, rfl, _, rfl, wa, _, rfl, .inl xq1, a, b, _, rfl, I4.d, by omega, by omega, fun s G5 hs5 e5 hD5 => ?_⟩
    have I5 := I4.exD e5 hD5
    have hs5 : s < ws.length := by omega
    -- other
    obtain ⟨dx5, wt5, hm5, hw5⟩ := I5.m.ob
    refine ⟨_, rfl, mx, dx5, _, rfl, hm5, mfs_none (by decide +kernel), _, rfl, mx, .int (s : Int), .int (s : Int), z, ws, f, rfl, I5.m, hok, hz6, n1, by omega, .int _, .inr ⟨s, rfl, hs5, fun mo G6 e6 hMo => ?_⟩⟩
    have I6 := I5.ex e6
    obtain ⟨dx6, wt6, hm6, hw6⟩ := hMo.ob
    have hmx6 := e6 _ _ hm5
    refine ⟨_, rfl, mo, C, dx6, _, _, rfl, hm6, Mt.cl, Mt.n3, mfs_first, _, rfl, mo, C, dx6, _, _, rfl, hm6, Mt.cl, Mt.n2, mfs_ways, _, rfl, mo, C, dx6, _, _, rfl, hm6, Mt.cl, Mt.n1, mfs_letters, _, rfl, mx, C, dx5, _, _, rfl, hmx6, Mt.cl, Mt.n3, mfs_first, four_sz, fun t ht => ?_⟩
    have et := Ex.new (H := G6) (o := .tup [.int (s : Int), .ref wt6, .str z, .int (f : Int)]) ht
    refine ⟨_, rfl, _, rfl, mx, C, dx5, _, _, rfl, et _ _ hmx6, Mt.cl, Mt.n2, mfs_ways, _, rfl, _, rfl, four_sz, fun t2 ht2 => ?_⟩
    have et2 := Ex.new (H := upd G6 t (.tup [.int (s : Int), .ref wt6, .str z, .int (f : Int)])) (o := .tup [.int (s : Int), .ref wt5, .str z, .int (f : Int)]) ht2
    refine ⟨kdS s ws z f, kdS s ws z f, .tup (SqT.of (et2 _ _ upd_same)) (.cons (.int _) (.cons (dp_ex (et.trans et2) hw6) (.cons (.str _) (.cons (.int _) .nil)))), .tup (SqT.of upd_same) (.cons (.int _) (.cons (dp_ex ((e6.trans et).trans et2) hw5) (.cons (.str _) (.cons (.int _) .nil)))), (sh_kdS hz6).shaped (by omega), (sh_kdS hz6).shaped (by omega), _, rfl, iteF1 (by rw [SeqAt.eqv_refl _ (sh_kdS hz6).lay]; rfl) ?_⟩
    have I7 := I6.ex (et.trans et2)
    -- each step
    refine ⟨fun σ G => WSt K C a b S mx z ws f TT H G ∧ ∃ (v5 v6 v7 v8 v9 v10 v11 v12 v13 : Option V), σ = [some (.ref a), some (.str z), some (.ref wa), some (.int (f : Int)), some (.ref mx), v5, v6, v7, v8, v9, v10, v11, v12, v13], ?_, ?_⟩
    · refine ⟨_, rfl, z, rfl, for_it walk_enumS (fun i σ G => WSt K C a b S mx z ws f TT H G ∧ ∃ (v5 v6 v7 v8 v9 v11 v12 v13 : Option V), σ = [some (.ref a), some (.str z), some (.ref wa), some (.int (f : Int)), some (.ref mx), v5, v6, v7, v8, v9, some (.int (s : Int)), v11, v12, v13]) ⟨I7, _, _, _, _, _, _, _, _, rfl⟩ (fun _ _ _ _ _ => trivial) ?_ ?_⟩
      rotate_left
      · rintro σ G ⟨I, v5, v6, v7, v8, v9, v11, v12, v13, rfl⟩
        exact ⟨I, _, _, _, _, _, _, _, _, _, rfl⟩
      rintro i x σ G7 G8 hi ⟨I, v5, v6, v7, v8, v9, v11, v12, v13, rfl⟩ ⟨T0, c, rfl, hTn, rfl, hc⟩
      have I8 := I.ex (Ex.new (o := .tup [.int (i : Nat), .str ⟨#[c]⟩]) hTn)
      have hcz : c ∈ z.cps.toList := (drop_at hc).2
      obtain ⟨xq3, xq4⟩ := rdG I8.s
      obtain ⟨ra, hra, hrs⟩ := xq4 s hs5
      obtain ⟨dx8, wt8, hm8, hw8⟩ := I8.m.ob
      have small : ∀ k, stp ws z s c = some k → k < 256 := fun k e => by
        have := stp_lt hok e
        omega
      have hat := row_at hok hs5 hcz
      rw [ixo_at hz6 hc] at hat
      refine ⟨T0, _, rfl, SqT.of upd_same, rfl, _, _, rfl, _, _, rfl, rfl, ?_⟩
      refine ⟨_, rfl, mx, dx8, _, rfl, hm8, mfs_none (by decide +kernel), _, rfl, _, rfl, mx, .int (s : Int), .str ⟨#[c]⟩, .int (s : Int), .str ⟨#[c]⟩, z, ws, f, rfl, I8.m, hok, hz6, .int _, .str _, (by show 1 ≤ 100000; omega), .inr ⟨s, rfl, hs5, .inr ⟨c, rfl, hcz, stp ws z s c, rfl, small, ?_⟩⟩⟩
      refine ⟨_, rfl, _, rfl, wa, _, _, _, rfl, rfl, xq3, atI_nat hra, _, rfl, ra, _, _, _, rfl, rfl, hrs, atI_nat hat, stp ws z s c, rfl, small, ?_⟩
      generalize reO (stp ws z s c) = sh
      exact ⟨rfl, _, rfl, iteF1 (by rw [decide_eq_true rfl]; rfl) ⟨I8, _, _, _, _, _, _, _, _, rfl⟩⟩
    rintro _ G8 ⟨I8, v5, v6, v7, v8, v9, v10, v11, v12, v13, rfl⟩
    -- long
    refine ⟨fun σ G => WSt K C a b S mx z ws f TT H G ∧ ∃ (long : Str) (v5 v6 v7 v8 v9 v10 v11 v12 : Option V), σ = [some (.ref a), some (.str z), some (.ref wa), some (.int (f : Int)), some (.ref mx), v5, v6, v7, v8, v9, v10, v11, v12, some (.str long)] ∧ (∀ c ∈ long.cps.toList, c ∈ z.cps.toList) ∧ long.cps.size ≤ 200 ∧ (z ≠ "" → long.cps.size = 200), ?_, ?_⟩
    · refine ⟨_, rfl, rfl, _, rfl, ?_⟩
      by_cases qz : z = ""
      · exact iteT1 (decide_eq_true (congrArg V.str qz)) ⟨I8, "", _, _, _, _, _, _, _, _, rfl, fun c hc => (by cases hc), Nat.zero_le _, fun h => (h qz).elim⟩
      refine iteF1 (decide_eq_false fun e => qz (by injection e)) ?_
      have z1 := z_pos qz
      obtain ⟨c, hc⟩ : ∃ c, z.cps.toList[0]? = some c := ⟨_, List.getElem?_eq_getElem (by rw [Array.length_toList]; omega)⟩
      refine ⟨_, rfl, z, 0, c, rfl, rfl, lzs, atI_nat hc, ⟨#[c]⟩, 200, rfl, rfl, (by show 1 ≤ 10000; omega), by omega, ?_⟩
      have sz : (repS ⟨#[c]⟩ 200).cps.size = 200 := repS_size
      refine ⟨I8, _, _, _, _, _, _, _, _, _, rfl, fun d hd => ?_, by omega, fun _ => sz⟩
      have := rep_mem hd
      have e : d = c := by simpa using this
      rw [e]
      exact List.mem_of_getElem? hc
    rintro _ G9 ⟨I9, long, v5, v6, v7, v8, v9, v10, v11, v12, rfl, hlong, llong, l200⟩
    have lls : long.length ≤ sizeLine := by
      rw [sizeLine_eq]
      show long.cps.size ≤ _
      omega
    obtain ⟨dx9, wt9, hm9, hw9⟩ := I9.m.ob
    refine ⟨_, rfl, mx, dx9, _, rfl, hm9, mfs_none (by decide +kernel), _, rfl, mx, .str long, .str long, z, ws, f, rfl, I9.m, hok, hz6, hf, .str _, (by show long.cps.size ≤ 100000; omega), .inl ⟨long, rfl, fault_none hlong llong, fun G10 e10 => ?_⟩⟩
    have I10 := I9.ex e10
    refine ⟨_, rfl, _, rfl, _, rfl, _, rfl, wa, z, ws, f, long, rfl, dp_ex I10.s.ex hwa, hok, hz6, hf, hlong, by omega, fun p11 G11 e11 hpn11 hpw11 => ⟨p11, _, rfl, .inl (SqL.of hpw11), _, _, rfl, rfl, rfl, _, rfl, iteF1 ?_ ?_⟩⟩
    · have lwl := lw_len (ws := ws) (z := z) long.cps.toList f
      rw [List.length_map, lwl]
      rw [decide_eq_true (show V.int ((begL ws z f long.cps.toList : Nat) : Int) = (fun i j => V.int (i - j)) (((begL ws z f long.cps.toList + 1 : Nat)) : Int) 1 by
        show V.int _ = V.int _
        congr 1
        omega)]
      rfl
    have I11 := I10.ex e11
    refine ⟨_, rfl, rfl, _, rfl, ?_⟩
    by_cases qz : z = ""
    · exact iteF1 (by rw [decide_eq_true (congrArg V.str qz)]; rfl) (iteF1 rfl ⟨I11, _, _, _, _, _, _, _, _, _, rfl⟩)
    refine iteT1 (by rw [decide_eq_false (fun e => qz (by injection e))]; rfl) ?_
    have z1 := z_pos qz
    obtain ⟨l0, c, hlc⟩ : ∃ l0 c, z.cps.toList = l0 ++ [c] := by
      rcases List.eq_nil_or_concat z.cps.toList with q | ⟨l0, c, q⟩
      · have : z.cps.toList.length = 0 := by rw [q]; rfl
        rw [Array.length_toList] at this
        omega
      · exact ⟨l0, c, by rw [q]; simp⟩
    refine ⟨I11.t, fun G12 eN12 t12 => ?_⟩
    have I12 := I11.exN eN12 t12
    obtain ⟨dx12, wt12, hm12, hw12⟩ := I12.m.ob
    have lcat : (long ++ (⟨#[c]⟩ : Str)).cps.size = long.cps.size + 1 := by
      show (long.cps ++ #[c]).size = _
      simp
    refine ⟨_, rfl, mx, dx12, _, rfl, hm12, mfs_none (by decide +kernel), _, rfl, _, rfl, 1, rfl, z, -1, c, rfl, rfl, lzs, ?_, long, ⟨#[c]⟩, rfl, rfl, ?_, mx, .str (long ++ ⟨#[c]⟩), .str (long ++ ⟨#[c]⟩), z, ws, f, rfl, I12.m, hok, hz6, hf, .str _, ?_, .inr ⟨200, fault_long ?_ ?_, fun G13 d13 e13 hd13 => ⟨d13, "row", .int 200, rfl, .inr (.inl ⟨rfl, rfl, upd_same⟩), fun t ht => ?_⟩⟩⟩
    · rw [hlc]
      exact L2.atI_last l0 c
    · rw [sizeLine_eq]
      show long.cps.size + 1 ≤ _
      omega
    · show (long ++ (⟨#[c]⟩ : Str)).cps.size ≤ 100000
      omega
    · intro d hd
      have : d ∈ long.cps.toList ∨ d = c := by
        have e : (long ++ (⟨#[c]⟩ : Str)).cps.toList = long.cps.toList ++ [c] := by
          show (long.cps ++ #[c]).toList = _
          simp
        rw [e] at hd
        simpa using hd
      rcases this with h | rfl
      · exact hlong d h
      · rw [hlc]
        simp
    · have := l200 qz
      omega
    · have e14 := (e13.trans (Ex.new (o := .xd [(("at" : Str), V.int 200)]) hd13)).trans (Ex.new (o := .tup [.str "row", .int 200]) ht)
      have I14 := I12.ex e14
      refine ⟨two_sz, fun t2 ht2 => ?_⟩
      have hsh : SeqAt.shaped (kdR "row" (.int 200)) = true := by decide +kernel
      refine ⟨kdR "row" (.int 200), kdR "row" (.int 200), .tup (SqT.of (Ex.new ht2 _ _ upd_same)) (.cons (.str _) (.cons (.int _) .nil)), .tup (SqT.of upd_same) (.cons (.str _) (.cons (.int _) .nil)), hsh, hsh, _, rfl, iteF1 (by decide +kernel) ⟨I14.ex (Ex.new ht2), _, _, _, _, _, _, _, _, _, rfl⟩⟩
end
end My
set_option Elab.async false
set_option linter.all false
set_option autoImplicit false
set_option maxRecDepth 100000
set_option maxHeartbeats 4000000
namespace My
open PySem PySem.Spec PyProof.Rows L2 Evl
open PySem.OneX (OneTxt Tail tail_ex exTail)
open PySem.OneXL (keyTail tail_key line_key)
open LamX (TabB TabS Tabs ExtN CodeO pe_lamcall lamS_by)
section
variable {P : Program} {w : World} {K : PySem.W.Frag} {mg : Str → Option Value} {base : Heap}
theorem told_ne {G : Hp} {Q : VK} {t t2 : Addr} {nm : Str} {v : V} {d : PyData} (h1 : G t = some (.tup [.str nm, v])) (h2 : G t2 = some (.tup [.str nm, v])) (hv : Dp K G v d) (hs : Sh 5 (kdR nm d)) (q : Q (.bl false) G) : rNeD K (.ref t) (.ref t2) G Q :=
  ⟨kdR nm d, kdR nm d, .tup (SqT.of h1) (.cons (.str _) (.cons hv .nil)), .tup (SqT.of h2) (.cons (.str _) (.cons hv .nil)), hs.shaped (by omega), hs.shaped (by omega), by rw [SeqAt.eqv_refl _ hs.lay]; exact q⟩
theorem told_eq {G : Hp} {Q : VK} {t t2 : Addr} {nm : Str} {v : V} {d : PyData} (h1 : G t = some (.tup [.str nm, v])) (h2 : G t2 = some (.tup [.str nm, v])) (hv : Dp K G v d) (hs : Sh 5 (kdR nm d)) (q : Q (.bl true) G) : rEqD K (.ref t) (.ref t2) G Q :=
  ⟨kdR nm d, kdR nm d, .tup (SqT.of h1) (.cons (.str _) (.cons hv .nil)), .tup (SqT.of h2) (.cons (.str _) (.cons hv .nil)), hs.shaped (by omega), hs.shaped (by omega), by rw [SeqAt.eqv_refl _ hs.lay]; exact q⟩
theorem sh_kdR {nm : Str} {d : PyData} (h1 : (PyData.str nm).canLay0 = true) (h : Sh 4 d) : Sh 5 (kdR nm d) := by
  refine sh_tup fun e he => ?_
  rcases List.mem_cons.mp he with rfl | he
  · exact (sh_str h1).mono (by omega)
  rcases List.mem_cons.mp he with rfl | he
  · exact h
  cases he
def oddL : List PyData := [.none, .str "", .str "ab0", .str "z", .int 0, .str "A", .tuple [.str "a"], .str "2"]
theorem odd_all : ∀ d ∈ oddL, d.canLay0 = true ∧ d.depth ≤ 4 ∧ tupOnly d = true := by decide +kernel
theorem odd_sign : ∀ z ∈ L64, ∀ d ∈ oddL, signD z d = false := by decide +kernel
theorem odd_short : ∀ d ∈ oddL, shortD d := by
  intro d hd
  simp only [oddL, List.mem_cons, List.not_mem_nil, or_false] at hd
  rcases hd with rfl | rfl | rfl | rfl | rfl | rfl | rfl | rfl
  · trivial
  · show 0 ≤ 100000
    omega
  · show 3 ≤ 100000
    omega
  · show 1 ≤ 100000
    omega
  · trivial
  · show 1 ≤ 100000
    omega
  · trivial
  · show 1 ≤ 100000
    omega
def stateL (n : Nat) : List PyData := [.none, .bool true, .bool false, .int (-1), .int (n : Int), .str "0", .tuple [.int 0]]
theorem state_all {n : Nat} {d : PyData} (hd : d ∈ stateL n) : d.canLay0 = true ∧ d.depth ≤ 4 ∧ tupOnly d = true ∧ belowD d (n : Int) = false := by
  simp only [stateL, List.mem_cons, List.not_mem_nil, or_false] at hd
  rcases hd with rfl | rfl | rfl | rfl | rfl | rfl | rfl
  · exact ⟨rfl, by decide, rfl, rfl⟩
  · exact ⟨rfl, by decide, rfl, rfl⟩
  · exact ⟨rfl, by decide, rfl, rfl⟩
  · exact ⟨rfl, by decide, rfl, rfl⟩
  · refine ⟨rfl, Nat.zero_le _, rfl, ?_⟩
    show (decide ((0 : Int) ≤ (n : Int)) && decide ((n : Int) < (n : Int))) = false
    rw [decide_eq_false (Int.lt_irrefl _), Bool.and_false]
  · exact ⟨by decide +kernel, by decide, rfl, rfl⟩
  · exact ⟨rfl, by decide, rfl, rfl⟩
theorem fault_idx {z : Str} {c : Nat} (hc : c ∉ z.cps.toList) (r : List Nat) : ∀ l : List Nat, (∀ d ∈ l, d ∈ z.cps.toList) → (l ++ c :: r).findIdx? (fun c => !decide (c ∈ z.cps.toList)) = some l.length
  | [], _ => by
    rw [List.nil_append, List.findIdx?_cons, decide_eq_false hc]
    rfl
  | d :: l, h => by
    rw [List.cons_append, List.findIdx?_cons, decide_eq_true (h d (by simp)), fault_idx hc r l fun d hd => h d (by simp [hd])]
    rfl
theorem fault_at {z y : Str} {c : Nat} {l r : List Nat} (e : y.cps.toList = l ++ c :: r) (hl : ∀ d ∈ l, d ∈ z.cps.toList) (hc : c ∉ z.cps.toList) : rowFault z (.str y) = some (l.length : Int) := by
  show (match y.cps.toList.findIdx? (fun c => !decide (c ∈ z.cps.toList)) with
    | some i => some (i : Int)
    | none => if y.cps.size ≤ 200 then none else some 200) = _
  rw [e, fault_idx hc r l hl]
theorem z_not {z : Str} (h : z ∈ L64) : 122 ∉ z.cps.toList := by
  have q : ∀ z ∈ L64, 122 ∉ z.cps.toList := by decide +kernel
  exact q z h
theorem lay_nm : ∀ nm ∈ ([("letter" : Str), "refused", "row", "machine"] : List Str), (PyData.str nm).canLay0 = true := by decide +kernel
/-- what stays while the strangers are tried -/
structure SSt (K : PySem.W.Frag) (C a b : Addr) (S : Hp) (mx : Addr) (z : Str) (ws : List (List (Option Nat))) (TT : List (Addr × Str)) (H : Hp) (vo vs : V) (po ps : PyData) (G : Hp) : Prop where
  w : WSt K C a b S mx z ws 0 TT H G
  o : Dp K G vo po
  s : Dp K G vs ps
  to : tupOnly po = true
  ts : tupOnly ps = true
theorem SSt.ex {C a b mx : Addr} {S : Hp} {z : Str} {ws : List (List (Option Nat))} {TT : List (Addr × Str)} {H G G' : Hp} {vo vs : V} {po ps : PyData} (h : SSt K C a b S mx z ws TT H vo vs po ps G) (e : Ex G G') : SSt K C a b S mx z ws TT H vo vs po ps G' :=
  ⟨h.w.ex e, dp_ex e h.o, dp_ex e h.s, h.to, h.ts⟩
theorem SSt.exD {C a b mx : Addr} {S : Hp} {z : Str} {ws : List (List (Option Nat))} {TT : List (Addr × Str)} {H G G' : Hp} {vo vs : V} {po ps : PyData} (h : SSt K C a b S mx z ws TT H vo vs po ps G) (e : ExD a b G G') (d : Deal G' a b) : SSt K C a b S mx z ws TT H vo vs po ps G' :=
  ⟨h.w.exD e d, dp_tex (e.tex h.w.d) h.o h.to, dp_tex (e.tex h.w.d) h.s h.ts, h.to, h.ts⟩
theorem SSt.exN {C a b mx : Addr} {S : Hp} {z : Str} {ws : List (List (Option Nat))} {TT : List (Addr × Str)} {H G G' : Hp} {vo vs : V} {po ps : PyData} (h : SSt K C a b S mx z ws TT H vo vs po ps G) (e : ExtN G G') (t : Tabs TT G') : SSt K C a b S mx z ws TT H vo vs po ps G' :=
  ⟨h.w.exN e t, dp_tex (tex_extN e) h.o h.to, dp_tex (tex_extN e) h.s h.ts, h.to, h.ts⟩
def spStr (K : PySem.W.Frag) (T : List (Addr × Str)) : Sp := fun vs H Q _ => ∃ (a b wa : Addr) (S : Hp) (z : Str) (ws : List (List (Option Nat))), vs = [.ref a, .str z, .ref wa] ∧ Deal H a b ∧ Calm a b S H ∧ Dp K S (.ref wa) (waysN ws) ∧ WaysOk z.cps.size ws ∧ z ∈ L64 ∧ 1 ≤ ws.length ∧ ws.length ≤ 7 ∧ Tabs T H ∧
  ∀ H', ExR a b H H' → Deal H' a b → Tabs T H' → Q (.bl true) H'
abbrev sStr : Stmt := sStrange
abbrev nStr : List Str := ["deal", "letters", "ways", "machine", "odd", "state", "head"]
theorem scStr : FnScope nStr ["deal", "letters", "ways"] (defScope sStrange) := ⟨rfl, rfl, rfl, by decide +kernel, rfl, by decide +kernel, by decide +kernel⟩
theorem ok_Str {f C CM CB CF CL fM fB fF fL c pt : Addr} {oc kV doc pm ct : Value} {od an : Option Addr} {osl : Array (Option Value)} {q0 : Str} {TT : List (Addr × Str)} (hq0 : (("_law_strangers" : Str) ++ (".<locals>." : Str)) ++ ("<lambda>" : Str) = q0) (hT0 : (pt, q0) ∈ TT) (hT1 : ∀ p ∈ TT, p.1 = pt → p.2 = q0)
    (lk : K.lookup f = some ⟨oc, od, .func (PySem.W.fnOf "_law_strangers" "_law_strangers" (defArgs sStrange) (defBody sStrange) (defScope sStrange) .none kV doc pm an (.ref c) ct), osl⟩) (hcd : PySem.W.codeIn K (.ref c) "_law_strangers" = true) (T : Txt K mg) (Mt : McT K C) (ET : ErrT K mg CM CB CF CL fM fB fF fL) (TB : TabB base mg c pt)
    (Md : Made P w K mg base C CM) (Ma : OwnMX P w K mg base C "after" 5 ["self", "row"] (spAfter K C CB)) (Mr : OwnMX P w K mg base C "reads" 6 ["self", "row"] (spReads K C CB)) (Mb : OwnMX P w K mg base C "beginning" 5 ["self", "row"] (spBeg K C CB)) (Ms : OwnMX P w K mg base C "started" 6 ["self", "state"] (spStarted K C CF)) (Mp : OwnMX P w K mg base C "step" 5 ["self", "state", "letter"] (spStep K C CF CL))
    (Oa : Own P w K mg base "_law_any" 1 ["deal", "bound"] spAny) (Oo : Own P w K mg base "_law_of" 2 ["deal", "some"] spOf)
    {fR : Addr} {fdR : FuncData} (FR : Fun K "_law_refused" "_law_refused" sRefused fR fdR) (mR : mg "_law_refused" = some (.ref fR)) (bR : L2.Binds K fdR ["work"] []) :
    FnOk P w K mg base CX0 10 f (PySem.W.fnOf "_law_strangers" "_law_strangers" (defArgs sStrange) (defBody sStrange) (defScope sStrange) .none kV doc pm an (.ref c) ct) ["deal", "letters", "ways"] (spStr K TT) := by
  obtain ⟨ds0, hv0, hb0⟩ := mi_binds0 Md.FI
  obtain ⟨ocR, odR, kVR, docR, pmR, anR, cdR, ctR, oslR, eR, lkR, hcR⟩ := FR.ex
  subst eR
  refine okC lk hcd scStr (fun vs H Q E h => ?_) (fun A outer s H vs Q E hr h => ?_)
  · obtain ⟨a, b, wa, S, z, ws, rfl, _⟩ := h
    rfl
  · obtain ⟨a, b, wa, S, z, ws, rfl, hD, hS, hwa, hok, hz6, n1, n7, hT, k⟩ := h
    have hu := hu64 hr
    refine ⟨_, (pss_cons (ps_set (i := 3) scStr.nd rfl (by first | exact Or.inl rfl | exact Or.inr rfl) (pe_make Md.M Md.GI (hr.mono (by decide)) rfl Md.gC hb0 hv0 (passes_call L2.takes0 (fun _ _ _ _ h => h)) (pa_cons (pv 1) (pa_cons (pv 2) pa_nil))))
  (pss_cons (ps_set (i := 4) scStr.nd rfl (by first | exact Or.inl rfl | exact Or.inr rfl) (pe_call Oo.G (hr.mono (by decide)) rfl Oo.m Oo.kp Oo.b .nil pass0 (pa_cons (pv 0) (pa_cons (pe_lst (pa_cons pe_non (pa_cons pe_str (pa_cons pe_str (pa_cons pe_str (pa_cons pe_int (pa_cons pe_str (pa_cons (pe_tup (pa_cons pe_str pa_nil)) (pa_cons pe_str pa_nil))))))))) pa_nil))))
  (pss_cons (ps_set (i := 5) scStr.nd rfl (by first | exact Or.inl rfl | exact Or.inr rfl) (pe_call Oo.G (hr.mono (by decide)) rfl Oo.m Oo.kp Oo.b .nil pass0 (pa_cons (pv 0) (pa_cons (pe_lst (pa_cons pe_non (pa_cons pe_bl (pa_cons pe_bl (pa_cons (pe_un un_neg pe_int) (pa_cons (pe_callB (crLen K) (by rfl) T.b_len PySem.boot_len (pa_cons (pv 2) pa_nil)) (pa_cons pe_str (pa_cons (pe_tup (pa_cons pe_int pa_nil)) pa_nil)))))))) pa_nil))))
  (pss_cons (ps_if (pt_cmpR (opNeD K hu) (pe_lamcall (T := TT) rfl mR FR.kp lkR hcR bR scRefused rfl (.inl rfl) (refused_gives ET) TB rfl (by show (pt, (("_law_strangers" : Str) ++ (".<locals>." : Str)) ++ ("<lambda>" : Str)) ∈ TT; rw [hq0]; exact hT0) (fun p hp e => by show p.2 = (("_law_strangers" : Str) ++ (".<locals>." : Str)) ++ ("<lambda>" : Str); rw [hq0]; exact hT1 p hp e) (hr.mono (by decide)) (lamS_by (by show LamX.lamSB (defScope sStrange) _ = true; decide +kernel)) rfl (fun _ _ _ _ _ => rfl) (fun A outer s H E f c2 hr2 => pe_meth (k := 5) (pv 3) Mp.c Mp.mt Mp.G hr2 Mp.b .nil (passes_call (takes_of rfl rfl rfl rfl) (fun _ _ _ _ h => h)) (pa_cons pe_int (pa_cons (pv 4) pa_nil)))) (pe_tup (pa_cons pe_str (pa_cons (pv 4) pa_nil))) (nomark _)) (pss_one (ps_ret pe_bl)) pss_nil)
  (pss_cons (ps_if (pt_cmpR (opNeD K hu) (pe_lamcall (T := TT) rfl mR FR.kp lkR hcR bR scRefused rfl (.inl rfl) (refused_gives ET) TB rfl (by show (pt, (("_law_strangers" : Str) ++ (".<locals>." : Str)) ++ ("<lambda>" : Str)) ∈ TT; rw [hq0]; exact hT0) (fun p hp e => by show p.2 = (("_law_strangers" : Str) ++ (".<locals>." : Str)) ++ ("<lambda>" : Str); rw [hq0]; exact hT1 p hp e) (hr.mono (by decide)) (lamS_by (by show LamX.lamSB (defScope sStrange) _ = true; decide +kernel)) rfl (fun _ _ _ _ _ => rfl) (fun A outer s H E f c2 hr2 => pe_meth (k := 5) (pv 3) Mp.c Mp.mt Mp.G hr2 Mp.b .nil (passes_call (takes_of rfl rfl rfl rfl) (fun _ _ _ _ h => h)) (pa_cons (pv 5) (pa_cons (pv 4) pa_nil)))) (pe_tup (pa_cons pe_str (pa_cons (pv 5) pa_nil))) (nomark _)) (pss_one (ps_ret pe_bl)) pss_nil)
  (pss_cons (ps_if (pt_cmpR (opNeD K hu) (pe_lamcall (T := TT) rfl mR FR.kp lkR hcR bR scRefused rfl (.inl rfl) (refused_gives ET) TB rfl (by show (pt, (("_law_strangers" : Str) ++ (".<locals>." : Str)) ++ ("<lambda>" : Str)) ∈ TT; rw [hq0]; exact hT0) (fun p hp e => by show p.2 = (("_law_strangers" : Str) ++ (".<locals>." : Str)) ++ ("<lambda>" : Str); rw [hq0]; exact hT1 p hp e) (hr.mono (by decide)) (lamS_by (by show LamX.lamSB (defScope sStrange) _ = true; decide +kernel)) rfl (fun _ _ _ _ _ => rfl) (fun A outer s H E f c2 hr2 => pe_meth (k := 6) (pv 3) Ms.c Ms.mt Ms.G hr2 Ms.b .nil (passes_call (takes_of rfl rfl rfl rfl) (fun _ _ _ _ h => h)) (pa_cons (pv 5) pa_nil))) (pe_tup (pa_cons pe_str (pa_cons (pv 5) pa_nil))) (nomark _)) (pss_one (ps_ret pe_bl)) pss_nil)
  (pss_cut (ps_set (i := 6) scStr.nd rfl (by first | exact Or.inl rfl | exact Or.inr rfl) (pe_ifExp (pt_cmpR op_eq (pv 1) pe_str (nomark _)) pe_str (pe_op op_mulS (pe_ix ix_str (pv 1) pe_int (fun _ _ => rfl)) (pe_call Oa.G (hr.mono (by decide)) rfl Oa.m Oa.kp Oa.b .nil pass0 (pa_cons (pv 0) (pa_cons pe_int pa_nil))))))
  (pss_cons (ps_if (pt_cmpR (opNeD K hu) (pe_lamcall (T := TT) rfl mR FR.kp lkR hcR bR scRefused rfl (.inl rfl) (refused_gives ET) TB rfl (by show (pt, (("_law_strangers" : Str) ++ (".<locals>." : Str)) ++ ("<lambda>" : Str)) ∈ TT; rw [hq0]; exact hT0) (fun p hp e => by show p.2 = (("_law_strangers" : Str) ++ (".<locals>." : Str)) ++ ("<lambda>" : Str); rw [hq0]; exact hT1 p hp e) (hr.mono (by decide)) (lamS_by (by show LamX.lamSB (defScope sStrange) _ = true; decide +kernel)) rfl (fun _ _ _ _ _ => rfl) (fun A outer s H E f c2 hr2 => pe_meth (k := 6) (pv 3) Mr.c Mr.mt Mr.G hr2 Mr.b .nil (passes_call (takes_of rfl rfl rfl rfl) (fun _ _ _ _ h => h)) (pa_cons (pe_op op_add_str (pe_op op_add_str (pv 6) pe_str) (pv 6)) pa_nil))) (pe_tup (pa_cons pe_str (pa_cons (pe_callB call_len_str (by rfl) T.b_len PySem.boot_len (pa_cons (pv 6) pa_nil)) pa_nil))) (nomark _)) (pss_one (ps_ret pe_bl)) pss_nil)
  (pss_cons (ps_if (pt_cmpR (opNeD K hu) (pe_lamcall (T := TT) rfl mR FR.kp lkR hcR bR scRefused rfl (.inl rfl) (refused_gives ET) TB rfl (by show (pt, (("_law_strangers" : Str) ++ (".<locals>." : Str)) ++ ("<lambda>" : Str)) ∈ TT; rw [hq0]; exact hT0) (fun p hp e => by show p.2 = (("_law_strangers" : Str) ++ (".<locals>." : Str)) ++ ("<lambda>" : Str); rw [hq0]; exact hT1 p hp e) (hr.mono (by decide)) (lamS_by (by show LamX.lamSB (defScope sStrange) _ = true; decide +kernel)) rfl (fun _ _ _ _ _ => rfl) (fun A outer s H E f c2 hr2 => pe_meth (k := 5) (pv 3) Mb.c Mb.mt Mb.G hr2 Mb.b .nil (passes_call (takes_of rfl rfl rfl rfl) (fun _ _ _ _ h => h)) (pa_cons (pe_call Oo.G (hr2.mono (by decide)) rfl Oo.m Oo.kp Oo.b .nil pass0 (pa_cons (pv 0) (pa_cons (pe_lst (pa_cons pe_non (pa_cons pe_int (pa_cons (pe_lst (pa_cons pe_str pa_nil)) (pa_cons pe_bl pa_nil))))) pa_nil))) pa_nil))) (pe_tup (pa_cons pe_str (pa_cons (pe_un un_neg pe_int) pa_nil))) (nomark _)) (pss_one (ps_ret pe_bl)) pss_nil)
  (pss_one (ps_ret (pe_cmpR (opEqD K hu) (pe_lamcall (T := TT) rfl mR FR.kp lkR hcR bR scRefused rfl (.inl rfl) (refused_gives ET) TB rfl (by show (pt, (("_law_strangers" : Str) ++ (".<locals>." : Str)) ++ ("<lambda>" : Str)) ∈ TT; rw [hq0]; exact hT0) (fun p hp e => by show p.2 = (("_law_strangers" : Str) ++ (".<locals>." : Str)) ++ ("<lambda>" : Str); rw [hq0]; exact hT1 p hp e) (hr.mono (by decide)) (lamS_by (by show LamX.lamSB (defScope sStrange) _ = true; decide +kernel)) rfl (fun _ _ _ _ _ => rfl) (fun A outer s H E f c2 hr2 => pe_meth (k := 5) (pv 3) Ma.c Ma.mt Ma.G hr2 Ma.b .nil (passes_call (takes_of rfl rfl rfl rfl) (fun _ _ _ _ h => h)) (pa_cons (pe_op op_add_str (pv 6) (pe_op op_mulS pe_str pe_int)) pa_nil))) (pe_tup (pa_cons pe_str (pa_cons (pe_callB call_len_str (by rfl) T.b_len PySem.boot_len (pa_cons (pv 6) pa_nil)) pa_nil))) (nomark _))))))))))))), ?_⟩
    -- machine
    refine ⟨_, rfl, _, rfl, fun mx dx hp hdx ne => ?_⟩
    show spMI K C CM [.ref mx, .str z, .ref wa, .int ((0 : Nat) : Int)] _ _ _
    refine mk_right (dw := waysN ws) hp hdx ne hz6 (dp_ex hS.ex hwa) (.inl rfl) hok n1 (by omega) (by omega) fun H1 e1 hM1 => ?_
    have I1 : WSt K C a b S mx z ws 0 TT H H1 := ⟨exR_of e1, hD.ex e1, hS.R (exR_of e1), hT.ext e1, hM1⟩
    have lz := l64_len hz6
    have lzs : z.length ≤ sizeLine := by
      rw [sizeLine_eq]
      show z.cps.size ≤ _
      omega
    obtain ⟨xw, hxw, lxw, rdw⟩ := waysN_read hwa
    have rdG : ∀ {G : Hp}, Calm a b S G → SqL K G wa xw := fun e => ex_l e.ex hxw
    -- odd
    refine ⟨_, rfl, one_sz, fun t1 ht1 => ⟨by rw [sizeLine_eq]; show 8 ≤ _; omega, fun l1 hl1 => ⟨a, b, l1, _, rfl, (I1.d.ex (Ex.new ht1)).ex (Ex.new hl1), upd_same, ((I1.d.ex (Ex.new ht1)).fresh hl1).1.symm, ((I1.d.ex (Ex.new ht1)).fresh hl1).2.symm, by show 1 ≤ 8; omega, by show 8 ≤ 100; omega, fun j1 vo G2 hv1 e2 hD2 => ?_⟩⟩⟩
    have I2 := ((I1.ex (Ex.new (o := .tup [.str "a"]) ht1)).ex (Ex.new (o := .lst [.non, .str "", .str "ab0", .str "z", .int 0, .str "A", .ref t1, .str "2"]) hl1)).exD e2 hD2
    obtain ⟨po, hpo, hvo⟩ : ∃ d ∈ oddL, Dp K G2 vo d := by
      have := List.mem_of_getElem? hv1
      simp only [List.mem_cons, List.not_mem_nil, or_false] at this
      rcases this with rfl | rfl | rfl | rfl | rfl | rfl | rfl | rfl
      · exact ⟨.none, by simp [oddL], .non⟩
      · exact ⟨.str "", by simp [oddL], .str _⟩
      · exact ⟨.str "ab0", by simp [oddL], .str _⟩
      · exact ⟨.str "z", by simp [oddL], .str _⟩
      · exact ⟨.int 0, by simp [oddL], .int _⟩
      · exact ⟨.str "A", by simp [oddL], .str _⟩
      · refine ⟨.tuple [.str "a"], by simp [oddL], .tup (SqT.of (xs := [.str "a"]) (e2 _ _ (Ex.new hl1 _ _ upd_same) ?_ ?_)) (.cons (.str _) .nil)⟩
        · exact (I1.d.fresh ht1).1.symm
        · exact (I1.d.fresh ht1).2.symm
      · exact ⟨.str "2", by simp [oddL], .str _⟩
    obtain ⟨po1, po2, po3⟩ := odd_all po hpo
    have po4 := odd_sign z hz6 po hpo
    have po5 := odd_short po hpo
    -- state
    refine ⟨_, rfl, 1, rfl, _, rfl, wa, _, rfl, .inl (rdG I2.s), one_sz, fun t3 ht3 => ⟨by rw [sizeLine_eq]; show 7 ≤ _; omega, fun l3 hl3 => ⟨a, b, l3, _, rfl, (I2.d.ex (Ex.new ht3)).ex (Ex.new hl3), upd_same, ((I2.d.ex (Ex.new ht3)).fresh hl3).1.symm, ((I2.d.ex (Ex.new ht3)).fresh hl3).2.symm, by show 1 ≤ 7; omega, by show 7 ≤ 100; omega, fun j2 vs G4 hv2 e4 hD4 => ?_⟩⟩⟩
    have eI := (Ex.new (o := .tup [.int 0]) ht3).trans (Ex.new (o := .lst [.non, .bl true, .bl false, .int (-1), .int ((xw.length : Nat) : Int), .str "0", .ref t3]) hl3)
    have I4 := (I2.ex eI).exD e4 hD4
    obtain ⟨ps, hps, hvs⟩ : ∃ d ∈ stateL ws.length, Dp K G4 vs d := by
      have := List.mem_of_getElem? hv2
      rw [lxw] at this
      simp only [List.mem_cons, List.not_mem_nil, or_false] at this
      rcases this with rfl | rfl | rfl | rfl | rfl | rfl | rfl
      · exact ⟨.none, by simp [stateL], .non⟩
      · exact ⟨.bool true, by simp [stateL], .bl _⟩
      · exact ⟨.bool false, by simp [stateL], .bl _⟩
      · exact ⟨.int (-1), by simp [stateL], .int _⟩
      · exact ⟨.int (ws.length : Int), by simp [stateL], .int _⟩
      · exact ⟨.str "0", by simp [stateL], .str _⟩
      · refine ⟨.tuple [.int 0], by simp [stateL], .tup (SqT.of (xs := [.int 0]) (e4 _ _ (Ex.new hl3 _ _ upd_same) ?_ ?_)) (.cons (.int _) .nil)⟩
        · exact (I2.d.fresh ht3).1.symm
        · exact (I2.d.fresh ht3).2.symm
    obtain ⟨ps1, ps2, ps3, ps4⟩ := state_all hps
    have J4 : SSt K C a b S mx z ws TT H vo vs po ps G4 := ⟨I4, dp_tex (e4.tex (I2.ex eI).d) (dp_ex eI hvo) po3, hvs, po3, ps3⟩
    have so : Sh 5 (kdR "letter" po) := sh_kdR (lay_nm _ (by simp)) ⟨po1, po2⟩
    have ss : Sh 5 (kdR "refused" ps) := sh_kdR (lay_nm _ (by simp)) ⟨ps1, ps2⟩
    clear hv1 hv2 e2 e4 eI
    -- step(0, odd)
    refine ⟨J4.w.t, fun G5 eN5 t5 => ?_⟩
    have J5 := J4.exN eN5 t5
    obtain ⟨dx5, wt5, hm5, _⟩ := J5.w.m.ob
    refine ⟨_, rfl, mx, dx5, _, rfl, hm5, mfs_none (by decide +kernel), _, rfl, mx, .int ((0 : Nat) : Int), vo, .int ((0 : Nat) : Int), po, z, ws, 0, rfl, J5.w.m, hok, hz6, .int _, J5.o, po5, .inr ⟨0, rfl, by omega, .inl ⟨po4, fun G6 d6 e6 hd6 => ⟨d6, "letter", vo, rfl, .inr (.inr (.inr ⟨rfl, rfl, upd_same⟩)), fun t ht => ⟨_, rfl, two_sz, fun t2 ht2 => ?_⟩⟩⟩⟩⟩
    have e7 := ((e6.trans (Ex.new (o := .xd [(("letter" : Str), vo)]) hd6)).trans (Ex.new (o := .tup [.str "letter", vo]) ht)).trans (Ex.new (o := .tup [.str "letter", vo]) ht2)
    have J7 := J5.ex e7
    refine told_ne (Ex.new ht2 _ _ upd_same) upd_same J7.o so ⟨_, rfl, iteF1 rfl ?_⟩
    generalize (upd (upd (upd G6 d6 (.xd [(("letter" : Str), vo)])) t (.tup [.str "letter", vo])) t2 (.tup [.str "letter", vo])) = G7 at J7
    clear e7 hd6 ht ht2 e6 J5 hm5 J4
    -- step(state, odd)
    refine ⟨J7.w.t, fun G8 eN8 t8 => ?_⟩
    have J8 := J7.exN eN8 t8
    obtain ⟨dx8, wt8, hm8, _⟩ := J8.w.m.ob
    refine ⟨_, rfl, mx, dx8, _, rfl, hm8, mfs_none (by decide +kernel), _, rfl, _, rfl, mx, vs, vo, ps, po, z, ws, 0, rfl, J8.w.m, hok, hz6, J8.s, J8.o, po5, .inl ⟨ps4, fun G9 d9 e9 hd9 => ⟨d9, "refused", vs, rfl, .inr (.inr (.inl ⟨rfl, rfl, upd_same⟩)), fun t ht => ⟨_, rfl, two_sz, fun t2 ht2 => ?_⟩⟩⟩⟩
    have J10 := J8.ex (((e9.trans (Ex.new (o := .xd [(("at" : Str), vs)]) hd9)).trans (Ex.new (o := .tup [.str "refused", vs]) ht)).trans (Ex.new (o := .tup [.str "refused", vs]) ht2))
    refine told_ne (Ex.new ht2 _ _ upd_same) upd_same J10.s ss ⟨_, rfl, iteF1 rfl ?_⟩
    generalize (upd (upd (upd G9 d9 (.xd [(("at" : Str), vs)])) t (.tup [.str "refused", vs])) t2 (.tup [.str "refused", vs])) = G10 at J10
    clear hd9 ht ht2 e9 J8 hm8 J7
    -- started(state)
    refine ⟨J10.w.t, fun G11 eN11 t11 => ?_⟩
    have J11 := J10.exN eN11 t11
    obtain ⟨dx11, wt11, hm11, _⟩ := J11.w.m.ob
    refine ⟨_, rfl, mx, dx11, _, rfl, hm11, mfs_none (by decide +kernel), _, rfl, mx, vs, ps, z, ws, 0, rfl, J11.w.m, hok, hz6, n1, by omega, J11.s, .inl ⟨ps4, fun G12 d12 e12 hd12 => ⟨d12, "refused", vs, rfl, .inr (.inr (.inl ⟨rfl, rfl, upd_same⟩)), fun t ht => ⟨_, rfl, two_sz, fun t2 ht2 => ?_⟩⟩⟩⟩
    have J13 := J11.ex (((e12.trans (Ex.new (o := .xd [(("at" : Str), vs)]) hd12)).trans (Ex.new (o := .tup [.str "refused", vs]) ht)).trans (Ex.new (o := .tup [.str "refused", vs]) ht2))
    refine told_ne (Ex.new ht2 _ _ upd_same) upd_same J13.s ss ⟨_, rfl, iteF1 rfl ?_⟩
    generalize (upd (upd (upd G12 d12 (.xd [(("at" : Str), vs)])) t (.tup [.str "refused", vs])) t2 (.tup [.str "refused", vs])) = G13 at J13
    clear hd12 ht ht2 e12 J11 hm11 J10
    -- head
    refine ⟨fun σ G => WSt K C a b S mx z ws 0 TT H G ∧ ∃ (head : Str) (v4 v5 : Option V), σ = [some (.ref a), some (.str z), some (.ref wa), some (.ref mx), v4, v5, some (.str head)] ∧ (∀ c ∈ head.cps.toList, c ∈ z.cps.toList) ∧ head.cps.size ≤ 3, ?_, ?_⟩
    · refine ⟨_, rfl, rfl, _, rfl, ?_⟩
      by_cases qz : z = ""
      · exact iteT1 (decide_eq_true (congrArg V.str qz)) ⟨J13.w, "", _, _, rfl, fun c hc => (by cases hc), Nat.zero_le _⟩
      refine iteF1 (decide_eq_false fun e => qz (by injection e)) ?_
      have z1 := z_pos qz
      obtain ⟨c, hc⟩ : ∃ c, z.cps.toList[0]? = some c := ⟨_, List.getElem?_eq_getElem (by rw [Array.length_toList]; omega)⟩
      refine ⟨_, rfl, z, 0, c, rfl, rfl, lzs, atI_nat hc, _, rfl, a, b, 3, rfl, J13.w.d, by decide, by decide, fun d G14 hd3 e14 hD14 => ⟨⟨#[c]⟩, d, rfl, rfl, (by show 1 ≤ 10000; omega), by omega, J13.w.exD e14 hD14, _, _, _, rfl, fun d2 hd2 => ?_, ?_⟩⟩
      · have := rep_mem hd2
        have e : d2 = c := by simpa using this
        rw [e]
        exact List.mem_of_getElem? hc
      · have sz : (repS ⟨#[c]⟩ d).cps.size = d * 1 := repS_size
        omega
    rintro _ G14 ⟨I14, head, v4, v5, rfl, hhead, lhead⟩
    have lhs : head.length ≤ sizeLine := by
      rw [sizeLine_eq]
      show head.cps.size ≤ _
      omega
    have sr : Sh 5 (kdR "row" (.int (head.length : Int))) := sh_kdR (lay_nm _ (by simp)) ((sh_int _).mono (by omega))
    have sm1 : Sh 5 (kdR "row" (.int (-1))) := sh_kdR (lay_nm _ (by simp)) ((sh_int _).mono (by omega))
    -- reads
    have e1 : ((head ++ ("z" : Str)) ++ head).cps.toList = head.cps.toList ++ 122 :: head.cps.toList := by
      show ((head.cps ++ ("z" : Str).cps) ++ head.cps).toList = _
      have : ("z" : Str).cps = #[122] := rfl
      rw [this]
      simp
    have l1 : ((head ++ ("z" : Str)) ++ head).cps.size ≤ 7 := by
      rw [← Array.length_toList, e1, List.length_append, List.length_cons, Array.length_toList]
      omega
    have f1 : rowFault z (.str ((head ++ ("z" : Str)) ++ head)) = some ((head.length : Nat) : Int) := by
      rw [fault_at e1 hhead (z_not hz6), Array.length_toList]
      rfl
    refine ⟨I14.t, fun G15 eN15 t15 => ?_⟩
    have I15 := I14.exN eN15 t15
    obtain ⟨dx15, wt15, hm15, _⟩ := I15.m.ob
    refine ⟨_, rfl, mx, dx15, _, rfl, hm15, mfs_none (by decide +kernel), _, rfl, head, "z", rfl, rfl, ?_, _, rfl, head ++ "z", head, rfl, rfl, ?_, mx, .str ((head ++ "z") ++ head), .str ((head ++ "z") ++ head), z, ws, 0, rfl, I15.m, hok, hz6, by omega, .str _, (by show ((head ++ ("z" : Str)) ++ head).cps.size ≤ 100000; omega), .inr ⟨_, f1, fun G16 d16 e16 hd16 => ⟨d16, "row", _, rfl, .inr (.inl ⟨rfl, rfl, upd_same⟩), fun t ht => ⟨_, rfl, head, rfl, lhs, two_sz, fun t2 ht2 => ?_⟩⟩⟩⟩
    · rw [sizeLine_eq]
      show head.cps.size + 1 ≤ _
      omega
    · rw [sizeLine_eq]
      show (head.cps ++ ("z" : Str).cps).size + head.cps.size ≤ _
      rw [Array.size_append]
      show head.cps.size + 1 + head.cps.size ≤ _
      omega
    have I17 := I15.ex (((e16.trans (Ex.new (o := .xd [(("at" : Str), V.int ((head.length : Nat) : Int))]) hd16)).trans (Ex.new (o := .tup [.str "row", .int ((head.length : Nat) : Int)]) ht)).trans (Ex.new (o := .tup [.str "row", .int ((head.length : Nat) : Int)]) ht2))
    refine told_ne (Ex.new ht2 _ _ upd_same) upd_same (.int _) sr ⟨_, rfl, iteF1 rfl ?_⟩
    generalize (upd (upd (upd G16 d16 (.xd [(("at" : Str), V.int ((head.length : Nat) : Int))])) t (.tup [.str "row", .int ((head.length : Nat) : Int)])) t2 (.tup [.str "row", .int ((head.length : Nat) : Int)])) = G17 at I17
    clear hd16 ht ht2 e16 hm15 I15
    -- beginning
    refine ⟨I17.t, fun G18 eN18 t18 => ?_⟩
    have I18 := I17.exN eN18 t18
    obtain ⟨dx18, wt18, hm18, _⟩ := I18.m.ob
    refine ⟨_, rfl, mx, dx18, _, rfl, hm18, mfs_none (by decide +kernel), _, rfl, one_sz, fun l3 hl3 => ⟨four_sz, fun l4 hl4 => ⟨a, b, l4, _, rfl, (I18.d.ex (Ex.new hl3)).ex (Ex.new hl4), upd_same, ((I18.d.ex (Ex.new hl3)).fresh hl4).1.symm, ((I18.d.ex (Ex.new hl3)).fresh hl4).2.symm, by show 1 ≤ 4; omega, by show 4 ≤ 100; omega, fun j3 v G19 hv3 e19 hD19 => ?_⟩⟩⟩
    have I19 := (I18.ex ((Ex.new (o := .lst [.str "a"]) hl3).trans (Ex.new (o := .lst [.non, .int 5, .ref l3, .bl true]) hl4))).exD e19 hD19
    obtain ⟨d, hvd, hsd, hfd⟩ : ∃ d, Dp K G19 v d ∧ shortD d ∧ rowFault z d = some (-1) := by
      have := List.mem_of_getElem? hv3
      simp only [List.mem_cons, List.not_mem_nil, or_false] at this
      rcases this with rfl | rfl | rfl | rfl
      · exact ⟨.none, .non, trivial, rfl⟩
      · exact ⟨.int 5, .int _, trivial, rfl⟩
      · refine ⟨.list [.str "a"], .lst (SqL.of (xs := [.str "a"]) (e19 _ _ (Ex.new hl4 _ _ upd_same) ?_ ?_)) (.cons (.str _) .nil), trivial, rfl⟩
        · exact (I18.d.fresh hl3).1.symm
        · exact (I18.d.fresh hl3).2.symm
      · exact ⟨.bool true, .bl _, trivial, rfl⟩
    obtain ⟨dx19, wt19, hm19, _⟩ := I19.m.ob
    refine ⟨mx, v, d, z, ws, 0, rfl, I19.m, hok, hz6, by omega, hvd, hsd, .inr ⟨_, hfd, fun G20 d20 e20 hd20 => ⟨d20, "row", _, rfl, .inr (.inl ⟨rfl, rfl, upd_same⟩), fun t ht => ⟨1, rfl, two_sz, fun t2 ht2 => ?_⟩⟩⟩⟩
    have I21 := I19.ex (((e20.trans (Ex.new (o := .xd [(("at" : Str), V.int (-1))]) hd20)).trans (Ex.new (o := .tup [.str "row", .int (-1)]) ht)).trans (Ex.new (o := .tup [.str "row", .int (-1)]) ht2))
    refine told_ne (Ex.new ht2 _ _ upd_same) upd_same (.int _) sm1 ⟨_, rfl, iteF1 rfl ?_⟩
    have I21 : WSt K C a b S mx z ws 0 TT H (upd (upd (upd G20 d20 (.xd [(("at" : Str), V.int (-1))])) t (.tup [.str "row", .int (-1)])) t2 (.tup [.str "row", (fun i => V.int (-i)) 1])) := I21
    generalize (upd (upd (upd G20 d20 (.xd [(("at" : Str), V.int (-1))])) t (.tup [.str "row", .int (-1)])) t2 (.tup [.str "row", (fun i => V.int (-i)) 1])) = G21 at I21
    clear hd20 ht ht2 e20 hm19 hvd e19 hv3 I19
    -- after
    have e2 : (head ++ repS "z" 250).cps.toList = head.cps.toList ++ 122 :: (List.replicate 249 ("z" : Str).cps.toList).flatten := by
      show (head.cps ++ (repS "z" 250).cps).toList = _
      rw [Array.toList_append, rep_list]
      rfl
    have l2 : (head ++ repS "z" 250).cps.size ≤ 300 := by
      show (head.cps ++ (repS "z" 250).cps).size ≤ _
      have sz : (repS ("z" : Str) 250).cps.size = 250 * 1 := repS_size
      rw [Array.size_append, sz]
      omega
    have f2 : rowFault z (.str (head ++ repS "z" 250)) = some ((head.length : Nat) : Int) := by
      rw [fault_at e2 hhead (z_not hz6), Array.length_toList]
      rfl
    refine ⟨I21.t, fun G22 eN22 t22 => ?_⟩
    have I22 := I21.exN eN22 t22
    obtain ⟨dx22, wt22, hm22, _⟩ := I22.m.ob
    refine ⟨_, rfl, mx, dx22, _, rfl, hm22, mfs_none (by decide +kernel), _, rfl, "z", 250, rfl, rfl, (by show 1 ≤ 10000; omega), by omega, head, repS "z" 250, rfl, rfl, ?_, mx, .str (head ++ repS "z" 250), .str (head ++ repS "z" 250), z, ws, 0, rfl, I22.m, hok, hz6, by omega, .str _, (by show (head ++ repS "z" 250).cps.size ≤ 100000; omega), .inr ⟨_, f2, fun G23 d23 e23 hd23 => ⟨d23, "row", _, rfl, .inr (.inl ⟨rfl, rfl, upd_same⟩), fun t ht => ⟨_, rfl, head, rfl, lhs, two_sz, fun t2 ht2 => ?_⟩⟩⟩⟩
    · rw [sizeLine_eq]
      show head.cps.size + (repS "z" 250).cps.size ≤ _
      have sz : (repS ("z" : Str) 250).cps.size = 250 * 1 := repS_size
      omega
    have I24 := I22.ex (((e23.trans (Ex.new (o := .xd [(("at" : Str), V.int ((head.length : Nat) : Int))]) hd23)).trans (Ex.new (o := .tup [.str "row", .int ((head.length : Nat) : Int)]) ht)).trans (Ex.new (o := .tup [.str "row", .int ((head.length : Nat) : Int)]) ht2))
    exact told_eq (Ex.new ht2 _ _ upd_same) upd_same (.int _) sr (k _ I24.r I24.d I24.t)
end
end My
set_option Elab.async false
set_option linter.all false
set_option autoImplicit false
set_option maxRecDepth 100000
set_option maxHeartbeats 4000000
namespace My
open PySem PySem.Spec PyProof.Rows L2 Evl
open PySem.OneX (OneTxt Tail tail_ex exTail)
open PySem.OneXL (keyTail tail_key line_key)
open LamX (TabB TabS Tabs ExtN CodeO pe_lamcall lamS_by)
section
variable {P : Program} {w : World} {K : PySem.W.Frag} {mg : Str → Option Value} {base : Heap}
/-- how the base class takes what a machine is refused by -/
structure BaseT (K : PySem.W.Frag) (mg : Str → Option Value) (CE CM CB CF : Addr) : Prop where
  gE : mg "RuelessError" = some (.ref CE)
  te : PySem.W.exmOne K (.ref CM) (.ref CE) = some true
  ex : L2.ExcC K CM
  kM : PySem.W.kitOne K (.ref CM) (.ref CM) = some true
  kN : PySem.W.kitAny K (.ref CM) [.ref CF, .ref CB] = some false
/-! the part of the memory that nothing touches -/
def cutH (xs : List Addr) (G : Hp) : Hp := fun c => if c ∈ xs then none else match G c with
  | some (.tbl _) => none
  | o => o
theorem cut_get {xs : List Addr} {G : Hp} {c : Addr} {o : HO} (h : G c = some o) (n : c ∉ xs) (t : ∀ ps, o ≠ .tbl ps) : cutH xs G c = some o := by
  unfold cutH
  rw [if_neg n, h]
  cases o with
  | tbl ps => exact (t ps rfl).elim
  | _ => rfl
theorem cut_of {xs : List Addr} {G : Hp} {c : Addr} {o : HO} (h : cutH xs G c = some o) : G c = some o ∧ c ∉ xs ∧ ∀ ps, o ≠ .tbl ps := by
  unfold cutH at h
  by_cases n : c ∈ xs
  · rw [if_pos n] at h
    cases h
  · rw [if_neg n] at h
    cases q : G c with
    | none =>
      rw [q] at h
      cases h
    | some u =>
      rw [q] at h
      cases u <;> first | (cases h; exact ⟨rfl, n, fun ps e => by cases e⟩) | cases h
theorem cut_ex {xs : List Addr} {G : Hp} : Ex (cutH xs G) G := fun c o h => (cut_of h).1
theorem cut_sub {xs ys : List Addr} {G : Hp} (h : ∀ c ∈ xs, c ∈ ys) : Ex (cutH ys G) (cutH xs G) := fun c o q => by
  obtain ⟨h1, h2, h3⟩ := cut_of q
  exact cut_get h1 (fun m => h2 (h c m)) h3
def ExX (xs : List Addr) (H H' : Hp) : Prop := ∀ c o, H c = some o → c ∉ xs → (∀ ps, o ≠ .tbl ps) → H' c = some o
theorem cut_mono {xs : List Addr} {G G' : Hp} (e : ExX xs G G') : Ex (cutH xs G) (cutH xs G') := fun c o q => by
  obtain ⟨h1, h2, h3⟩ := cut_of q
  exact cut_get (e c o h1 h2 h3) h2 h3
theorem exX_R {a b : Addr} {xs : List Addr} {G G' : Hp} (ha : a ∈ xs) (hb : b ∈ xs) (e : ExR a b G G') : ExX xs G G' := fun c o h n t => e c o h (fun q => n (q ▸ ha)) (fun q => n (q ▸ hb)) t
theorem calm_cut {a b : Addr} {G : Hp} : Calm a b (cutH [a, b] G) G := ⟨cut_ex, fun c o h => by
  obtain ⟨_, h2, h3⟩ := cut_of h
  exact ⟨fun q => h2 (by rw [q]; simp), fun q => h2 (by rw [q]; simp), h3⟩⟩
theorem Calm.cut {a b : Addr} {S G : Hp} (h : Calm a b S G) : Ex S (cutH [a, b] G) := fun c o q => by
  obtain ⟨h1, h2, h3⟩ := h.no c o q
  exact cut_get (h.ex c o q) (by simp [h1, h2]) h3
theorem Deal.put {H : Hp} {a b l : Addr} {o : HO} (h : Deal H a b) (ha : l ≠ a) (hb : l ≠ b) : Deal (upd H l o) a b := by
  obtain ⟨⟨cs, z, h1, h2, r⟩, ne⟩ := h
  exact ⟨⟨cs, z, by rw [upd_ne ha.symm]; exact h1, by rw [upd_ne hb.symm]; exact h2, r⟩, ne⟩
/-- what stays while the faults are tried -/
structure FSt (a b : Addr) (S : Hp) (TT : List (Addr × Str)) (H G : Hp) : Prop where
  r : ExR a b H G
  d : Deal G a b
  s : Calm a b S G
  t : Tabs TT G
theorem FSt.ex {a b : Addr} {S : Hp} {TT : List (Addr × Str)} {H G G' : Hp} (h : FSt a b S TT H G) (e : Ex G G') : FSt a b S TT H G' :=
  ⟨h.r.trans (exR_of e), h.d.ex e, h.s.R (exR_of e), h.t.ext e⟩
theorem FSt.exD {a b : Addr} {S : Hp} {TT : List (Addr × Str)} {H G G' : Hp} (h : FSt a b S TT H G) (e : ExD a b G G') (d : Deal G' a b) : FSt a b S TT H G' :=
  ⟨h.r.trans (exR_D e), d, h.s.R (exR_D e), tabs_exD h.t h.d e⟩
theorem FSt.exN {a b : Addr} {S : Hp} {TT : List (Addr × Str)} {H G G' : Hp} (h : FSt a b S TT H G) (e : ExtN G G') (t : Tabs TT G') : FSt a b S TT H G' :=
  ⟨h.r.trans (exR_N e), h.d.extN e, h.s.R (exR_N e), t⟩
/-- a fresh object, then draws: it is in the calm part -/
theorem cut_new {a b c : Addr} {G G0 G' : Hp} {o : HO} (d : Deal G0 a b) (h0 : G0 c = none) (h : G c = some o) (e : ExD a b G G') (t : ∀ ps, o ≠ .tbl ps) : cutH [a, b] G' c = some o := by
  obtain ⟨n1, n2⟩ := d.fresh h0
  exact cut_get (e c o h n1.symm n2.symm) (by simp [n1.symm, n2.symm]) t
theorem rep_flat {x : V} : ∀ d : Nat, (List.replicate d [x]).flatten = List.replicate d x
  | 0 => rfl
  | d + 1 => by
    rw [List.replicate_succ, List.flatten_cons, rep_flat d]
    rfl
theorem dp_rep {H : Hp} {v : V} {d : PyData} (h : Dp K H v d) : ∀ n : Nat, DpAll K H (List.replicate n v) (List.replicate n d)
  | 0 => .nil
  | n + 1 => .cons h (dp_rep h n)
theorem wrong_all : ∀ s ∈ ([("ba" : Str), "aa", "0a", "abz", "10", "a "] : List Str), s ≠ subw s := by decide +kernel
theorem zero_sz : 0 ≤ sizeLine := Nat.zero_le _
def BadWays (d : PyData) : Prop := ∀ rows, seqD d = some rows → (rows.length = 0 ∨ 2000 < rows.length) ∧ rows.length ≤ 100000
def BadR (m n : Nat) (d : PyData) : Prop := rowOkD m n d = false ∧ ∀ xs, seqD d = some xs → xs.length ≤ 100000
/-- the things from which a row is drawn: none is a row -/
def ThOk (K : PySem.W.Frag) (a b l : Addr) (m n : Nat) (ts : List V) (G : Hp) : Prop := G l = some (.lst ts) ∧ ∀ v ∈ ts, ∃ d, Dp K (cutH [a, b, l] G) v d ∧ BadR m n d
theorem ThOk.R {a b l : Addr} {m n : Nat} {ts : List V} {G G' : Hp} (h : ThOk K a b l m n ts G) (e : ExR a b G G') (na : l ≠ a) (nb : l ≠ b) : ThOk K a b l m n ts G' :=
  ⟨e _ _ h.1 na nb (fun ps q => by cases q), fun v hv => by
    obtain ⟨d, h1, h2⟩ := h.2 v hv
    exact ⟨d, dp_ex (cut_mono (exX_R (xs := [a, b, l]) (by simp) (by simp) e)) h1, h2⟩⟩
theorem cut_put {xs : List Addr} {G : Hp} {l : Addr} {o : HO} (h : l ∈ xs) : Ex (cutH xs G) (cutH xs (upd G l o)) := cut_mono fun c u q n _ => by
  rw [upd_ne fun e => n (by rw [e]; exact h)]
  exact q
theorem ThOk.put {a b l : Addr} {m n : Nat} {ts : List V} {G : Hp} {v : V} {d : PyData} (h : ThOk K a b l m n ts G) (hv : Dp K (cutH [a, b, l] G) v d) (hb : BadR m n d) : ThOk K a b l m n (ts ++ [v]) (upd G l (.lst (ts ++ [v]))) :=
  ⟨upd_same, fun u hu => by
    rcases List.mem_append.mp hu with q | q
    · obtain ⟨d, h1, h2⟩ := h.2 u q
      exact ⟨d, dp_ex (cut_put (by simp)) h1, h2⟩
    · rw [List.mem_singleton.mp q]
      exact ⟨d, dp_ex (cut_put (by simp)) hv, hb⟩⟩
theorem FSt.mut {a b l : Addr} {S : Hp} {TT : List (Addr × Str)} {H G0 G : Hp} {ts : List V} {o : HO} (f0 : FSt a b S TT H G0) (f : FSt a b S TT H G) (e : ExR a b G0 G) (n : G0 l = none) (hl : G l = some (.lst ts)) (na : l ≠ a) (nb : l ≠ b) : FSt a b S TT H (upd G l o) ∧ ExR a b G0 (upd G l o) := by
  have e2 : ExR a b G0 (upd G l o) := fun c u h n1 n2 t => by
    rw [upd_ne (ne_of_none h n)]
    exact e c u h n1 n2 t
  exact ⟨⟨f0.r.trans e2, f.d.put na nb, f0.s.R e2, tabs_keep f.t fun b o h q => by
    rw [upd_ne]
    · exact h
    · rintro rfl
      rw [hl] at h
      cases h
      exact q _ rfl⟩, e2⟩
theorem badR_list {m n : Nat} {xs : List PyData} (hl : xs.length ≤ 100000) (h : xs.length ≠ m ∨ ∃ d ∈ xs, stepOkD n d = false) : BadR m n (.list xs) := by
  refine ⟨?_, fun ys e => ?_⟩
  · show (decide (xs.length = m) && xs.all (stepOkD n)) = false
    rcases h with h | ⟨d, hd, hb⟩
    · rw [decide_eq_false h]
      rfl
    · rw [Bool.and_eq_false_iff]
      right
      rw [List.all_eq_false]
      exact ⟨d, hd, by rw [hb]; exact Bool.false_ne_true⟩
  · injection e with e
    rw [← e]
    exact hl
theorem rows_read {H : Hp} {xs : List V} {ws : List (List (Option Nat))} {s : Nat} (h : DpAll K H xs (ws.map rowN)) (hs : s < ws.length) : ∃ ra, xs[s]? = some (.ref ra) ∧ SqL K H ra ((ws.getD s []).map oW) := by
  obtain ⟨v, hv, hd⟩ := dpAll_get (i := s) (d := rowN ws[s]) h (by rw [List.getElem?_map, List.getElem?_eq_getElem hs]; rfl)
  obtain ⟨ra, rs, rfl, h3, h4⟩ := dp_lst hd
  have e := dpAll_oN_eq h4
  subst e
  refine ⟨ra, hv, ?_⟩
  rw [List.getD_eq_getElem?_getD, List.getElem?_eq_getElem hs]
  exact h3
theorem dpAll_take {H : Hp} : ∀ {vs : List V} {ds : List PyData} (n : Nat), DpAll K H vs ds → DpAll K H (vs.take n) (ds.take n)
  | _, _, 0, _ => by
    rw [List.take_zero, List.take_zero]
    exact .nil
  | _, _, n + 1, .nil => .nil
  | _, _, n + 1, .cons h t => .cons h (dpAll_take n t)
theorem dpAll_drop {H : Hp} : ∀ {vs : List V} {ds : List PyData} (n : Nat), DpAll K H vs ds → DpAll K H (vs.drop n) (ds.drop n)
  | _, _, 0, h => h
  | _, _, n + 1, .nil => .nil
  | _, _, n + 1, .cons h t => dpAll_drop n t
def spFau (K : PySem.W.Frag) (T : List (Addr × Str)) : Sp := fun vs H Q _ => ∃ (a b wa : Addr) (S : Hp) (z : Str) (ws : List (List (Option Nat))), vs = [.ref a, .str z, .ref wa] ∧ Deal H a b ∧ Calm a b S H ∧ Dp K S (.ref wa) (waysN ws) ∧ WaysOk z.cps.size ws ∧ z ∈ L64 ∧ 1 ≤ ws.length ∧ ws.length ≤ 7 ∧ Tabs T H ∧
  ∀ H', ExR a b H H' → Deal H' a b → Tabs T H' → Q (.bl true) H'
abbrev sFau : Stmt := sFaults
abbrev nFau : List Str := ["deal", "letters", "ways", "wrong", "none", "at", "things", "spot", "thing", "bent", "start", "error"]
theorem scFau : FnScope nFau ["deal", "letters", "ways"] (defScope sFaults) := ⟨rfl, rfl, rfl, by decide +kernel, rfl, by decide +kernel, by decide +kernel⟩
theorem ok_Fau {f C CE CM CB CF CL fM fB fF fL c pt : Addr} {oc kV doc pm ct : Value} {od an : Option Addr} {osl : Array (Option Value)} {q0 : Str} {TT : List (Addr × Str)} (hq0 : (("_law_faults" : Str) ++ (".<locals>." : Str)) ++ ("<lambda>" : Str) = q0) (hT0 : (pt, q0) ∈ TT) (hT1 : ∀ p ∈ TT, p.1 = pt → p.2 = q0)
    (lk : K.lookup f = some ⟨oc, od, .func (PySem.W.fnOf "_law_faults" "_law_faults" (defArgs sFaults) (defBody sFaults) (defScope sFaults) .none kV doc pm an (.ref c) ct), osl⟩) (hcd : PySem.W.codeIn K (.ref c) "_law_faults" = true) (T : Txt K mg) (ET : ErrT K mg CM CB CF CL fM fB fF fL) (BT : BaseT K mg CE CM CB CF) (TB : TabB base mg c pt)
    (Md : Made P w K mg base C CM) (Oa : Own P w K mg base "_law_any" 1 ["deal", "bound"] spAny) (Oo : Own P w K mg base "_law_of" 2 ["deal", "some"] spOf)
    {fR : Addr} {fdR : FuncData} (FR : Fun K "_law_refused" "_law_refused" sRefused fR fdR) (mR : mg "_law_refused" = some (.ref fR)) (bR : L2.Binds K fdR ["work"] []) :
    FnOk P w K mg base CX0 10 f (PySem.W.fnOf "_law_faults" "_law_faults" (defArgs sFaults) (defBody sFaults) (defScope sFaults) .none kV doc pm an (.ref c) ct) ["deal", "letters", "ways"] (spFau K TT) := by
  obtain ⟨mv, kI⟩ := mi_kbinds Md.FI
  obtain ⟨ds0, hv0, hb0⟩ := mi_binds0 Md.FI
  obtain ⟨ocR, odR, kVR, docR, pmR, anR, cdR, ctR, oslR, eR, lkR, hcR⟩ := FR.ex
  subst eR
  refine okC lk hcd scFau (fun vs H Q E h => ?_) (fun A outer s H vs Q E hr h => ?_)
  · obtain ⟨a, b, wa, S, z, ws, rfl, _⟩ := h
    rfl
  · obtain ⟨a, b, wa, S, z, ws, rfl, hD, hS, hwa, hok, hz6, n1, n7, hT, k⟩ := h
    have hu := hu64 hr
    refine ⟨_, (pss_cons (ps_set (i := 3) scFau.nd rfl (by first | exact Or.inl rfl | exact Or.inr rfl) (pe_call Oo.G (hr.mono (by decide)) rfl Oo.m Oo.kp Oo.b .nil pass0 (pa_cons (pv 0) (pa_cons (pe_lst (pa_cons pe_str (pa_cons pe_str (pa_cons pe_str (pa_cons pe_str (pa_cons pe_str (pa_cons pe_non (pa_cons pe_int (pa_cons (pe_lst (pa_cons pe_str pa_nil)) (pa_cons pe_str pa_nil)))))))))) pa_nil))))
  (pss_cons (ps_if (pt_cmpR (opNeD K hu) (pe_lamcall (T := TT) rfl mR FR.kp lkR hcR bR scRefused rfl (.inl rfl) (refused_gives ET) TB rfl (by show (pt, (("_law_faults" : Str) ++ (".<locals>." : Str)) ++ ("<lambda>" : Str)) ∈ TT; rw [hq0]; exact hT0) (fun p hp e => by show p.2 = (("_law_faults" : Str) ++ (".<locals>." : Str)) ++ ("<lambda>" : Str); rw [hq0]; exact hT1 p hp e) (hr.mono (by decide)) (lamS_by (by show LamX.lamSB (defScope sFaults) _ = true; decide +kernel)) rfl (fun _ _ _ _ _ => rfl) (fun A outer s H E f c2 hr2 => pe_makeK (k := 4) Md.M Md.GI hr2 rfl Md.gC kI (passes_call (takes_of rfl rfl rfl rfl) (fun _ _ _ _ h => h)) (pa_cons (pv 3) (pa_cons pe_non pa_nil)) (pk_cons (pe_un un_neg pe_int) pk_nil))) (pe_tup (pa_cons pe_str (pa_cons pe_str pa_nil))) (nomark _)) (pss_one (ps_ret pe_bl)) pss_nil)
  (pss_cons (ps_set (i := 4) scFau.nd rfl (by first | exact Or.inl rfl | exact Or.inr rfl) (pe_call Oo.G (hr.mono (by decide)) rfl Oo.m Oo.kp Oo.b .nil pass0 (pa_cons (pv 0) (pa_cons (pe_lst (pa_cons pe_non (pa_cons (pe_lst pa_nil) (pa_cons (pe_tup pa_nil) (pa_cons pe_str (pa_cons pe_int (pa_cons (pe_op op_rep (pe_lst (pa_cons (pe_lst pa_nil) pa_nil)) pe_int) pa_nil))))))) pa_nil))))
  (pss_cons (ps_if (pt_cmpR (opNeD K hu) (pe_lamcall (T := TT) rfl mR FR.kp lkR hcR bR scRefused rfl (.inl rfl) (refused_gives ET) TB rfl (by show (pt, (("_law_faults" : Str) ++ (".<locals>." : Str)) ++ ("<lambda>" : Str)) ∈ TT; rw [hq0]; exact hT0) (fun p hp e => by show p.2 = (("_law_faults" : Str) ++ (".<locals>." : Str)) ++ ("<lambda>" : Str); rw [hq0]; exact hT1 p hp e) (hr.mono (by decide)) (lamS_by (by show LamX.lamSB (defScope sFaults) _ = true; decide +kernel)) rfl (fun _ _ _ _ _ => rfl) (fun A outer s H E f c2 hr2 => pe_makeK (k := 4) Md.M Md.GI hr2 rfl Md.gC kI (passes_call (takes_of rfl rfl rfl rfl) (fun _ _ _ _ h => h)) (pa_cons (pv 1) (pa_cons (pv 4) pa_nil)) (pk_cons (pe_un un_neg pe_int) pk_nil))) (pe_tup (pa_cons pe_str (pa_cons pe_str pa_nil))) (nomark _)) (pss_one (ps_ret pe_bl)) pss_nil)
  (pss_cons (ps_set (i := 5) scFau.nd rfl (by first | exact Or.inl rfl | exact Or.inr rfl) (pe_call Oa.G (hr.mono (by decide)) rfl Oa.m Oa.kp Oa.b .nil pass0 (pa_cons (pv 0) (pa_cons (pe_callB (crLen K) (by rfl) T.b_len PySem.boot_len (pa_cons (pv 2) pa_nil)) pa_nil))))
  (pss_cons (ps_set (i := 6) scFau.nd rfl (by first | exact Or.inl rfl | exact Or.inr rfl) (pe_lst (pa_cons pe_non (pa_cons (pe_op op_rep (pe_lst (pa_cons pe_non pa_nil)) (pe_op op_add (pe_callB call_len_str (by rfl) T.b_len PySem.boot_len (pa_cons (pv 1) pa_nil)) pe_int)) (pa_cons (pe_op op_mulS pe_str (pe_callB call_len_str (by rfl) T.b_len PySem.boot_len (pa_cons (pv 1) pa_nil))) (pa_cons pe_int pa_nil))))))
  (pss_cut (ps_if (pt_cmpR op_ne (pv 1) pe_str (nomark _)) (pss_cons (ps_set (i := 7) scFau.nd rfl (by first | exact Or.inl rfl | exact Or.inr rfl) (pe_call Oa.G (hr.mono (by decide)) rfl Oa.m Oa.kp Oa.b .nil pass0 (pa_cons (pv 0) (pa_cons (pe_callB call_len_str (by rfl) T.b_len PySem.boot_len (pa_cons (pv 1) pa_nil)) pa_nil))))
  (pss_one (ps_for PassesOwn.never rfl (piL K (pe_lst (pa_cons (pe_callB (crLen K) (by rfl) T.b_len PySem.boot_len (pa_cons (pv 2) pa_nil)) (pa_cons (pe_un un_neg pe_int) (pa_cons pe_bl (pa_cons pe_str pa_nil)))))) (pg_name (i := 8) scFau.nd rfl (by first | exact Or.inl rfl | exact Or.inr rfl)) (pss_one (ps_expr (peBm K PySem.F.plainAttrs_list PySem.F.slot_list_append PySem.F.type_list_append mt_append (pv 6) (pa_cons (pe_op op_cat (pe_op op_cat (pe_slice (slL K) (pe_ix (ixL K) (pv 2) (pv 5) (fun _ _ => rfl)) po_none (po_some (pv 7))) (pe_lst (pa_cons (pv 8) pa_nil))) (pe_slice (slL K) (pe_ix (ixL K) (pv 2) (pv 5) (fun _ _ => rfl)) (po_some (pe_op op_add (pv 7) pe_int)) po_none)) pa_nil))))))) pss_nil)
  (pss_cons (ps_set (i := 9) scFau.nd rfl (by first | exact Or.inl rfl | exact Or.inr rfl) (pe_op op_cat (pe_op op_cat (pe_slice (slL K) (pv 2) po_none (po_some (pv 5))) (pe_lst (pa_cons (pe_call Oo.G (hr.mono (by decide)) rfl Oo.m Oo.kp Oo.b .nil pass0 (pa_cons (pv 0) (pa_cons (pv 6) pa_nil))) pa_nil))) (pe_slice (slL K) (pv 2) (po_some (pe_op op_add (pv 5) pe_int)) po_none)))
  (pss_cons (ps_if (pt_cmpR (opNeD K hu) (pe_lamcall (T := TT) rfl mR FR.kp lkR hcR bR scRefused rfl (.inl rfl) (refused_gives ET) TB rfl (by show (pt, (("_law_faults" : Str) ++ (".<locals>." : Str)) ++ ("<lambda>" : Str)) ∈ TT; rw [hq0]; exact hT0) (fun p hp e => by show p.2 = (("_law_faults" : Str) ++ (".<locals>." : Str)) ++ ("<lambda>" : Str); rw [hq0]; exact hT1 p hp e) (hr.mono (by decide)) (lamS_by (by show LamX.lamSB (defScope sFaults) _ = true; decide +kernel)) rfl (fun _ _ _ _ _ => rfl) (fun A outer s H E f c2 hr2 => pe_makeK (k := 4) Md.M Md.GI hr2 rfl Md.gC kI (passes_call (takes_of rfl rfl rfl rfl) (fun _ _ _ _ h => h)) (pa_cons (pv 1) (pa_cons (pv 9) pa_nil)) (pk_cons pe_non pk_nil))) (pe_tup (pa_cons pe_str (pa_cons (pv 5) pa_nil))) (nomark _)) (pss_one (ps_ret pe_bl)) pss_nil)
  (pss_cons (ps_set (i := 10) scFau.nd rfl (by first | exact Or.inl rfl | exact Or.inr rfl) (pe_call Oo.G (hr.mono (by decide)) rfl Oo.m Oo.kp Oo.b .nil pass0 (pa_cons (pv 0) (pa_cons (pe_lst (pa_cons pe_non (pa_cons (pe_un un_neg pe_int) (pa_cons pe_bl (pa_cons (pe_callB (crLen K) (by rfl) T.b_len PySem.boot_len (pa_cons (pv 2) pa_nil)) (pa_cons pe_str pa_nil)))))) pa_nil))))
  (pss_cons (ps_if (pt_cmpR (opNeD K hu) (pe_lamcall (T := TT) rfl mR FR.kp lkR hcR bR scRefused rfl (.inl rfl) (refused_gives ET) TB rfl (by show (pt, (("_law_faults" : Str) ++ (".<locals>." : Str)) ++ ("<lambda>" : Str)) ∈ TT; rw [hq0]; exact hT0) (fun p hp e => by show p.2 = (("_law_faults" : Str) ++ (".<locals>." : Str)) ++ ("<lambda>" : Str); rw [hq0]; exact hT1 p hp e) (hr.mono (by decide)) (lamS_by (by show LamX.lamSB (defScope sFaults) _ = true; decide +kernel)) rfl (fun _ _ _ _ _ => rfl) (fun A outer s H E f c2 hr2 => pe_makeK (k := 4) Md.M Md.GI hr2 rfl Md.gC kI (passes_call (takes_of rfl rfl rfl rfl) (fun _ _ _ _ h => h)) (pa_cons (pv 1) (pa_cons (pv 2) pa_nil)) (pk_cons (pv 10) pk_nil))) (pe_tup (pa_cons pe_str (pa_cons pe_str pa_nil))) (nomark _)) (pss_one (ps_ret pe_bl)) pss_nil)
  (pss_cons (ps_try_manyAs (tb := fun W => tDrop (tMake C (spMI K C CM) [V.int 0] (fun cls d H => ∀ σ : L2.St, σ.length = 12 → W cls d σ H) (tCons (tVar 1) (tCons (tVar 9) tNil)))) rfl rfl L2.takes0 (fun W pn xe tk _ => pss_one (ps_expr (pe_make Md.M Md.GI (hr.mono (by decide)) rfl Md.gC hb0 hv0 (passes_call (takes_len tk) (fun cls d σ H e hl => e σ hl)) (pa_cons (pv 1) (pa_cons (pv 9) pa_nil)))))
        (.cons (i := 11) (c := .ref CE) scFau.nd rfl rfl ⟨rfl, rfl, .inl BT.gE⟩ (fun a oe cls d pn hz hf => pss_one (ps_ret (pe_and (pe_callB (call_isErr hz hf) (by rfl) T.b_isinstance (by decide +kernel) (pa_cons (pv 11) (pa_cons (C8.pe_gc (v := .ref CM) (by rfl) ⟨_, ET.m.gC, rfl⟩) pa_nil))) (pe_one (pe_not (pe_callB (call_isErr hz hf) (by rfl) T.b_isinstance (by decide +kernel) (pa_cons (pv 11) (pa_cons (pe_tup (pa_cons (C8.pe_gc (v := .ref CF) (by rfl) ⟨_, ET.f.gC, rfl⟩) (pa_cons (C8.pe_gc (v := .ref CB) (by rfl) ⟨_, ET.b.gC, rfl⟩) pa_nil))) pa_nil)))))))) .nil))
  (pss_one (ps_ret pe_bl)))))))))))))), ?_⟩
    have F0 : FSt a b S TT H H := ⟨ExR.refl, hD, hS, hT⟩
    have lz := l64_len hz6
    have lz6 : z.length ≤ 6 := lz
    have lzs : z.length ≤ sizeLine := by
      rw [sizeLine_eq]
      show z.cps.size ≤ _
      omega
    obtain ⟨wa0, xw, ewa, hxw, hdw⟩ := dp_lst hwa
    cases ewa
    have lxw : xw.length = ws.length := by rw [dpAll_len hdw, List.length_map]
    have rdw := fun s hs => rows_read (s := s) hdw hs
    have rdG : ∀ {G : Hp}, Calm a b S G → SqL K G wa xw ∧ ∀ s, s < ws.length → ∃ ra, xw[s]? = some (.ref ra) ∧ SqL K G ra ((ws.getD s []).map oW) := fun e => ⟨ex_l e.ex hxw, fun s hs => by
      obtain ⟨ra, r1, r2⟩ := rdw s hs
      exact ⟨ra, r1, ex_l e.ex r2⟩⟩
    have smL : Sh 5 (kdR "machine" (.str "letters")) := sh_kdR (lay_nm _ (by simp)) ((sh_str (by decide +kernel)).mono (by omega))
    have smW : Sh 5 (kdR "machine" (.str "ways")) := sh_kdR (lay_nm _ (by simp)) ((sh_str (by decide +kernel)).mono (by omega))
    have smF : Sh 5 (kdR "machine" (.str "first")) := sh_kdR (lay_nm _ (by simp)) ((sh_str (by decide +kernel)).mono (by omega))
    have smI : ∀ i : Int, Sh 5 (kdR "machine" (.int i)) := fun i => sh_kdR (lay_nm _ (by simp)) ((sh_int _).mono (by omega))
    have cm : ∀ {G G' : Hp}, ExR a b G G' → Ex (cutH [a, b] G) (cutH [a, b] G') := fun e => cut_mono (exX_R (xs := [a, b]) (by simp) (by simp) e)
    -- wrong
    refine ⟨_, rfl, one_sz, fun l1 hl1 => ⟨by rw [sizeLine_eq]; show 9 ≤ _; omega, fun l2 hl2 => ⟨a, b, l2, _, rfl, (F0.d.ex (Ex.new hl1)).ex (Ex.new hl2), upd_same, ((F0.d.ex (Ex.new hl1)).fresh hl2).1.symm, ((F0.d.ex (Ex.new hl1)).fresh hl2).2.symm, by show 1 ≤ 9; omega, by show 9 ≤ 100; omega, fun j1 v1 G2 hv1 e2 hD2 => ?_⟩⟩⟩
    have F2 := ((F0.ex (Ex.new (o := .lst [.str "a"]) hl1)).ex (Ex.new (o := .lst [.str "ba", .str "aa", .str "0a", .str "abz", .str "10", .non, .int 3, .ref l1, .str "a "]) hl2)).exD e2 hD2
    obtain ⟨p1, hp1, hb1⟩ : ∃ d, Dp K (cutH [a, b] G2) v1 d ∧ ∀ z, d = .str z → z ≠ subw z := by
      have := List.mem_of_getElem? hv1
      simp only [List.mem_cons, List.not_mem_nil, or_false] at this
      have st : ∀ s ∈ ([("ba" : Str), "aa", "0a", "abz", "10", "a "] : List Str), ∃ d, Dp K (cutH [a, b] G2) (.str s) d ∧ ∀ z, d = .str z → z ≠ subw z := fun s hs => ⟨.str s, .str _, fun z e => by
        injection e with e
        rw [← e]
        exact wrong_all s hs⟩
      rcases this with rfl | rfl | rfl | rfl | rfl | rfl | rfl | rfl | rfl
      · exact st "ba" (by simp)
      · exact st "aa" (by simp)
      · exact st "0a" (by simp)
      · exact st "abz" (by simp)
      · exact st "10" (by simp)
      · exact ⟨.none, .non, fun z e => by cases e⟩
      · exact ⟨.int 3, .int _, fun z e => by cases e⟩
      · exact ⟨.list [.str "a"], .lst (SqL.of (cut_new F0.d hl1 (Ex.new hl2 _ _ upd_same) e2 (fun ps e => by cases e))) (.cons (.str _) .nil), fun z e => by cases e⟩
      · exact st "a " (by simp)
    clear hv1 e2
    refine ⟨F2.t, fun G3 eN3 t3 => ?_⟩
    have F3 := F2.exN eN3 t3
    have hp3 := dp_ex (cm (exR_N eN3)) hp1
    refine ⟨_, rfl, 1, rfl, rfl, rfl, fun x dx hx hdx ne => ?_⟩
    have em : Ex G3 (upd (upd G3 dx (.own x)) x (.ins C dx [])) := (Ex.new hdx).trans (Ex.new (by rw [upd_ne ne.symm]; exact hx))
    refine ⟨x, dx, v1, .non, .int (-1), p1, .none, .int (-1), rfl, upd_same, dp_ex em (dp_ex cut_ex hp3), .non, .int _, .inl ⟨hb1, fun G4 d4 e4 hd4 => ⟨d4, "machine", .str "letters", rfl, .inl ⟨rfl, rfl, upd_same⟩, fun t ht => ⟨two_sz, fun t2 ht2 => ?_⟩⟩⟩⟩
    have F5 := F3.ex ((((em.trans e4).trans (Ex.new (o := .xd [(("at" : Str), .str "letters")]) hd4)).trans (Ex.new (o := .tup [.str "machine", .str "letters"]) ht)).trans (Ex.new (o := .tup [.str "machine", .str "letters"]) ht2))
    refine told_ne (Ex.new ht2 _ _ upd_same) upd_same (.str _) smL ⟨_, rfl, iteF1 rfl ?_⟩
    generalize (upd (upd (upd G4 d4 (.xd [(("at" : Str), .str "letters")])) t (.tup [.str "machine", .str "letters"])) t2 (.tup [.str "machine", .str "letters"])) = G5 at F5
    clear ht2 ht hd4 e4 em hp3 hp1 hx hdx F3 F2 hl1 hl2
    -- none
    refine ⟨_, rfl, zero_sz, fun la hla => ⟨zero_sz, fun tb htb => ⟨zero_sz, fun lc hlc => ⟨one_sz, fun ld hld => ⟨ld, 2001, _, rfl, rfl, upd_same, by decide, by decide, by rw [sizeLine_eq]; show 1 * 2001 ≤ _; omega, fun p hp => ⟨by rw [sizeLine_eq]; show 6 ≤ _; omega, fun l hl => ⟨a, b, l, _, rfl, ?_, upd_same, ?_, ?_, by show 1 ≤ 6; omega, by show 6 ≤ 100; omega, fun j2 v2 G6 hv2 e6 hD6 => ?_⟩⟩⟩⟩⟩⟩⟩
    all_goals have q1 := Ex.new (o := .lst ([] : List V)) hla
    all_goals have q2 := q1.trans (Ex.new (o := .tup ([] : List V)) htb)
    all_goals have q3 := q2.trans (Ex.new (o := .lst ([] : List V)) hlc)
    all_goals have q4 := q3.trans (Ex.new (o := .lst [.ref lc]) hld)
    all_goals have q5 := q4.trans (Ex.new (o := .lst (List.replicate (2001 : Int).toNat [V.ref lc]).flatten) hp)
    · exact (F5.d.ex q5).ex (Ex.new hl)
    · exact ((F5.d.ex q5).fresh hl).1.symm
    · exact ((F5.d.ex q5).fresh hl).2.symm
    have q6 := q5.trans (Ex.new (o := .lst [.non, .ref la, .ref tb, .str "ab", .int 7, .ref p]) hl)
    have F6 := (F5.ex q6).exD e6 hD6
    obtain ⟨p2, hp2, hb2⟩ : ∃ d, Dp K (cutH [a, b] G6) v2 d ∧ BadWays d := by
      have := List.mem_of_getElem? hv2
      simp only [List.mem_cons, List.not_mem_nil, or_false] at this
      have xla := cut_new (F5.d) hla (Ex.new hl _ _ (Ex.new hp _ _ (Ex.new hld _ _ (Ex.new hlc _ _ (Ex.new htb _ _ upd_same))))) e6 (fun ps e => by cases e)
      have xtb := cut_new (F5.d.ex q1) htb (Ex.new hl _ _ (Ex.new hp _ _ (Ex.new hld _ _ (Ex.new hlc _ _ upd_same)))) e6 (fun ps e => by cases e)
      have xlc := cut_new (F5.d.ex q2) hlc (Ex.new hl _ _ (Ex.new hp _ _ (Ex.new hld _ _ upd_same))) e6 (fun ps e => by cases e)
      have xp := cut_new (F5.d.ex q4) hp (Ex.new hl _ _ upd_same) e6 (fun ps e => by cases e)
      rcases this with rfl | rfl | rfl | rfl | rfl | rfl
      · exact ⟨.none, .non, fun rows e => by cases e⟩
      · exact ⟨.list [], .lst (SqL.of xla) .nil, fun rows e => by cases e; exact ⟨.inl rfl, Nat.zero_le _⟩⟩
      · exact ⟨.tuple [], .tup (SqT.of xtb) .nil, fun rows e => by cases e; exact ⟨.inl rfl, Nat.zero_le _⟩⟩
      · exact ⟨.str "ab", .str _, fun rows e => by cases e⟩
      · exact ⟨.int 7, .int _, fun rows e => by cases e⟩
      · rw [rep_flat] at xp
        refine ⟨.list (List.replicate 2001 (.list [])), .lst (SqL.of xp) (dp_rep (.lst (SqL.of xlc) .nil) 2001), fun rows e => ?_⟩
        injection e with e
        rw [← e, List.length_replicate]
        omega
    clear hv2 e6 hl q5 q6 hp hld hlc htb hla q1 q2 q3 q4
    refine ⟨F6.t, fun G7 eN7 t7 => ?_⟩
    have F7 := F6.exN eN7 t7
    have hp7 := dp_ex (cm (exR_N eN7)) hp2
    refine ⟨_, rfl, _, rfl, 1, rfl, rfl, rfl, fun x dx hx hdx ne => ?_⟩
    have em : Ex G7 (upd (upd G7 dx (.own x)) x (.ins C dx [])) := (Ex.new hdx).trans (Ex.new (by rw [upd_ne ne.symm]; exact hx))
    refine ⟨x, dx, .str z, v2, .int (-1), .str z, p2, .int (-1), rfl, upd_same, .str _, dp_ex em (dp_ex cut_ex hp7), .int _, .inr ⟨z, rfl, subw_self hz6, .inl ⟨hb2, fun G8 d8 e8 hd8 => ⟨d8, "machine", .str "ways", rfl, .inl ⟨rfl, rfl, upd_same⟩, fun t ht => ⟨two_sz, fun t2 ht2 => ?_⟩⟩⟩⟩⟩
    have F9 := F7.ex ((((em.trans e8).trans (Ex.new (o := .xd [(("at" : Str), .str "ways")]) hd8)).trans (Ex.new (o := .tup [.str "machine", .str "ways"]) ht)).trans (Ex.new (o := .tup [.str "machine", .str "ways"]) ht2))
    refine told_ne (Ex.new ht2 _ _ upd_same) upd_same (.str _) smW ⟨_, rfl, iteF1 rfl ?_⟩
    generalize (upd (upd (upd G8 d8 (.xd [(("at" : Str), .str "ways")])) t (.tup [.str "machine", .str "ways"])) t2 (.tup [.str "machine", .str "ways"])) = G9 at F9
    clear ht2 ht hd8 e8 em hp7 hp2 hx hdx F7 F6 F5
    -- at
    refine ⟨_, rfl, _, rfl, wa, _, rfl, .inl (rdG F9.s).1, a, b, _, rfl, F9.d, by omega, by omega, fun at0 G10 hat e10 hD10 => ?_⟩
    have F10 := F9.exD e10 hD10
    have hat : at0 < ws.length := by omega
    -- things
    refine ⟨one_sz, fun l5 hl5 => ⟨_, rfl, z, rfl, lzs, _, _, rfl, rfl, l5, _, _, rfl, rfl, upd_same, by omega, by omega, ?_, fun p5 hp5 => ⟨_, rfl, z, rfl, lzs, "a", z.length, rfl, rfl, (by show 1 ≤ 10000; omega), ?_, ?_⟩⟩⟩
    · rw [sizeLine_eq]
      show 1 * (z.length + 1) ≤ _
      omega
    · omega
    refine ⟨four_sz, fun l6 hl6 => ?_⟩
    have r1 := Ex.new (o := .lst [V.non]) hl5
    have r2 := r1.trans (Ex.new (o := .lst (List.replicate ((z.length : Int) + 1).toNat [V.non]).flatten) hp5)
    have FM := F10.ex r2
    have F11 := FM.ex (Ex.new (o := .lst [.non, .ref p5, .str (repS "a" z.length), .int 0]) hl6)
    obtain ⟨na6, nb6⟩ := FM.d.fresh hl6
    have na6 := na6.symm
    have nb6 := nb6.symm
    have th11 : ThOk K a b l6 z.cps.size ws.length [.non, .ref p5, .str (repS "a" z.length), .int 0] (upd (upd (upd G10 l5 (.lst [V.non])) p5 (.lst (List.replicate ((z.length : Int) + 1).toNat [V.non]).flatten)) l6 (.lst [.non, .ref p5, .str (repS "a" z.length), .int 0])) := by
      refine ⟨upd_same, fun v hv => ?_⟩
      simp only [List.mem_cons, List.not_mem_nil, or_false] at hv
      rcases hv with rfl | rfl | rfl | rfl
      · exact ⟨.none, .non, rfl, fun xs e => by cases e⟩
      · have e5 : (List.replicate ((z.length : Int) + 1).toNat [V.non]).flatten = List.replicate (z.length + 1) V.non := rep_flat (z.length + 1)
        refine ⟨.list (List.replicate (z.length + 1) .none), .lst (SqL.of (xs := List.replicate (z.length + 1) V.non) (cut_get (Ex.new hl6 _ _ (by rw [upd_same, e5])) ?_ (fun ps e => by cases e))) (dp_rep .non _), badR_list (by rw [List.length_replicate]; omega) (.inl ?_)⟩
        · obtain ⟨m1, m2⟩ := (F10.d.ex r1).fresh hp5
          have m3 : p5 ≠ l6 := ne_of_none upd_same hl6
          simp [m1.symm, m2.symm, m3]
        · rw [List.length_replicate]
          show z.cps.size + 1 ≠ _
          omega
      · exact ⟨.str _, .str _, rfl, fun xs e => by cases e⟩
      · exact ⟨.int 0, .int _, rfl, fun xs e => by cases e⟩
    generalize (upd (upd G10 l5 (.lst [V.non])) p5 (.lst (List.replicate ((z.length : Int) + 1).toNat [V.non]).flatten)) = GM at FM F11 th11 hl6
    have eM : ExR a b GM (upd GM l6 (.lst [.non, .ref p5, .str (repS "a" z.length), .int 0])) := exR_of (Ex.new hl6)
    generalize upd GM l6 (.lst [.non, .ref p5, .str (repS "a" z.length), .int 0]) = G11 at F11 th11 eM
    clear r1 r2 hp5 hl5
    -- one more thing for each step that is none
    refine ⟨fun σ G => FSt a b S TT H G ∧ ∃ (ts : List V) (v3 v4 v7 v8 : Option V), σ = [some (.ref a), some (.str z), some (.ref wa), v3, v4, some (.int (at0 : Int)), some (.ref l6), v7, v8, none, none, none] ∧ ThOk K a b l6 z.cps.size ws.length ts G ∧ 1 ≤ ts.length ∧ ts.length ≤ 100, ?_, ?_⟩
    · refine ⟨_, rfl, rfl, _, rfl, ?_⟩
      by_cases qz : z = ""
      · exact iteF1 (by rw [decide_eq_true (congrArg V.str qz)]; rfl) ⟨F11, _, _, _, _, _, rfl, th11, by show 1 ≤ 4; omega, by show 4 ≤ 100; omega⟩
      refine iteT1 (by rw [decide_eq_false (fun e => qz (by injection e))]; rfl) ?_
      have z1 := z_pos qz
      have z1l : 1 ≤ z.length := z1
      refine ⟨_, rfl, _, rfl, z, rfl, lzs, a, b, _, rfl, F11.d, by omega, by omega, fun spot G12 hspot e12 hD12 => ?_⟩
      have F12 := F11.exD e12 hD12
      have th12 := th11.R (exR_D e12) na6 nb6
      have eM12 := eM.trans (exR_D e12)
      have hspot : spot < z.cps.size := by
        have : (spot : Int) < (z.length : Int) := hspot
        show spot < z.length
        omega
      refine ⟨_, rfl, wa, _, rfl, .inl (rdG F12.s).1, 1, rfl, four_sz, fun lt hlt => ⟨lt, rfl, ⟨_, SqL.of upd_same⟩, ?_⟩⟩
      rw [lxw]
      have F13 := F12.ex (Ex.new (o := .lst [.int ((ws.length : Nat) : Int), .int (-1), .bl true, .str "0"]) hlt)
      have th13 := th12.R (exR_of (Ex.new (o := .lst [.int ((ws.length : Nat) : Int), .int (-1), .bl true, .str "0"]) hlt)) na6 nb6
      have eM13 := eM12.trans (exR_of (a := a) (b := b) (Ex.new (o := .lst [.int ((ws.length : Nat) : Int), .int (-1), .bl true, .str "0"]) hlt))
      have ht13 : (upd G12 lt (.lst [.int ((ws.length : Nat) : Int), .int (-1), .bl true, .str "0"])) lt = some (.lst [.int ((ws.length : Nat) : Int), .int (-1), .bl true, .str "0"]) := upd_same
      have nlt : lt ≠ l6 := fun e => by
        rw [e, th12.1] at hlt
        cases hlt
      have hxs4 : ∀ {i : Nat} {v : V}, ([V.int ((ws.length : Nat) : Int), .int (-1), .bl true, .str "0"] : List V)[i]? = some v → ∃ d, (∀ G : Hp, Dp K G v d) ∧ stepOkD ws.length d = false := fun {i v} h => by
        have := List.mem_of_getElem? h
        simp only [List.mem_cons, List.not_mem_nil, or_false] at this
        rcases this with rfl | rfl | rfl | rfl
        · refine ⟨.int (ws.length : Int), fun _ => .int _, ?_⟩
          show (decide ((0 : Int) ≤ (ws.length : Int)) && decide ((ws.length : Int) < (ws.length : Int))) = false
          rw [decide_eq_false (Int.lt_irrefl _), Bool.and_false]
        · exact ⟨.int (-1), fun _ => .int _, rfl⟩
        · exact ⟨.bool true, fun _ => .bl _, rfl⟩
        · exact ⟨.str "0", fun _ => .str _, rfl⟩
      generalize hx4 : ([V.int ((ws.length : Nat) : Int), .int (-1), .bl true, .str "0"] : List V) = xs4 at F13 th13 eM13 ht13 hxs4
      have l4 : xs4.length = 4 := by rw [← hx4]; rfl
      generalize upd G12 lt (.lst xs4) = G13 at F13 th13 eM13 ht13
      refine for_it (walk_list (K := K) (a := lt) (xs := xs4)) (fun i σ G => FSt a b S TT H G ∧ ExR a b GM G ∧ G lt = some (.lst xs4) ∧ ∃ (ts : List V) (v3 v4 v8 : Option V), σ = [some (.ref a), some (.str z), some (.ref wa), v3, v4, some (.int (at0 : Int)), some (.ref l6), some (.int (spot : Int)), v8, none, none, none] ∧ ThOk K a b l6 z.cps.size ws.length ts G ∧ ts.length = 4 + i) ⟨F13, eM13, ht13, _, _, _, _, rfl, th13, rfl⟩ (fun i σ G _ h => SqL.of h.2.2.1) ?_ ?_
      rotate_left
      · rintro σ G ⟨I, _, _, ts, v3, v4, v8, rfl, th, hl⟩
        exact ⟨I, ts, _, _, _, _, rfl, th, by omega, by omega⟩
      rintro i v σ G0 G hi ⟨I, eMG, hlt, ts, v3, v4, v8, rfl, th, htl⟩ ⟨rfl, hv⟩
      obtain ⟨dv, hdv, hbv⟩ := hxs4 hv
      obtain ⟨xq, xr⟩ := rdG I.s
      obtain ⟨ra, hra, hrs⟩ := xr at0 hat
      have rl : (ws.getD at0 []).length = z.cps.size := row_len hok hat
      have rlm : ((ws.getD at0 []).map oW).length = z.cps.size := by rw [List.length_map]; exact rl
      refine ⟨_, rfl, .inl ⟨rfl, _, SqL.of th.1⟩, _, rfl, _, rfl, wa, _, _, _, rfl, rfl, xq, atI_nat hra, _, rfl, _, rfl, ra, _, rfl, hrs, fun s1 hs1 => ⟨_, rfl, one_sz, fun s2 hs2 => ⟨s1, s2, _, _, rfl, rfl, Ex.new hs2 _ _ upd_same, upd_same, ?_, fun s3 hs3 => ?_⟩⟩⟩
      · rw [sizeLine_eq]
        have := cutV_length ((ws.getD at0 []).map oW) none (some (spot : Int))
        show _ + 1 ≤ _
        omega
      have w1 := Ex.new (o := .lst (cutV ((ws.getD at0 []).map oW) none (some (spot : Int)))) hs1
      have w2 := w1.trans (Ex.new (o := .lst [v]) hs2)
      have w3 := w2.trans (Ex.new (o := .lst (cutV ((ws.getD at0 []).map oW) none (some (spot : Int)) ++ [v])) hs3)
      refine ⟨_, rfl, _, rfl, wa, _, _, _, rfl, rfl, ex_l w3 xq, atI_nat hra, _, rfl, _, _, rfl, rfl, _, rfl, ra, _, rfl, ex_l w3 hrs, fun s4 hs4 => ?_⟩
      refine ⟨s3, s4, _, _, rfl, rfl, Ex.new hs4 _ _ upd_same, upd_same, ?_, fun s5 hs5 => ?_⟩
      · rw [sizeLine_eq]
        have q1 := cutV_length ((ws.getD at0 []).map oW) none (some (spot : Int))
        have q2 := cutV_length ((ws.getD at0 []).map oW) (some ((spot : Int) + 1)) none
        rw [List.length_append]
        show _ + 1 + _ ≤ _
        omega
      have w4 := w3.trans (Ex.new (o := .lst (cutV ((ws.getD at0 []).map oW) (some ((spot : Int) + 1)) none)) hs4)
      have w5 := w4.trans (Ex.new (o := .lst (cutV ((ws.getD at0 []).map oW) none (some (spot : Int)) ++ [v] ++ cutV ((ws.getD at0 []).map oW) (some ((spot : Int) + 1)) none)) hs5)
      obtain ⟨m1, m2⟩ := (I.d.ex w4).fresh hs5
      have m3 : s5 ≠ l6 := (ne_of_none (w4 _ _ th.1) hs5).symm
      have e1 : cutV ((ws.getD at0 []).map oW) none (some (spot : Int)) = ((ws.getD at0 []).take spot).map oW := by
        rw [cut_take (by omega), List.map_take]
      have e2 : cutV ((ws.getD at0 []).map oW) (some ((spot : Int) + 1)) none = ((ws.getD at0 []).drop (spot + 1)).map oW := by
        rw [List.map_drop]
        exact cut_drop (k := spot + 1) (by omega)
      rw [e1, e2] at w5
      rw [e1] at w4
      rw [e2] at w4
      rw [e1, e2]
      have I5 := I.ex w5
      have th5 := th.R (exR_of w5) na6 nb6
      have eM5 := eMG.trans (exR_of w5)
      refine ⟨l6, ts, .ref s5, rfl, rfl, th5.1, by rw [htl, sizeLine_eq]; omega, ?_⟩
      have hb5 : BadR z.cps.size ws.length (.list (((ws.getD at0 []).take spot).map oN ++ [dv] ++ ((ws.getD at0 []).drop (spot + 1)).map oN)) := by
        refine badR_list ?_ (.inr ⟨dv, by simp, hbv⟩)
        rw [List.length_append, List.length_append, List.length_map, List.length_map, List.length_take, List.length_drop]
        show _ + 1 + _ ≤ _
        omega
      have th6 := th5.put (v := .ref s5) (.lst (SqL.of (cut_get upd_same (by simp [m1.symm, m2.symm, m3]) (fun ps e => by cases e))) (dpAll_app (dpAll_app (dpAll_oN _) (dpAll_one (hdv _))) (dpAll_oN _))) hb5
      obtain ⟨I6, eM6⟩ := FM.mut (o := .lst (ts ++ [.ref s5])) I5 eM5 hl6 th5.1 na6 nb6
      exact ⟨I6, eM6, by rw [upd_ne nlt]; exact w5 _ _ hlt, _, _, _, _, rfl, th6, by rw [List.length_append, htl]; rfl⟩
    rintro _ G ⟨F, ts, v3, v4, v7, v8, rfl, th, lt1, lt2⟩
    -- bent
    have xq := (rdG F.s).1
    refine ⟨_, rfl, _, rfl, _, rfl, wa, _, rfl, xq, fun s1 hs1 => ⟨_, rfl, _, rfl, a, b, l6, ts, rfl, F.d.ex (Ex.new hs1), Ex.new hs1 _ _ th.1, na6, nb6, lt1, lt2, fun j v G2 hv e2 hD2 => ⟨one_sz, fun s2 hs2 => ⟨s1, s2, cutV xw none (some (at0 : Int)), [v], rfl, rfl, ?_, upd_same, ?_, fun s3 hs3 => ?_⟩⟩⟩⟩
    · obtain ⟨m1, m2⟩ := F.d.fresh hs1
      exact Ex.new hs2 _ _ (e2 _ _ upd_same m1.symm m2.symm)
    · rw [sizeLine_eq]
      have q1 := cutV_length xw none (some (at0 : Int))
      show _ + 1 ≤ _
      omega
    have F2 := (F.ex (Ex.new (o := .lst (cutV xw none (some (at0 : Int)))) hs1)).exD e2 hD2
    obtain ⟨d, hd, hbad⟩ := (th.R (exR_of (Ex.new (o := .lst (cutV xw none (some (at0 : Int)))) hs1)) na6 nb6).2 v (List.mem_of_getElem? hv)
    have hd2 : Dp K (cutH [a, b] G2) v d := dp_ex (cm (exR_D e2)) (dp_ex (cut_sub (by simp)) hd)
    have w3 := (Ex.new (o := .lst [v]) hs2).trans (Ex.new (o := .lst (cutV xw none (some (at0 : Int)) ++ [v])) hs3)
    refine ⟨_, rfl, _, rfl, _, _, rfl, rfl, _, rfl, wa, _, rfl, (rdG (F2.ex w3).s).1, fun s4 hs4 => ⟨s3, s4, _, _, rfl, rfl, Ex.new hs4 _ _ upd_same, upd_same, ?_, fun s5 hs5 => ?_⟩⟩
    · rw [sizeLine_eq]
      have q1 := cutV_length xw none (some (at0 : Int))
      have q2 := cutV_length xw (some ((at0 : Int) + 1)) none
      rw [List.length_append]
      show _ + 1 + _ ≤ _
      omega
    have w4 := w3.trans (Ex.new (o := .lst (cutV xw (some ((at0 : Int) + 1)) none)) hs4)
    have w5 := w4.trans (Ex.new (o := .lst (cutV xw none (some (at0 : Int)) ++ [v] ++ cutV xw (some ((at0 : Int) + 1)) none)) hs5)
    have c1 : cutV xw none (some (at0 : Int)) = xw.take at0 := cut_take (by omega)
    have c2 : cutV xw (some ((at0 : Int) + 1)) none = xw.drop (at0 + 1) := cut_drop (k := at0 + 1) (by omega)
    obtain ⟨m1, m2⟩ := (F2.d.ex w4).fresh hs5
    have F5 := F2.ex w5
    rw [c1, c2] at F5 w5
    rw [c1] at w4
    rw [c2] at w4
    rw [c1, c2]
    have eb : (ws.map rowN).take at0 ++ [d] ++ (ws.map rowN).drop (at0 + 1) = (ws.map rowN).set at0 d := by
      rw [List.set_eq_take_append_cons_drop, if_pos (by rw [List.length_map]; exact hat)]
      simp
    have hbt : Dp K (cutH [a, b] (upd (upd (upd (upd G2 s2 (.lst [v])) s3 (.lst (xw.take at0 ++ [v]))) s4 (.lst (xw.drop (at0 + 1)))) s5 (.lst (xw.take at0 ++ [v] ++ xw.drop (at0 + 1))))) (.ref s5) (.list ((ws.map rowN).set at0 d)) := by
      refine .lst (SqL.of (cut_get upd_same (by simp [m1.symm, m2.symm]) (fun ps e => by cases e))) ?_
      rw [← eb]
      refine dpAll_app (dpAll_app (dpAll_ex F5.s.cut (dpAll_take _ hdw)) (dpAll_one (dp_ex (cm (exR_of w5)) hd2))) (dpAll_ex F5.s.cut (dpAll_drop _ hdw))
    generalize (upd (upd (upd (upd G2 s2 (.lst [v])) s3 (.lst (xw.take at0 ++ [v]))) s4 (.lst (xw.drop (at0 + 1)))) s5 (.lst (xw.take at0 ++ [v] ++ xw.drop (at0 + 1)))) = G5 at F5 hbt
    clear w5 w4 w3 hs5 hs4 hs3 hs2 hs1 e2 hd hd2 F2 hv m1 m2
    have lb : ((ws.map rowN).set at0 d).length = ws.length := by rw [List.length_set, List.length_map]
    have gb : ((ws.map rowN).set at0 d)[at0]? = some d := List.getElem?_set_self (by rw [List.length_map]; exact hat)
    have bef : ∀ (j : Nat) (r : PyData), j < at0 → ((ws.map rowN).set at0 d)[j]? = some r → rowOkD z.cps.size ((ws.map rowN).set at0 d).length r = true := fun j r hj hr => by
      rw [List.getElem?_set_ne (by omega), List.getElem?_map] at hr
      have hjl : j < ws.length := by omega
      rw [List.getElem?_eq_getElem hjl] at hr
      cases hr
      rw [lb]
      exact rowOk_seq (r := ws[j]) rfl (hok.len _ (List.getElem_mem hjl)) (hok.lt _ (List.getElem_mem hjl))
    have bd : rowOkD z.cps.size ((ws.map rowN).set at0 d).length d = false := by rw [lb]; exact hbad.1
    have raiseB : ∀ {G : Hp} {Q : VK} {E : XK} {x dx : Addr} {v : V} {df : PyData}, G x = some (.ins C dx []) → Dp K G (.ref s5) (.list ((ws.map rowN).set at0 d)) → Dp K G v df → Raises CM G E (.int (at0 : Int)) → spMI K C CM [.ref x, .str z, .ref s5, v] G Q E := fun {G Q E x dx v df} hx hb hv hr =>
      ⟨x, dx, .str z, .ref s5, v, .str z, .list ((ws.map rowN).set at0 d), df, rfl, hx, .str _, hb, hv, .inr ⟨z, rfl, subw_self hz6, .inr ⟨(ws.map rowN).set at0 d, rfl, by rw [lb]; exact n1, by rw [lb]; omega, .inl ⟨at0, d, gb, bd, hbad.2, bef, hr⟩⟩⟩⟩
    -- Machine(letters, bent, first=None)
    refine ⟨F5.t, fun G7 eN7 t7 => ?_⟩
    have F7 := F5.exN eN7 t7
    have hb7 := dp_ex (cm (exR_N eN7)) hbt
    refine ⟨_, rfl, _, rfl, rfl, rfl, fun x dx hx hdx ne => ?_⟩
    have em : Ex G7 (upd (upd G7 dx (.own x)) x (.ins C dx [])) := (Ex.new hdx).trans (Ex.new (by rw [upd_ne ne.symm]; exact hx))
    refine raiseB (v := .non) upd_same (dp_ex em (dp_ex cut_ex hb7)) .non fun G8 d8 e8 hd8 => ⟨d8, "machine", _, rfl, .inl ⟨rfl, rfl, upd_same⟩, fun t ht => ⟨_, rfl, two_sz, fun t2 ht2 => ?_⟩⟩
    have w9 := (((em.trans e8).trans (Ex.new (o := .xd [(("at" : Str), .int (at0 : Int))]) hd8)).trans (Ex.new (o := .tup [.str "machine", .int (at0 : Int)]) ht)).trans (Ex.new (o := .tup [.str "machine", .int (at0 : Int)]) ht2)
    have F9 := F7.ex w9
    have hb9 := dp_ex (cm (exR_of w9)) hb7
    refine told_ne (Ex.new ht2 _ _ upd_same) upd_same (.int _) (smI _) ⟨_, rfl, iteF1 rfl ?_⟩
    generalize (upd (upd (upd G8 d8 (.xd [(("at" : Str), .int (at0 : Int))])) t (.tup [.str "machine", .int (at0 : Int)])) t2 (.tup [.str "machine", .int (at0 : Int)])) = G9 at F9 hb9
    clear ht2 ht hd8 w9 e8 em hb7 hx hdx F7 F5 hbt
    -- start
    refine ⟨_, rfl, 1, rfl, _, rfl, wa, _, rfl, .inl (rdG F9.s).1, by rw [sizeLine_eq]; show 5 ≤ _; omega, fun l9 hl9 => ⟨a, b, l9, _, rfl, F9.d.ex (Ex.new hl9), upd_same, (F9.d.fresh hl9).1.symm, (F9.d.fresh hl9).2.symm, by show 1 ≤ 5; omega, by show 5 ≤ 100; omega, fun j9 v9 G10 hv9 e10 hD10 => ?_⟩⟩
    have w10 := Ex.new (o := .lst [.non, .int (-1), .bl true, .int ((xw.length : Nat) : Int), .str "0"]) hl9
    have F10 := (F9.ex w10).exD e10 hD10
    have hb10 := dp_ex (cm (exR_D e10)) (dp_ex (cm (exR_of w10)) hb9)
    obtain ⟨ds, hds, hbs⟩ : ∃ d, (∀ G : Hp, Dp K G v9 d) ∧ belowD d (ws.length : Int) = false := by
      have := List.mem_of_getElem? hv9
      rw [lxw] at this
      simp only [List.mem_cons, List.not_mem_nil, or_false] at this
      rcases this with rfl | rfl | rfl | rfl | rfl
      · exact ⟨.none, fun _ => .non, rfl⟩
      · exact ⟨.int (-1), fun _ => .int _, rfl⟩
      · exact ⟨.bool true, fun _ => .bl _, rfl⟩
      · refine ⟨.int (ws.length : Int), fun _ => .int _, ?_⟩
        show (decide ((0 : Int) ≤ (ws.length : Int)) && decide ((ws.length : Int) < (ws.length : Int))) = false
        rw [decide_eq_false (Int.lt_irrefl _), Bool.and_false]
      · exact ⟨.str "0", fun _ => .str _, rfl⟩
    clear hv9 e10 w10 hb9 F9 hl9
    refine ⟨F10.t, fun G11 eN11 t11 => ?_⟩
    have F11' := F10.exN eN11 t11
    have hb11 := dp_ex (cm (exR_N eN11)) hb10
    refine ⟨_, rfl, _, rfl, _, rfl, rfl, rfl, fun x dx hx hdx ne => ?_⟩
    have em : Ex G11 (upd (upd G11 dx (.own x)) x (.ins C dx [])) := (Ex.new hdx).trans (Ex.new (by rw [upd_ne ne.symm]; exact hx))
    refine ⟨x, dx, .str z, .ref wa, v9, .str z, waysN ws, ds, rfl, upd_same, .str _, dp_ex em (dp_ex F11'.s.ex hwa), hds _, .inr ⟨z, rfl, subw_self hz6, .inr ⟨ws.map rowN, rfl, by rw [List.length_map]; exact n1, by rw [List.length_map]; omega, .inr ⟨fun r hr => ?_, .inl ⟨by rw [List.length_map]; exact hbs, fun G12 d12 e12 hd12 => ⟨d12, "machine", .str "first", rfl, .inl ⟨rfl, rfl, upd_same⟩, fun t ht => ⟨two_sz, fun t2 ht2 => ?_⟩⟩⟩⟩⟩⟩⟩
    · obtain ⟨r0, hr0, rfl⟩ := List.mem_map.mp hr
      rw [List.length_map]
      exact rowOk_seq (r := r0) rfl (hok.len r0 hr0) (hok.lt r0 hr0)
    have w13 := (((em.trans e12).trans (Ex.new (o := .xd [(("at" : Str), .str "first")]) hd12)).trans (Ex.new (o := .tup [.str "machine", .str "first"]) ht)).trans (Ex.new (o := .tup [.str "machine", .str "first"]) ht2)
    have F13 := F11'.ex w13
    have hb13 := dp_ex (cm (exR_of w13)) hb11
    refine told_ne (Ex.new ht2 _ _ upd_same) upd_same (.str _) smF ⟨_, rfl, iteF1 rfl ?_⟩
    generalize (upd (upd (upd G12 d12 (.xd [(("at" : Str), .str "first")])) t (.tup [.str "machine", .str "first"])) t2 (.tup [.str "machine", .str "first"])) = G13 at F13 hb13
    clear ht2 ht hd12 w13 e12 em hb11 hx hdx F11' F10 hb10
    -- try
    refine ⟨_, rfl, _, rfl, fun x dx hx hdx ne => ?_⟩
    have em : Ex G13 (upd (upd G13 dx (.own x)) x (.ins C dx [])) := (Ex.new hdx).trans (Ex.new (by rw [upd_ne ne.symm]; exact hx))
    refine raiseB (v := .int 0) upd_same (dp_ex em (dp_ex cut_ex hb13)) (.int _) fun G14 d14 e14 hd14 σ hσ => ⟨true, BT.te, fun _ ea hea => ?_, fun q => Bool.noConfusion q⟩
    have gs : (σ.set 11 (some (V.ref ea)))[11]? = some (some (V.ref ea)) := List.getElem?_set_self (by omega)
    have w14 := (em.trans e14).trans (Ex.new (o := .xd [(("at" : Str), .int (at0 : Int))]) hd14)
    refine ⟨_, gs, CM, .ref CM, true, rfl, ⟨rfl, BT.ex, d14, _, rfl, upd_same⟩, ⟨true, rfl, iteT1 rfl ⟨_, gs, two_sz, fun tp htp => ⟨CM, .ref tp, false, rfl, ⟨rfl, BT.ex, d14, _, rfl, Ex.new htp _ _ upd_same⟩, ⟨false, rfl, ?_⟩, .inr ⟨tp, _, _, rfl, upd_same, .cons (.own _) (.cons (.own _) .nil), BT.kN⟩⟩⟩⟩, .inl ⟨_, .own CM, BT.kM⟩⟩
    have F15 := (F13.ex w14).ex (Ex.new (o := .tup [.ref CF, .ref CB]) htp)
    exact k _ F15.r F15.d F15.t
end
end My
set_option Elab.async false
set_option linter.all false
set_option autoImplicit false
set_option maxRecDepth 100000
set_option maxHeartbeats 4000000
namespace My
open PySem PySem.Spec PyProof.Rows L2 Evl
open PySem.OneX (OneTxt Tail tail_ex exTail)
open PySem.OneXL (keyTail tail_key line_key)
open LamX (TabB TabS Tabs ExtN CodeO pe_lamcall lamS_by)
/-- a function that must not be guarded -/
structure OwnF (P : Program) (w : World) (K : PySem.W.Frag) (mg : Str → Option Value) (base : Heap) (x : Str) (k : Nat) (ps : List Str) (sp : Sp) where
  f : Addr
  fd : FuncData
  G : FnG P w K mg base CX0 k f fd ps sp
  m : mg x = some (.ref f)
  kp : PySem.W.keepIn K (.ref f) = true
  b : Binds K fd ps []
section
variable {P : Program} {w : World} {K : PySem.W.Frag} {mg : Str → Option Value} {base : Heap}
theorem sqL_cut {xs : List Addr} {H : Hp} {a : Addr} {vs : List V} (n : ∀ c o, H c = some o → c ∉ xs) (h : SqL K H a vs) : SqL K (cutH xs H) a vs := by
  rcases h with (h | ⟨o, h⟩) | h
  · exact .inl (.inl (cut_get h (n _ _ h) fun ps e => by cases e))
  · exact .inl (.inr ⟨o, cut_get h (n _ _ h) fun ps e => by cases e⟩)
  · exact .inr h
theorem sqT_cut {xs : List Addr} {H : Hp} {a : Addr} {vs : List V} (n : ∀ c o, H c = some o → c ∉ xs) (h : SqT K H a vs) : SqT K (cutH xs H) a vs := by
  rcases h with (h | ⟨o, h⟩) | h
  · exact .inl (.inl (cut_get h (n _ _ h) fun ps e => by cases e))
  · exact .inl (.inr ⟨o, cut_get h (n _ _ h) fun ps e => by cases e⟩)
  · exact .inr h
mutual
theorem dp_cut {xs : List Addr} {H : Hp} (n : ∀ c o, H c = some o → c ∉ xs) : ∀ {v : V} {d : PyData}, Dp K H v d → Dp K (cutH xs H) v d
  | _, _, .non => .non
  | _, _, .bl b => .bl b
  | _, _, .int i => .int i
  | _, _, .str x => .str x
  | _, _, .lst h t => .lst (sqL_cut n h) (dpAll_cut n t)
  | _, _, .tup h t => .tup (sqT_cut n h) (dpAll_cut n t)
theorem dpAll_cut {xs : List Addr} {H : Hp} (n : ∀ c o, H c = some o → c ∉ xs) : ∀ {vs : List V} {ds : List PyData}, DpAll K H vs ds → DpAll K (cutH xs H) vs ds
  | _, _, .nil => .nil
  | _, _, .cons h t => .cons (dp_cut n h) (dpAll_cut n t)
end
def spLaw (K : PySem.W.Frag) (ps : List (Addr × Addr)) : Sp := fun vs H Q _ => ∃ (a : Addr) (ns : List Int), vs = [.ref a] ∧ SqL K H a (ns.map V.int) ∧ ns.length ≤ 63 ∧ (∀ p ∈ ps, H p.2 = some (.tbl #[])) ∧ ∀ H', Q (.bl true) H'
abbrev nLaw : List Str := ["script", "deal", "turn", "letters", "states", "ways"]
theorem scLaw : FnScope nLaw ["script"] (defScope sLaw) := ⟨rfl, rfl, rfl, by decide +kernel, rfl, by decide +kernel, by decide +kernel⟩
theorem ok_law {f C CM : Addr} {fd : FuncData} {TT : List (Addr × Str)} {ps : List (Addr × Addr)} (Fn : Fun K "law" "law" sLaw f fd) (T : Txt K mg) (hTT : ∀ p ∈ TT, ∃ r ∈ ps, r.2 = p.1) (Md : Made P w K mg base C CM) (Ln : OwnG P w K mg base C "__len__" 1 ["self"] (spLen K C))
    (Od : Own P w K mg base "_law_dealt" 1 ["script", "base"] (spDealt K)) (Oa : Own P w K mg base "_law_any" 1 ["deal", "bound"] spAny) (Ol : Own P w K mg base "_law_letters" 2 ["deal"] spLetters) (Ow : Own P w K mg base "_law_ways" 2 ["deal", "states", "letters"] (spWays K))
    (Ok : OwnF P w K mg base "_law_is_kept" 6 ["letters", "ways", "first"] (spKept K)) (Oi : OwnF P w K mg base "_law_is_walked" 10 ["deal", "letters", "ways", "first"] (spIsW K TT)) (Os : Own P w K mg base "_law_strangers" 10 ["deal", "letters", "ways"] (spStr K TT)) (Of : Own P w K mg base "_law_faults" 10 ["deal", "letters", "ways"] (spFau K TT)) :
    FnG P w K mg base CX0 11 f fd ["script"] (spLaw K ps) := by
  obtain ⟨ds0, hv0, hb0⟩ := mi_binds0 Md.FI
  refine okG Fn scLaw (fun vs H Q E h => ?_) (fun cdv A outer s H vs Q E gd hr h => ?_)
  · obtain ⟨a, ns, rfl, _⟩ := h
    rfl
  · obtain ⟨sc, ns, rfl, hS, hlen, hpt, k⟩ := h
    have hu := hu64 hr
    refine ⟨_, (pss_cons (ps_set (i := 1) scLaw.nd rfl (by first | exact Or.inl rfl | exact Or.inr rfl) (pe_call Od.G (hr.mono (by decide)) rfl Od.m Od.kp Od.b .nil pass0 (pa_cons (pv 0) (pa_cons pe_int pa_nil))))
  (pss_cons (ps_for PassesOwn.never rfl (pi_range1 (by rfl) T.b_range (pa_cons pe_int pa_nil)) (pg_name (i := 2) scLaw.nd rfl (by first | exact Or.inl rfl | exact Or.inr rfl)) (pss_cons (ps_par (i := 3) (j := 4) (by rfl) scLaw.nd rfl rfl (by decide) rfl rfl (pa_cons (pe_call Ol.G (hr.mono (by decide)) rfl Ol.m Ol.kp Ol.b .nil pass0 (pa_cons (pv 1) pa_nil)) (pa_cons (pe_op op_add pe_int (pe_call Oa.G (hr.mono (by decide)) rfl Oa.m Oa.kp Oa.b .nil pass0 (pa_cons (pv 1) (pa_cons pe_int pa_nil)))) pa_nil)) (by rfl))
  (pss_cons (ps_set (i := 5) scLaw.nd rfl (by first | exact Or.inl rfl | exact Or.inr rfl) (pe_call Ow.G (hr.mono (by decide)) rfl Ow.m Ow.kp Ow.b .nil pass0 (pa_cons (pv 1) (pa_cons (pv 4) (pa_cons (pv 3) pa_nil)))))
  (pss_cons (ps_if (pt_not (pt_val (pe_callG1 Ok.G gd (hr.mono (by decide)) rfl Ok.m Ok.kp Ok.b .nil pass0 (pa_cons (pv 3) (pa_cons (pv 5) (pa_cons (pe_call Oa.G (hr.mono (by decide)) rfl Oa.m Oa.kp Oa.b .nil pass0 (pa_cons (pv 1) (pa_cons (pv 4) pa_nil))) pa_nil)))))) (pss_one (ps_ret pe_bl)) pss_nil)
  (pss_cons (ps_if (pt_not (pt_val (pe_callG1 Oi.G gd (hr.mono (by decide)) rfl Oi.m Oi.kp Oi.b .nil pass0 (pa_cons (pv 1) (pa_cons (pv 3) (pa_cons (pv 5) (pa_cons (pe_call Oa.G (hr.mono (by decide)) rfl Oa.m Oa.kp Oa.b .nil pass0 (pa_cons (pv 1) (pa_cons (pv 4) pa_nil))) pa_nil))))))) (pss_one (ps_ret pe_bl)) pss_nil)
  (pss_one (ps_if (PW.pt (pw_or (pt_not (pt_val (pe_call Os.G (hr.mono (by decide)) rfl Os.m Os.kp Os.b .nil pass0 (pa_cons (pv 1) (pa_cons (pv 3) (pa_cons (pv 5) pa_nil)))))) (pw_or1 (pt_not (pt_val (pe_call Of.G (hr.mono (by decide)) rfl Of.m Of.kp Of.b .nil pass0 (pa_cons (pv 1) (pa_cons (pv 3) (pa_cons (pv 5) pa_nil))))))))) (pss_one (ps_ret pe_bl)) pss_nil)))))))
  (pss_one (ps_ret (pe_or (pe_cmpR op_gt (pe_call Oa.G (hr.mono (by decide)) rfl Oa.m Oa.kp Oa.b .nil pass0 (pa_cons (pv 1) (pa_cons pe_int pa_nil))) pe_int (nomark _)) (pe_one (pe_cmpR op_eq (pe_callB (cr_lenOwn Ln.G Ln.s Ln.fn Ln.b pass0 (hr.mono (by decide))) (by rfl) T.b_len PySem.boot_len (pa_cons (pe_make Md.M Md.GI (hr.mono (by decide)) rfl Md.gC hb0 hv0 (passes_call L2.takes0 (fun _ _ _ _ h => h)) (pa_cons pe_str (pa_cons (pe_op op_rep (pe_lst (pa_cons (pe_lst pa_nil) pa_nil)) pe_int) pa_nil))) pa_nil)) pe_int (nomark _)))))))), ?_⟩
    -- deal
    refine ⟨_, rfl, sc, ns, 31, rfl, hS, hlen, (by decide), fun a b H1 e1 na nb hD1 => ?_⟩
    have hT1 : Tabs TT H1 := fun p hp => by
      obtain ⟨r, hr1, hr2⟩ := hTT p hp
      rw [← hr2]
      exact TabS.nil (e1 _ _ (hpt r hr1))
    refine ⟨3, rfl, (by decide), (by decide), for_it walk_r0 (fun i σ G => Deal G a b ∧ Tabs TT G ∧ ∃ v2 v3 v4 v5 : Option V, σ = [some (.ref sc), some (.ref a), v2, v3, v4, v5])
      ⟨hD1, hT1, none, none, none, none, rfl⟩ (fun _ _ _ _ _ => trivial) ?_ ?_⟩
    · rintro i x σ G0 G hi ⟨hD, hT, v2, v3, v4, v5, rfl⟩ ⟨rfl, rfl⟩
      refine ⟨_, rfl, a, b, rfl, hD, fun z G2 hz6 e2 hD2 => ⟨_, rfl, a, b, 7, rfl, hD2, by decide, by decide, fun d G3 hd e3 hD3 => ?_⟩⟩
      have hT3 := tabs_exD (tabs_exD hT hD e2) hD2 e3
      have hd7 : d < 7 := by omega
      refine ⟨1, (d : Int), rfl, rfl, _, _, rfl, ?_⟩
      refine ⟨_, rfl, _, rfl, _, rfl, a, b, 1 + d, z, rfl, hD3, by omega, by omega, hz6, fun wa ws G4 e4 hD4 hwn hwa0 hok hwl => ?_⟩
      have hT4 := tabs_exD hT3 hD3 e4
      obtain ⟨S, hS4, hwa⟩ : ∃ S, Calm a b S G4 ∧ Dp K S (.ref wa) (waysN ws) := by
        refine ⟨cutH [] (nw G3 G4), ⟨fun c o h => nw_ex _ _ (cut_ex _ _ h), fun c o h => ?_⟩, dp_cut (fun _ _ _ => by simp) hwa0⟩
        obtain ⟨h1, _, h3⟩ := cut_of h
        obtain ⟨⟨_, qa⟩, _, qb⟩ := hD3.lst
        have qn := (nw_get h1).1
        exact ⟨fun w => (by rw [w, qa] at qn; cases qn), fun w => (by rw [w, qb] at qn; cases qn), h3⟩
      have n1 : 1 ≤ ws.length := by omega
      have n7 : ws.length ≤ 7 := by omega
      -- kept
      refine ⟨_, rfl, _, rfl, _, rfl, _, rfl, a, b, _, rfl, hD4, by omega, by omega, fun f5 G5 hf5 e5 hD5 => ?_⟩
      have hS5 := hS4.R (exR_D e5)
      have hT5 := tabs_exD hT4 hD4 e5
      refine ⟨wa, z, ws, f5, rfl, dp_ex hS5.ex hwa, hok, hz6, n1, n7, by omega, fun G6 e6 => ⟨true, rfl, iteF1 rfl ?_⟩⟩
      have hD6 := hD5.ex e6
      have hS6 := hS5.R (exR_of e6)
      have hT6 := hT5.ext e6
      -- walked
      refine ⟨_, rfl, _, rfl, _, rfl, _, rfl, _, rfl, a, b, _, rfl, hD6, by omega, by omega, fun f7 G7 hf7 e7 hD7 => ?_⟩
      have hS7 := hS6.R (exR_D e7)
      have hT7 := tabs_exD hT6 hD6 e7
      refine ⟨a, b, wa, S, z, ws, f7, rfl, hD7, hS7, hwa, hok, hz6, n1, n7, by omega, hT7, fun G8 e8 hD8 hT8 => ⟨true, rfl, iteF1 rfl ?_⟩⟩
      have hS8 := hS7.R e8
      -- strangers, faults
      refine ⟨_, rfl, _, rfl, _, rfl, a, b, wa, S, z, ws, rfl, hD8, hS8, hwa, hok, hz6, n1, n7, hT8, fun G9 e9 hD9 hT9 => ⟨true, rfl, iteF1 rfl ?_⟩⟩
      have hS9 := hS8.R e9
      refine ⟨_, rfl, _, rfl, _, rfl, a, b, wa, S, z, ws, rfl, hD9, hS9, hwa, hok, hz6, n1, n7, hT9, fun G10 e10 hD10 hT10 => ⟨true, rfl, iteF1 rfl ?_⟩⟩
      exact ⟨hD10, hT10, _, _, _, _, rfl⟩
    · rintro σ G ⟨hD, hT, v2, v3, v4, v5, rfl⟩
      refine ⟨_, rfl, a, b, 25, rfl, hD, by decide, by decide, fun d G2 hd e2 hD2 => ⟨_, _, rfl, rfl, _, rfl, ?_⟩⟩
      by_cases q : d = 0
      · refine iteF1 (decide_eq_false (by omega)) ?_
        refine ⟨zero_sz, fun lc hlc => ⟨one_sz, fun ld hld => ⟨ld, 2000, _, rfl, rfl, upd_same, by decide, by decide, by rw [sizeLine_eq]; show 1 * 2000 ≤ _; omega, fun p hp x dx hx hdx ne => ?_⟩⟩⟩
        show spMI K C CM [.ref x, .str "", .ref p, .int ((0 : Nat) : Int)] _ _ _
        have ew : waysN (List.replicate 2000 []) = .list (List.replicate 2000 (.list [])) := by
          show PyData.list (List.map rowN (List.replicate 2000 [])) = _
          rw [List.map_replicate]
          rfl
        have rf : (List.replicate (2000 : Int).toNat [V.ref lc]).flatten = List.replicate 2000 (V.ref lc) := rep_flat 2000
        have ok0 : WaysOk (("" : Str).cps.size) (List.replicate 2000 ([] : List (Option Nat))) := ⟨fun r hr => by rw [(List.mem_replicate.mp hr).2]; rfl, fun r hr s hs => by rw [(List.mem_replicate.mp hr).2] at hs; cases hs⟩
        refine mk_right (z := "") (dw := waysN (List.replicate 2000 [])) hx hdx ne (by decide +kernel) ?_ (.inl rfl) ok0 (by rw [List.length_replicate]; omega) (by rw [List.length_replicate]; omega) (by rw [List.length_replicate]; omega) fun G3 e3 hM3 => ?_
        · rw [ew]
          refine .lst (SqL.of (xs := List.replicate 2000 (V.ref lc)) (by rw [upd_same, rf])) (dp_rep (.lst (SqL.of (xs := []) (Ex.new hp _ _ (Ex.new hld _ _ upd_same))) .nil) 2000)
        · obtain ⟨dx3, wt3, hx3, _⟩ := hM3.ob
          refine ⟨x, dx3, _, rfl, hx3, x, "", _, 0, rfl, hM3, 2000, ?_, by omega, rfl, ?_⟩
          · rw [List.length_replicate]
          · rw [decide_eq_true (show V.int ((2000 : Nat) : Int) = V.int 2000 from rfl)]
            exact k _
      · exact iteT1 (decide_eq_true (by omega)) (k _)
end
end My
set_option Elab.async false
set_option linter.all false
set_option autoImplicit false
set_option maxRecDepth 100000
set_option maxHeartbeats 8000000
namespace My
open PySem PySem.Spec PyProof.Rows L2 Evl
open PySem.OneX (OneTxt Tail tail_ex exTail)
open PySem.OneXL (keyTail tail_key line_key)
open LamX (TabB TabS Tabs ExtN CodeO)
/-- whether an error of the class E is taken by «except S» -/
theorem exm_sub {K : PySem.W.Frag} {E S : Addr} {b : Bool} (h1 : PySem.W.subIn K (.ref S) (.type "BaseException") = some true) (h2 : PySem.W.isClsIn K S = true) (h3 : PySem.W.typeIn K (.ref S) = some (.type "type")) (h4 : PySem.W.subIn K (.ref E) (.ref S) = some b) :
    PySem.W.exmOne K (.ref E) (.ref S) = some b := by
  have h2' : (PySem.W.clsIn K S).isSome = true := h2
  unfold PySem.W.exmOne PySem.W.kitCls
  rw [h1]
  show (if ((PySem.W.clsIn K S).isSome && PySem.W.typeIn K (.ref S) == some (.type "type")) = true then PySem.W.subIn K (.ref E) (.ref S) else none) = some b
  rw [h2', h3, h4]
  rfl
theorem kit_sub {K : PySem.W.Frag} {t : Value} {S : Addr} {b : Bool} (h0 : (t == Value.ref S) = false) (h2 : PySem.W.isClsIn K S = true) (h3 : PySem.W.typeIn K (.ref S) = some (.type "type")) (h4 : PySem.W.subIn K t (.ref S) = some b) :
    PySem.W.kitOne K t (.ref S) = some b := by
  have h2' : (PySem.W.clsIn K S).isSome = true := h2
  unfold PySem.W.kitOne PySem.W.kitCls
  rw [h0]
  show (if ((PySem.W.clsIn K S).isSome && PySem.W.typeIn K (.ref S) == some (.type "type")) = true then PySem.W.subIn K t (.ref S) else none) = some b
  rw [h2', h3, h4]
  rfl
theorem kit_self {K : PySem.W.Frag} {t : Value} (h0 : (t == t) = true) : PySem.W.kitOne K t t = some true := by
  unfold PySem.W.kitOne
  rw [h0]
  rfl
theorem kit_no2 {K : PySem.W.Frag} {t x y : Value} (h1 : PySem.W.kitOne K t x = some false) (h2 : PySem.W.kitOne K t y = some false) : PySem.W.kitAny K t [x, y] = some false := by
  unfold PySem.W.kitAny
  rw [h1]
  dsimp only
  unfold PySem.W.kitAny
  rw [h2]
  rfl
theorem no_first {K : PySem.W.Frag} {t : Value} {C : Addr} (h : PySem.W.subIn K t (.ref C) = some false) : PySem.W.notFirst K C t = true := by
  unfold PySem.W.notFirst
  rw [h]
  show (t == Value.ref C || true) = true
  rw [Bool.or_true]
theorem tab_in {K : PySem.W.Frag} {x : Str} {f c P : Addr} {oc o1 : Value} {od o2 : Option Addr} {osl o3 : Array (Option Value)} {fd : FuncData} {vs : Array Value} (a : PySem.W.nsIn K mainGlobals x = some (some (.ref f))) (l : K.lookup f = some ⟨oc, od, .func fd, osl⟩) (hc : fd.code = .ref c) (lc : K.lookup c = some ⟨o1, o2, .fields vs, o3⟩) (hv : (vs[11]? : Option Value) = some (.ref P)) : PySem.W.tabIn K x = some (c, P) := by
  unfold PySem.W.tabIn
  rw [a]
  dsimp only
  rw [l]
  dsimp only
  rw [hc]
  dsimp only
  rw [lc]
  dsimp only
  rw [hv]
theorem all_mk {l : PySem.W.OpenLaw} {w : World} {K : PySem.W.Frag} {h : Heap} {mg : Str → Option Value} {fa C CM CB CF CL CE DK cL1 pt1 cL2 pt2 cL3 pt3 : Addr} (X : K.In h) (G : h.Ns mainGlobals mg) (hfa : mg "law" = some (.ref fa))
    {fMI fLen fEq fNeedSt fStep fStarted fAfter fReads fBeg fIsInt fIsNum fIsBelow fIsSeq fIsSign fNeedRow fWalked fDealt fAny fOf fLetters fWays fRefused fKept fLWalk fIsWalked fStrange fFaults fLaw fEM fEB fEF fEL : Addr} {odMI anMI odLen anLen odEq anEq odNeedSt anNeedSt odStep anStep odStarted anStarted odAfter anAfter odReads anReads odBeg anBeg odIsInt anIsInt odIsNum anIsNum odIsBelow anIsBelow odIsSeq anIsSeq odIsSign anIsSign odNeedRow anNeedRow odWalked anWalked odDealt anDealt odAny anAny odOf anOf odLetters anLetters odWays anWays odRefused anRefused odKept anKept odLWalk anLWalk odIsWalked anIsWalked odStrange anStrange odFaults anFaults odLaw anLaw odEM anEM odEB anEB odEF anEF odEL anEL odl1 odl2 odl3 : Option Addr} {slMI slLen slEq slNeedSt slStep slStarted slAfter slReads slBeg slIsInt slIsNum slIsBelow slIsSeq slIsSign slNeedRow slWalked slDealt slAny slOf slLetters slWays slRefused slKept slLWalk slIsWalked slStrange slFaults slLaw slEM slEB slEF slEL osl1 osl2 osl3 : Array (Option Value)}
    {ocMI dcMI pmMI ctMI ocLen dcLen pmLen ctLen ocEq dcEq pmEq ctEq ocNeedSt dcNeedSt pmNeedSt ctNeedSt ocStep dcStep pmStep ctStep ocStarted dcStarted pmStarted ctStarted ocAfter dcAfter pmAfter ctAfter ocReads dcReads pmReads ctReads ocBeg dcBeg pmBeg ctBeg ocIsInt dcIsInt pmIsInt ctIsInt ocIsNum dcIsNum pmIsNum ctIsNum ocIsBelow dcIsBelow pmIsBelow ctIsBelow ocIsSeq dcIsSeq pmIsSeq ctIsSeq ocIsSign dcIsSign pmIsSign ctIsSign ocNeedRow dcNeedRow pmNeedRow ctNeedRow ocWalked dcWalked pmWalked ctWalked ocDealt dcDealt pmDealt ctDealt ocAny dcAny pmAny ctAny ocOf dcOf pmOf ctOf ocLetters dcLetters pmLetters ctLetters ocWays dcWays pmWays ctWays ocRefused dcRefused pmRefused ctRefused ocKept dcKept pmKept ctKept ocLWalk dcLWalk pmLWalk ctLWalk ocIsWalked dcIsWalked pmIsWalked ctIsWalked ocStrange dcStrange pmStrange ctStrange ocFaults dcFaults pmFaults ctFaults ocLaw dcLaw pmLaw ctLaw ocEM dcEM pmEM cdEM ctEM ocEB dcEB pmEB cdEB ctEB ocEF dcEF pmEF cdEF ctEF ocEL dcEL pmEL cdEL ctEL ocl1 ocl2 ocl3 GLE GML GMS : Value} {cdMI cdLen cdEq cdNeedSt cdStep cdStarted cdAfter cdReads cdBeg cdIsInt cdIsNum cdIsBelow cdIsSeq cdIsSign cdNeedRow cdWalked cdDealt cdAny cdOf cdLetters cdWays cdRefused cdKept cdLWalk cdLaw kVLen kVEq kVNeedSt kVStep kVStarted kVAfter kVReads kVBeg kVIsInt kVIsNum kVIsBelow kVIsSeq kVIsSign kVNeedRow kVWalked kVDealt kVAny kVOf kVLetters kVWays kVRefused kVKept kVLWalk kVIsWalked kVStrange kVFaults kVLaw : Value} {tkF : Tok} {vsL1 vsL2 vsL3 : Array Value}
    {nmM qM qnEM : Str} {NM : Addr} {bsM bmM : List Value} {snM : List Str} {subM : List Value} {abM : Bool} {colM : Option Bool} {ddM : Option Addr} {m0M m1M m2M m3M m5M : Option Value} {p1M p2M q1M q2M q3M q4M : Pos}
    {nmB qB qnEB : Str} {NB : Addr} {bsB bmB : List Value} {snB : List Str} {subB : List Value} {abB : Bool} {colB : Option Bool} {ddB : Option Addr} {m0B m1B m2B m3B m5B : Option Value} {p1B p2B q1B q2B q3B q4B : Pos}
    {nmF qF qnEF : Str} {NF : Addr} {bsF bmF : List Value} {snF : List Str} {subF : List Value} {abF : Bool} {colF : Option Bool} {ddF : Option Addr} {m0F m1F m2F m3F m5F : Option Value} {p1F p2F q1F q2F q3F q4F : Pos}
    {nmL qL qnEL : Str} {NL : Addr} {bsL bmL : List Value} {snL : List Str} {subL : List Value} {abL : Bool} {colL : Option Bool} {ddL : Option Addr} {m0L m1L m2L m3L m5L : Option Value} {p1L p2L q1L q2L q3L q4L : Pos}
    (tab1 : PySem.W.tabIn K "_law_is_walked" = some (cL1, pt1) → PySem.W.CodeHd h cL1 pt1 ∧ h.get? pt1 = some (PySem.W.tabObj #[]))
    (tab2 : PySem.W.tabIn K "_law_strangers" = some (cL2, pt2) → PySem.W.CodeHd h cL2 pt2 ∧ h.get? pt2 = some (PySem.W.tabObj #[]))
    (tab3 : PySem.W.tabIn K "_law_faults" = some (cL3, pt3) → PySem.W.CodeHd h cL3 pt3 ∧ h.get? pt3 = some (PySem.W.tabObj #[]))
    (aC : PySem.W.nsIn K mainGlobals "Machine" = some (some (.ref C)))
    (aE : PySem.W.nsIn K mainGlobals "RuelessError" = some (some (.ref CE)))
    (aCM : PySem.W.nsIn K mainGlobals "BadMachine" = some (some (.ref CM)))
    (xLM : K.lookup CM = some (excClassObj nmM qM CM NM bsM bmM true snM subM abM colM ddM m0M m1M m2M m3M m5M "Exception.__new__"))
    (xTM : PySem.W.excTail exTail bmM = true)
    (saM : PySem.W.findIn K (.ref CM) "__setattr__" = some (some (.builtin "object.__setattr__")))
    (gaM : PySem.W.findIn K (.ref CM) "__getattribute__" = some (some (.builtin "BaseException.__getattribute__")))
    (ggM : PySem.W.findIn K (.ref CM) "__getattr__" = some none)
    (nbM : PySem.W.findIn K (.ref CM) "at" = some none)
    (a1M : PySem.W.findIn K (.ref CM) "__init__" = some (some (.ref fEM)))
    (t1M : PySem.W.typeIn K (.ref fEM) = some (.type "function"))
    (l1M : K.lookup fEM = some ⟨ocEM, odEM, .func (PySem.W.fnOf "__init__" qnEM (PySem.OneX.iA p1M p2M) (PySem.OneX.iB q1M q2M q3M q4M) PySem.OneX.iS .none .none dcEM pmEM anEM cdEM ctEM), slEM⟩)
    (c1M : PySem.W.codeIn K cdEM qnEM = true)
    (kCM : PySem.W.keepIn K (.ref CM) = true)
    (eCM : PySem.W.subIn K (.ref CM) (.type "BaseException") = some true)
    (tCM : PySem.W.typeIn K (.ref CM) = some (.type "type"))
    (hCM : PySem.W.hasDictIn K CM = true)
    (iCM : PySem.W.isClsIn K CM = true)
    (sCM : PySem.W.subIn K (.ref CM) (.ref CM) = some true)
    (aCB : PySem.W.nsIn K mainGlobals "BadRow" = some (some (.ref CB)))
    (xLB : K.lookup CB = some (excClassObj nmB qB CB NB bsB bmB true snB subB abB colB ddB m0B m1B m2B m3B m5B "Exception.__new__"))
    (xTB : PySem.W.excTail exTail bmB = true)
    (saB : PySem.W.findIn K (.ref CB) "__setattr__" = some (some (.builtin "object.__setattr__")))
    (gaB : PySem.W.findIn K (.ref CB) "__getattribute__" = some (some (.builtin "BaseException.__getattribute__")))
    (ggB : PySem.W.findIn K (.ref CB) "__getattr__" = some none)
    (nbB : PySem.W.findIn K (.ref CB) "at" = some none)
    (a1B : PySem.W.findIn K (.ref CB) "__init__" = some (some (.ref fEB)))
    (t1B : PySem.W.typeIn K (.ref fEB) = some (.type "function"))
    (l1B : K.lookup fEB = some ⟨ocEB, odEB, .func (PySem.W.fnOf "__init__" qnEB (PySem.OneX.iA p1B p2B) (PySem.OneX.iB q1B q2B q3B q4B) PySem.OneX.iS .none .none dcEB pmEB anEB cdEB ctEB), slEB⟩)
    (c1B : PySem.W.codeIn K cdEB qnEB = true)
    (kCB : PySem.W.keepIn K (.ref CB) = true)
    (eCB : PySem.W.subIn K (.ref CB) (.type "BaseException") = some true)
    (tCB : PySem.W.typeIn K (.ref CB) = some (.type "type"))
    (hCB : PySem.W.hasDictIn K CB = true)
    (iCB : PySem.W.isClsIn K CB = true)
    (sCB : PySem.W.subIn K (.ref CB) (.ref CB) = some true)
    (aCF : PySem.W.nsIn K mainGlobals "Refused" = some (some (.ref CF)))
    (xLF : K.lookup CF = some (excClassObj nmF qF CF NF bsF bmF true snF subF abF colF ddF m0F m1F m2F m3F m5F "Exception.__new__"))
    (xTF : PySem.W.excTail exTail bmF = true)
    (saF : PySem.W.findIn K (.ref CF) "__setattr__" = some (some (.builtin "object.__setattr__")))
    (gaF : PySem.W.findIn K (.ref CF) "__getattribute__" = some (some (.builtin "BaseException.__getattribute__")))
    (ggF : PySem.W.findIn K (.ref CF) "__getattr__" = some none)
    (nbF : PySem.W.findIn K (.ref CF) "at" = some none)
    (a1F : PySem.W.findIn K (.ref CF) "__init__" = some (some (.ref fEF)))
    (t1F : PySem.W.typeIn K (.ref fEF) = some (.type "function"))
    (l1F : K.lookup fEF = some ⟨ocEF, odEF, .func (PySem.W.fnOf "__init__" qnEF (PySem.OneX.iA p1F p2F) (PySem.OneX.iB q1F q2F q3F q4F) PySem.OneX.iS .none .none dcEF pmEF anEF cdEF ctEF), slEF⟩)
    (c1F : PySem.W.codeIn K cdEF qnEF = true)
    (kCF : PySem.W.keepIn K (.ref CF) = true)
    (eCF : PySem.W.subIn K (.ref CF) (.type "BaseException") = some true)
    (tCF : PySem.W.typeIn K (.ref CF) = some (.type "type"))
    (hCF : PySem.W.hasDictIn K CF = true)
    (iCF : PySem.W.isClsIn K CF = true)
    (sCF : PySem.W.subIn K (.ref CF) (.ref CF) = some true)
    (aCL : PySem.W.nsIn K mainGlobals "NoLetter" = some (some (.ref CL)))
    (xLL : K.lookup CL = some (excClassObj nmL qL CL NL bsL bmL true snL subL abL colL ddL m0L m1L m2L m3L m5L "LookupError.__new__"))
    (xTL : PySem.W.excTail keyTail bmL = true)
    (saL : PySem.W.findIn K (.ref CL) "__setattr__" = some (some (.builtin "object.__setattr__")))
    (gaL : PySem.W.findIn K (.ref CL) "__getattribute__" = some (some (.builtin "BaseException.__getattribute__")))
    (ggL : PySem.W.findIn K (.ref CL) "__getattr__" = some none)
    (nbL : PySem.W.findIn K (.ref CL) "letter" = some none)
    (a1L : PySem.W.findIn K (.ref CL) "__init__" = some (some (.ref fEL)))
    (t1L : PySem.W.typeIn K (.ref fEL) = some (.type "function"))
    (l1L : K.lookup fEL = some ⟨ocEL, odEL, .func (PySem.W.fnOf "__init__" qnEL (PySem.OneXL.iA p1L p2L) (PySem.OneXL.iB q1L q2L q3L q4L) PySem.OneXL.iS .none .none dcEL pmEL anEL cdEL ctEL), slEL⟩)
    (c1L : PySem.W.codeIn K cdEL qnEL = true)
    (kCL : PySem.W.keepIn K (.ref CL) = true)
    (eCL : PySem.W.subIn K (.ref CL) (.type "BaseException") = some true)
    (tCL : PySem.W.typeIn K (.ref CL) = some (.type "type"))
    (hCL : PySem.W.hasDictIn K CL = true)
    (iCL : PySem.W.isClsIn K CL = true)
    (sCL : PySem.W.subIn K (.ref CL) (.ref CL) = some true)
    (sBM : PySem.W.subIn K (.ref CB) (.ref CM) = some false)
    (sFM : PySem.W.subIn K (.ref CF) (.ref CM) = some false)
    (sFB : PySem.W.subIn K (.ref CF) (.ref CB) = some false)
    (sLM : PySem.W.subIn K (.ref CL) (.ref CM) = some false)
    (sLB : PySem.W.subIn K (.ref CL) (.ref CB) = some false)
    (sLF : PySem.W.subIn K (.ref CL) (.ref CF) = some false)
    (sMF : PySem.W.subIn K (.ref CM) (.ref CF) = some false)
    (sMB : PySem.W.subIn K (.ref CM) (.ref CB) = some false)
    (sME : PySem.W.subIn K (.ref CM) (.ref CE) = some true)
    (vMF : (Value.ref CM == Value.ref CF) = false)
    (vMB : (Value.ref CM == Value.ref CB) = false)
    (vMM : (Value.ref CM == Value.ref CM) = true)
    (vCC : (Value.ref C == Value.ref C) = true)
    (vTC : (Value.type "tuple" == Value.ref C) = false)
    (eCE : PySem.W.subIn K (.ref CE) (.type "BaseException") = some true)
    (tCE : PySem.W.typeIn K (.ref CE) = some (.type "type"))
    (iCE : PySem.W.isClsIn K CE = true)
    (haM : PySem.W.findIn K (.ref CM) "__class__" = some (some (.builtin "object.__class__")))
    (hnO : PySem.W.specialIn K (.builtin "object.__class__") "__get__" = some (some (.builtin "getset_descriptor.__get__")))
    (htO : PySem.W.takesIn K (.builtin "object.__class__") = some true)
    (hmM : PySem.W.mroIn K CM (.type "object") = some true)
    (haC : PySem.W.findIn K (.ref C) "__class__" = some (some (.builtin "object.__class__")))
    (hmC : PySem.W.mroIn K C (.type "object") = some true)
    (iCC : PySem.W.isClsIn K C = true)
    (tCC : PySem.W.typeIn K (.ref C) = some (.type "type"))
    (sTC : PySem.W.subIn K (.type "tuple") (.ref C) = some false)
    (aMI : PySem.W.findIn K (.ref C) "__init__" = some (some (.ref fMI)))
    (iMI : PySem.W.isFn K (.ref fMI) = true)
    (lMI : K.lookup fMI = some ⟨ocMI, odMI, .func (PySem.W.fnOf "__init__" "Machine.__init__" (defArgs sMI) (defBody sMI) (defScope sMI) .none (.ref DK) dcMI pmMI anMI cdMI ctMI), slMI⟩)
    (cMI : PySem.W.codeIn K cdMI "Machine.__init__" = true)
    (kfMI : PySem.W.keepIn K (.ref fMI) = true)
    (aLen : PySem.W.findIn K (.ref C) "__len__" = some (some (.ref fLen)))
    (iLen : PySem.W.isFn K (.ref fLen) = true)
    (lLen : K.lookup fLen = some ⟨ocLen, odLen, .func (PySem.W.fnOf "__len__" "Machine.__len__" (defArgs sLen) (defBody sLen) (defScope sLen) .none kVLen dcLen pmLen anLen cdLen ctLen), slLen⟩)
    (cLen : PySem.W.codeIn K cdLen "Machine.__len__" = true)
    (kLen : PySem.W.keepIn K (.ref fLen) = true)
    (aEq : PySem.W.findIn K (.ref C) "__eq__" = some (some (.ref fEq)))
    (iEq : PySem.W.isFn K (.ref fEq) = true)
    (lEq : K.lookup fEq = some ⟨ocEq, odEq, .func (PySem.W.fnOf "__eq__" "Machine.__eq__" (defArgs sEq) (defBody sEq) (defScope sEq) .none kVEq dcEq pmEq anEq cdEq ctEq), slEq⟩)
    (cEq : PySem.W.codeIn K cdEq "Machine.__eq__" = true)
    (kEq : PySem.W.keepIn K (.ref fEq) = true)
    (aNeedSt : PySem.W.findIn K (.ref C) "_need_state" = some (some (.ref fNeedSt)))
    (iNeedSt : PySem.W.isFn K (.ref fNeedSt) = true)
    (lNeedSt : K.lookup fNeedSt = some ⟨ocNeedSt, odNeedSt, .func (PySem.W.fnOf "_need_state" "Machine._need_state" (defArgs sNeedSt) (defBody sNeedSt) (defScope sNeedSt) .none kVNeedSt dcNeedSt pmNeedSt anNeedSt cdNeedSt ctNeedSt), slNeedSt⟩)
    (cNeedSt : PySem.W.codeIn K cdNeedSt "Machine._need_state" = true)
    (kNeedSt : PySem.W.keepIn K (.ref fNeedSt) = true)
    (aStep : PySem.W.findIn K (.ref C) "step" = some (some (.ref fStep)))
    (iStep : PySem.W.isFn K (.ref fStep) = true)
    (lStep : K.lookup fStep = some ⟨ocStep, odStep, .func (PySem.W.fnOf "step" "Machine.step" (defArgs sStep) (defBody sStep) (defScope sStep) .none kVStep dcStep pmStep anStep cdStep ctStep), slStep⟩)
    (cStep : PySem.W.codeIn K cdStep "Machine.step" = true)
    (kStep : PySem.W.keepIn K (.ref fStep) = true)
    (aStarted : PySem.W.findIn K (.ref C) "started" = some (some (.ref fStarted)))
    (iStarted : PySem.W.isFn K (.ref fStarted) = true)
    (lStarted : K.lookup fStarted = some ⟨ocStarted, odStarted, .func (PySem.W.fnOf "started" "Machine.started" (defArgs sStarted) (defBody sStarted) (defScope sStarted) .none kVStarted dcStarted pmStarted anStarted cdStarted ctStarted), slStarted⟩)
    (cStarted : PySem.W.codeIn K cdStarted "Machine.started" = true)
    (kStarted : PySem.W.keepIn K (.ref fStarted) = true)
    (aAfter : PySem.W.findIn K (.ref C) "after" = some (some (.ref fAfter)))
    (iAfter : PySem.W.isFn K (.ref fAfter) = true)
    (lAfter : K.lookup fAfter = some ⟨ocAfter, odAfter, .func (PySem.W.fnOf "after" "Machine.after" (defArgs sAfter) (defBody sAfter) (defScope sAfter) .none kVAfter dcAfter pmAfter anAfter cdAfter ctAfter), slAfter⟩)
    (cAfter : PySem.W.codeIn K cdAfter "Machine.after" = true)
    (kAfter : PySem.W.keepIn K (.ref fAfter) = true)
    (aReads : PySem.W.findIn K (.ref C) "reads" = some (some (.ref fReads)))
    (iReads : PySem.W.isFn K (.ref fReads) = true)
    (lReads : K.lookup fReads = some ⟨ocReads, odReads, .func (PySem.W.fnOf "reads" "Machine.reads" (defArgs sReads) (defBody sReads) (defScope sReads) .none kVReads dcReads pmReads anReads cdReads ctReads), slReads⟩)
    (cReads : PySem.W.codeIn K cdReads "Machine.reads" = true)
    (kReads : PySem.W.keepIn K (.ref fReads) = true)
    (aBeg : PySem.W.findIn K (.ref C) "beginning" = some (some (.ref fBeg)))
    (iBeg : PySem.W.isFn K (.ref fBeg) = true)
    (lBeg : K.lookup fBeg = some ⟨ocBeg, odBeg, .func (PySem.W.fnOf "beginning" "Machine.beginning" (defArgs sBeg) (defBody sBeg) (defScope sBeg) .none kVBeg dcBeg pmBeg anBeg cdBeg ctBeg), slBeg⟩)
    (cBeg : PySem.W.codeIn K cdBeg "Machine.beginning" = true)
    (kBeg : PySem.W.keepIn K (.ref fBeg) = true)
    (aIsInt : PySem.W.nsIn K mainGlobals "is_integer" = some (some (.ref fIsInt)))
    (lIsInt : K.lookup fIsInt = some ⟨ocIsInt, odIsInt, .func (PySem.W.fnOf "is_integer" "is_integer" (defArgs sIsInt) (defBody sIsInt) (defScope sIsInt) .none kVIsInt dcIsInt pmIsInt anIsInt cdIsInt ctIsInt), slIsInt⟩)
    (cIsInt : PySem.W.codeIn K cdIsInt "is_integer" = true)
    (kIsInt : PySem.W.keepIn K (.ref fIsInt) = true)
    (aIsNum : PySem.W.nsIn K mainGlobals "is_number" = some (some (.ref fIsNum)))
    (lIsNum : K.lookup fIsNum = some ⟨ocIsNum, odIsNum, .func (PySem.W.fnOf "is_number" "is_number" (defArgs sIsNum) (defBody sIsNum) (defScope sIsNum) .none kVIsNum dcIsNum pmIsNum anIsNum cdIsNum ctIsNum), slIsNum⟩)
    (cIsNum : PySem.W.codeIn K cdIsNum "is_number" = true)
    (kIsNum : PySem.W.keepIn K (.ref fIsNum) = true)
    (aIsBelow : PySem.W.nsIn K mainGlobals "is_number_below" = some (some (.ref fIsBelow)))
    (lIsBelow : K.lookup fIsBelow = some ⟨ocIsBelow, odIsBelow, .func (PySem.W.fnOf "is_number_below" "is_number_below" (defArgs sIsBelow) (defBody sIsBelow) (defScope sIsBelow) .none kVIsBelow dcIsBelow pmIsBelow anIsBelow cdIsBelow ctIsBelow), slIsBelow⟩)
    (cIsBelow : PySem.W.codeIn K cdIsBelow "is_number_below" = true)
    (kIsBelow : PySem.W.keepIn K (.ref fIsBelow) = true)
    (aIsSeq : PySem.W.nsIn K mainGlobals "is_sequence" = some (some (.ref fIsSeq)))
    (lIsSeq : K.lookup fIsSeq = some ⟨ocIsSeq, odIsSeq, .func (PySem.W.fnOf "is_sequence" "is_sequence" (defArgs sIsSeq) (defBody sIsSeq) (defScope sIsSeq) .none kVIsSeq dcIsSeq pmIsSeq anIsSeq cdIsSeq ctIsSeq), slIsSeq⟩)
    (cIsSeq : PySem.W.codeIn K cdIsSeq "is_sequence" = true)
    (kIsSeq : PySem.W.keepIn K (.ref fIsSeq) = true)
    (aIsSign : PySem.W.nsIn K mainGlobals "is_sign" = some (some (.ref fIsSign)))
    (lIsSign : K.lookup fIsSign = some ⟨ocIsSign, odIsSign, .func (PySem.W.fnOf "is_sign" "is_sign" (defArgs sIsSign) (defBody sIsSign) (defScope sIsSign) .none kVIsSign dcIsSign pmIsSign anIsSign cdIsSign ctIsSign), slIsSign⟩)
    (cIsSign : PySem.W.codeIn K cdIsSign "is_sign" = true)
    (kIsSign : PySem.W.keepIn K (.ref fIsSign) = true)
    (aNeedRow : PySem.W.nsIn K mainGlobals "need_row" = some (some (.ref fNeedRow)))
    (lNeedRow : K.lookup fNeedRow = some ⟨ocNeedRow, odNeedRow, .func (PySem.W.fnOf "need_row" "need_row" (defArgs sNeedRow) (defBody sNeedRow) (defScope sNeedRow) .none kVNeedRow dcNeedRow pmNeedRow anNeedRow cdNeedRow ctNeedRow), slNeedRow⟩)
    (cNeedRow : PySem.W.codeIn K cdNeedRow "need_row" = true)
    (kNeedRow : PySem.W.keepIn K (.ref fNeedRow) = true)
    (aWalked : PySem.W.nsIn K mainGlobals "walked" = some (some (.ref fWalked)))
    (lWalked : K.lookup fWalked = some ⟨ocWalked, odWalked, .func (PySem.W.fnOf "walked" "walked" (defArgs sWalked) (defBody sWalked) (defScope sWalked) .none kVWalked dcWalked pmWalked anWalked cdWalked ctWalked), slWalked⟩)
    (cWalked : PySem.W.codeIn K cdWalked "walked" = true)
    (kWalked : PySem.W.keepIn K (.ref fWalked) = true)
    (aDealt : PySem.W.nsIn K mainGlobals "_law_dealt" = some (some (.ref fDealt)))
    (lDealt : K.lookup fDealt = some ⟨ocDealt, odDealt, .func (PySem.W.fnOf "_law_dealt" "_law_dealt" (defArgs sDealt) (defBody sDealt) (defScope sDealt) .none kVDealt dcDealt pmDealt anDealt cdDealt ctDealt), slDealt⟩)
    (cDealt : PySem.W.codeIn K cdDealt "_law_dealt" = true)
    (kDealt : PySem.W.keepIn K (.ref fDealt) = true)
    (aAny : PySem.W.nsIn K mainGlobals "_law_any" = some (some (.ref fAny)))
    (lAny : K.lookup fAny = some ⟨ocAny, odAny, .func (PySem.W.fnOf "_law_any" "_law_any" (defArgs sAny) (defBody sAny) (defScope sAny) .none kVAny dcAny pmAny anAny cdAny ctAny), slAny⟩)
    (cAny : PySem.W.codeIn K cdAny "_law_any" = true)
    (kAny : PySem.W.keepIn K (.ref fAny) = true)
    (aOf : PySem.W.nsIn K mainGlobals "_law_of" = some (some (.ref fOf)))
    (lOf : K.lookup fOf = some ⟨ocOf, odOf, .func (PySem.W.fnOf "_law_of" "_law_of" (defArgs sOf) (defBody sOf) (defScope sOf) .none kVOf dcOf pmOf anOf cdOf ctOf), slOf⟩)
    (cOf : PySem.W.codeIn K cdOf "_law_of" = true)
    (kOf : PySem.W.keepIn K (.ref fOf) = true)
    (aLetters : PySem.W.nsIn K mainGlobals "_law_letters" = some (some (.ref fLetters)))
    (lLetters : K.lookup fLetters = some ⟨ocLetters, odLetters, .func (PySem.W.fnOf "_law_letters" "_law_letters" (defArgs sLetters) (defBody sLetters) (defScope sLetters) .none kVLetters dcLetters pmLetters anLetters cdLetters ctLetters), slLetters⟩)
    (cLetters : PySem.W.codeIn K cdLetters "_law_letters" = true)
    (kLetters : PySem.W.keepIn K (.ref fLetters) = true)
    (aWays : PySem.W.nsIn K mainGlobals "_law_ways" = some (some (.ref fWays)))
    (lWays : K.lookup fWays = some ⟨ocWays, odWays, .func (PySem.W.fnOf "_law_ways" "_law_ways" (defArgs sWays) (defBody sWays) (defScope sWays) .none kVWays dcWays pmWays anWays cdWays ctWays), slWays⟩)
    (cWays : PySem.W.codeIn K cdWays "_law_ways" = true)
    (kWays : PySem.W.keepIn K (.ref fWays) = true)
    (aRefused : PySem.W.nsIn K mainGlobals "_law_refused" = some (some (.ref fRefused)))
    (lRefused : K.lookup fRefused = some ⟨ocRefused, odRefused, .func (PySem.W.fnOf "_law_refused" "_law_refused" (defArgs sRefused) (defBody sRefused) (defScope sRefused) .none kVRefused dcRefused pmRefused anRefused cdRefused ctRefused), slRefused⟩)
    (cRefused : PySem.W.codeIn K cdRefused "_law_refused" = true)
    (kRefused : PySem.W.keepIn K (.ref fRefused) = true)
    (aKept : PySem.W.nsIn K mainGlobals "_law_is_kept" = some (some (.ref fKept)))
    (lKept : K.lookup fKept = some ⟨ocKept, odKept, .func (PySem.W.fnOf "_law_is_kept" "_law_is_kept" (defArgs sKept) (defBody sKept) (defScope sKept) .none kVKept dcKept pmKept anKept cdKept ctKept), slKept⟩)
    (cKept : PySem.W.codeIn K cdKept "_law_is_kept" = true)
    (kKept : PySem.W.keepIn K (.ref fKept) = true)
    (aLWalk : PySem.W.nsIn K mainGlobals "_law_walk" = some (some (.ref fLWalk)))
    (lLWalk : K.lookup fLWalk = some ⟨ocLWalk, odLWalk, .func (PySem.W.fnOf "_law_walk" "_law_walk" (defArgs sLWalk) (defBody sLWalk) (defScope sLWalk) .none kVLWalk dcLWalk pmLWalk anLWalk cdLWalk ctLWalk), slLWalk⟩)
    (cLWalk : PySem.W.codeIn K cdLWalk "_law_walk" = true)
    (kLWalk : PySem.W.keepIn K (.ref fLWalk) = true)
    (aIsWalked : PySem.W.nsIn K mainGlobals "_law_is_walked" = some (some (.ref fIsWalked)))
    (lIsWalked : K.lookup fIsWalked = some ⟨ocIsWalked, odIsWalked, .func (PySem.W.fnOf "_law_is_walked" "_law_is_walked" (defArgs sIsWalked) (defBody sIsWalked) (defScope sIsWalked) .none kVIsWalked dcIsWalked pmIsWalked anIsWalked (.ref cL1) ctIsWalked), slIsWalked⟩)
    (cIsWalked : PySem.W.codeIn K (.ref cL1) "_law_is_walked" = true)
    (kIsWalked : PySem.W.keepIn K (.ref fIsWalked) = true)
    (aStrange : PySem.W.nsIn K mainGlobals "_law_strangers" = some (some (.ref fStrange)))
    (lStrange : K.lookup fStrange = some ⟨ocStrange, odStrange, .func (PySem.W.fnOf "_law_strangers" "_law_strangers" (defArgs sStrange) (defBody sStrange) (defScope sStrange) .none kVStrange dcStrange pmStrange anStrange (.ref cL2) ctStrange), slStrange⟩)
    (cStrange : PySem.W.codeIn K (.ref cL2) "_law_strangers" = true)
    (kStrange : PySem.W.keepIn K (.ref fStrange) = true)
    (aFaults : PySem.W.nsIn K mainGlobals "_law_faults" = some (some (.ref fFaults)))
    (lFaults : K.lookup fFaults = some ⟨ocFaults, odFaults, .func (PySem.W.fnOf "_law_faults" "_law_faults" (defArgs sFaults) (defBody sFaults) (defScope sFaults) .none kVFaults dcFaults pmFaults anFaults (.ref cL3) ctFaults), slFaults⟩)
    (cFaults : PySem.W.codeIn K (.ref cL3) "_law_faults" = true)
    (kFaults : PySem.W.keepIn K (.ref fFaults) = true)
    (aLaw : PySem.W.nsIn K mainGlobals "law" = some (some (.ref fLaw)))
    (lLaw : K.lookup fLaw = some ⟨ocLaw, odLaw, .func (PySem.W.fnOf "law" "law" (defArgs sLaw) (defBody sLaw) (defScope sLaw) .none kVLaw dcLaw pmLaw anLaw cdLaw ctLaw), slLaw⟩)
    (cLaw : PySem.W.codeIn K cdLaw "law" = true)
    (kLaw : PySem.W.keepIn K (.ref fLaw) = true)
    (lcL1 : K.lookup cL1 = some ⟨ocl1, odl1, .fields vsL1, osl1⟩)
    (hvL1 : (vsL1[11]? : Option Value) = some (.ref pt1))
    (nT1 : K.lookup pt1 = none)
    (lcL2 : K.lookup cL2 = some ⟨ocl2, odl2, .fields vsL2, osl2⟩)
    (hvL2 : (vsL2[11]? : Option Value) = some (.ref pt2))
    (nT2 : K.lookup pt2 = none)
    (lcL3 : K.lookup cL3 = some ⟨ocl3, odl3, .fields vsL3, osl3⟩)
    (hvL3 : (vsL3[11]? : Option Value) = some (.ref pt3))
    (nT3 : K.lookup pt3 = none)
    (n12 : pt1 ≠ pt2)
    (n13 : pt1 ≠ pt3)
    (n23 : pt2 ≠ pt3)
    (pgr : PySem.W.plainGet K C Str.empty = true)
    (hdr : PySem.W.hasDictIn K C = true)
    (por : PySem.W.plainOver K C = true)
    (sar : PySem.W.findIn K (.ref C) "__setattr__" = some (some (.builtin "object.__setattr__")))
    (mkr : PySem.W.makesIn K C = true)
    (kcr : PySem.W.keepIn K (.ref C) = true)
    (nr0 : PySem.W.findIn K (.ref C) "letters" = some none)
    (nr1 : PySem.W.findIn K (.ref C) "ways" = some none)
    (nr2 : PySem.W.findIn K (.ref C) "first" = some none)
    (kd1 : PySem.W.nsIn K DK "first" = some (some (.int 0 tkF)))
    (g_LE : PySem.W.nsIn K mainGlobals "LETTERS" = some (some GLE))
    (g_ML : PySem.W.nsIn K mainGlobals "MOST_LETTERS" = some (some GML))
    (g_MS : PySem.W.nsIn K mainGlobals "MOST_STATES" = some (some GMS))
    (r_LE : RelV (.str "abcd01") GLE)
    (r_ML : RelV (.int 200) GML)
    (r_MS : RelV (.int 2000) GMS)
    (z_int : PySem.W.nsIn K mainGlobals "int" = some none)
    (z_bool : PySem.W.nsIn K mainGlobals "bool" = some none)
    (z_str : PySem.W.nsIn K mainGlobals "str" = some none)
    (z_len : PySem.W.nsIn K mainGlobals "len" = some none)
    (z_abs : PySem.W.nsIn K mainGlobals "abs" = some none)
    (z_tuple : PySem.W.nsIn K mainGlobals "tuple" = some none)
    (z_list : PySem.W.nsIn K mainGlobals "list" = some none)
    (z_range : PySem.W.nsIn K mainGlobals "range" = some none)
    (z_enumerate : PySem.W.nsIn K mainGlobals "enumerate" = some none)
    (z_repr : PySem.W.nsIn K mainGlobals "repr" = some none)
    (z_all : PySem.W.nsIn K mainGlobals "all" = some none)
    (z_isinstance : PySem.W.nsIn K mainGlobals "isinstance" = some none)
    : ∃ (fd : FuncData) (ps : List (Addr × Addr)), (∀ p ∈ ps, h.get? p.2 = some { cls := .none, data := .fields #[] } ∧ K.lookup p.2 = none ∧ PySem.W.CodeHd h p.1 p.2) ∧ (∀ (s : Shared) (u : Value), BindsTo s fd ⟨[u], []⟩ [("script", u)]) ∧ ∀ base : Heap, K.In base → base.Ns mainGlobals mg → (∀ p ∈ ps, TabB base mg p.1 p.2) → FnG l.prog w K mg base CX0 11 fa fd ["script"] (spLaw K ps) := by
  have e := hfa.symm.trans (PySem.W.mg_of X G aLaw)
  cases e
  have tab1 := tab1 (tab_in aIsWalked lIsWalked rfl lcL1 hvL1)
  have tab2 := tab2 (tab_in aStrange lStrange rfl lcL2 hvL2)
  have tab3 := tab3 (tab_in aFaults lFaults rfl lcL3 hvL3)
  have T : Txt K mg := ⟨PySem.W.mg_none_of X G z_int, PySem.W.mg_none_of X G z_bool, PySem.W.mg_none_of X G z_str, PySem.W.mg_none_of X G z_len, PySem.W.mg_none_of X G z_abs, PySem.W.mg_none_of X G z_tuple, PySem.W.mg_none_of X G z_list, PySem.W.mg_none_of X G z_range, PySem.W.mg_none_of X G z_enumerate, PySem.W.mg_none_of X G z_repr, PySem.W.mg_none_of X G z_all, PySem.W.mg_none_of X G z_isinstance, ⟨_, PySem.W.mg_of X G g_LE, r_LE⟩, ⟨_, PySem.W.mg_of X G g_ML, r_ML⟩, ⟨_, PySem.W.mg_of X G g_MS, r_MS⟩⟩
  have Mt : McT K C := ⟨⟨pgr, hdr, por, sar⟩, nr0, nr1, nr2⟩
  have TM : PySem.OneX.OneTxt K mg "BadMachine" exTail "Exception.__new__" CM fEM :=
    { gC := PySem.W.mg_of X G aCM, cls := ⟨nmM, qM, NM, bsM, bmM, snM, subM, abM, colM, ddM, m0M, m1M, m2M, m3M, m5M, xLM, xTM⟩, sa := saM, ga := gaM, gg := ggM, noN := nbM, iC := a1M, tC := t1M, kC := kCM, exC := eCM, tyC := tCM, hdC := hCM, te := exm_sub eCM iCM tCM sCM,
      fn := ⟨_, _, _, _, _, _, _, _, _, _, _, _, _, _, _, l1M, c1M⟩ }
  have TB : PySem.OneX.OneTxt K mg "BadRow" exTail "Exception.__new__" CB fEB :=
    { gC := PySem.W.mg_of X G aCB, cls := ⟨nmB, qB, NB, bsB, bmB, snB, subB, abB, colB, ddB, m0B, m1B, m2B, m3B, m5B, xLB, xTB⟩, sa := saB, ga := gaB, gg := ggB, noN := nbB, iC := a1B, tC := t1B, kC := kCB, exC := eCB, tyC := tCB, hdC := hCB, te := exm_sub eCB iCB tCB sCB,
      fn := ⟨_, _, _, _, _, _, _, _, _, _, _, _, _, _, _, l1B, c1B⟩ }
  have TF : PySem.OneX.OneTxt K mg "Refused" exTail "Exception.__new__" CF fEF :=
    { gC := PySem.W.mg_of X G aCF, cls := ⟨nmF, qF, NF, bsF, bmF, snF, subF, abF, colF, ddF, m0F, m1F, m2F, m3F, m5F, xLF, xTF⟩, sa := saF, ga := gaF, gg := ggF, noN := nbF, iC := a1F, tC := t1F, kC := kCF, exC := eCF, tyC := tCF, hdC := hCF, te := exm_sub eCF iCF tCF sCF,
      fn := ⟨_, _, _, _, _, _, _, _, _, _, _, _, _, _, _, l1F, c1F⟩ }
  have TL : PySem.OneXL.OneTxt K mg "NoLetter" keyTail "LookupError.__new__" CL fEL :=
    { gC := PySem.W.mg_of X G aCL, cls := ⟨nmL, qL, NL, bsL, bmL, snL, subL, abL, colL, ddL, m0L, m1L, m2L, m3L, m5L, xLL, xTL⟩, sa := saL, ga := gaL, gg := ggL, noN := nbL, iC := a1L, tC := t1L, kC := kCL, exC := eCL, tyC := tCL, hdC := hCL, te := exm_sub eCL iCL tCL sCL,
      fn := ⟨_, _, _, _, _, _, _, _, _, _, _, _, _, _, _, l1L, c1L⟩ }
  have ET : ErrT K mg CM CB CF CL fEM fEB fEF fEL := ⟨TM, TB, TF, TL, exm_sub eCM iCM tCM sBM, exm_sub eCM iCM tCM sFM, exm_sub eCB iCB tCB sFB, exm_sub eCM iCM tCM sLM, exm_sub eCB iCB tCB sLB, exm_sub eCF iCF tCF sLF⟩
  have BT : BaseT K mg CE CM CB CF := ⟨PySem.W.mg_of X G aE, exm_sub eCE iCE tCE sME, ⟨gaM, ggM, eCM, hCM, haM, hnO, htO, hmM⟩, kit_self vMM, kit_no2 (kit_sub vMF iCF tCF sMF) (kit_sub vMB iCB tCB sMB)⟩
  have It : InsT K C := ⟨haC, hnO, htO, hmC, kit_self vCC, kit_sub vTC iCC tCC sTC⟩
  have nf : PySem.W.notFirst K C (.type "tuple") = true := no_first sTC
  have FMI := fun_mk (st := sMI) lMI cMI kfMI
  have FLen := fun_mk (st := sLen) lLen cLen kLen
  have FEq := fun_mk (st := sEq) lEq cEq kEq
  have FNeedSt := fun_mk (st := sNeedSt) lNeedSt cNeedSt kNeedSt
  have FStep := fun_mk (st := sStep) lStep cStep kStep
  have FStarted := fun_mk (st := sStarted) lStarted cStarted kStarted
  have FAfter := fun_mk (st := sAfter) lAfter cAfter kAfter
  have FReads := fun_mk (st := sReads) lReads cReads kReads
  have FBeg := fun_mk (st := sBeg) lBeg cBeg kBeg
  have FIsInt := fun_mk (st := sIsInt) lIsInt cIsInt kIsInt
  have FIsNum := fun_mk (st := sIsNum) lIsNum cIsNum kIsNum
  have FIsBelow := fun_mk (st := sIsBelow) lIsBelow cIsBelow kIsBelow
  have FIsSeq := fun_mk (st := sIsSeq) lIsSeq cIsSeq kIsSeq
  have FIsSign := fun_mk (st := sIsSign) lIsSign cIsSign kIsSign
  have FNeedRow := fun_mk (st := sNeedRow) lNeedRow cNeedRow kNeedRow
  have FWalked := fun_mk (st := sWalked) lWalked cWalked kWalked
  have FDealt := fun_mk (st := sDealt) lDealt cDealt kDealt
  have FAny := fun_mk (st := sAny) lAny cAny kAny
  have FOf := fun_mk (st := sOf) lOf cOf kOf
  have FLetters := fun_mk (st := sLetters) lLetters cLetters kLetters
  have FWays := fun_mk (st := sWays) lWays cWays kWays
  have FRefused := fun_mk (st := sRefused) lRefused cRefused kRefused
  have FKept := fun_mk (st := sKept) lKept cKept kKept
  have FLWalk := fun_mk (st := sLWalk) lLWalk cLWalk kLWalk
  have FIsWalked := fun_mk (st := sIsWalked) lIsWalked cIsWalked kIsWalked
  have FStrange := fun_mk (st := sStrange) lStrange cStrange kStrange
  have FFaults := fun_mk (st := sFaults) lFaults cFaults kFaults
  have FLaw := fun_mk (st := sLaw) lLaw cLaw kLaw
  have bLen := FLen.binds (ps := ["self"]) fun _ _ _ _ _ _ us hl => match us, hl with | [_], _ => rfl
  have bEq := FEq.binds (ps := ["self", "other"]) fun _ _ _ _ _ _ us hl => match us, hl with | [_, _], _ => rfl
  have bNeedSt := FNeedSt.binds (ps := ["self", "value"]) fun _ _ _ _ _ _ us hl => match us, hl with | [_, _], _ => rfl
  have bStep := FStep.binds (ps := ["self", "state", "letter"]) fun _ _ _ _ _ _ us hl => match us, hl with | [_, _, _], _ => rfl
  have bStarted := FStarted.binds (ps := ["self", "state"]) fun _ _ _ _ _ _ us hl => match us, hl with | [_, _], _ => rfl
  have bAfter := FAfter.binds (ps := ["self", "row"]) fun _ _ _ _ _ _ us hl => match us, hl with | [_, _], _ => rfl
  have bReads := FReads.binds (ps := ["self", "row"]) fun _ _ _ _ _ _ us hl => match us, hl with | [_, _], _ => rfl
  have bBeg := FBeg.binds (ps := ["self", "row"]) fun _ _ _ _ _ _ us hl => match us, hl with | [_, _], _ => rfl
  have bIsInt := FIsInt.binds (ps := ["value"]) fun _ _ _ _ _ _ us hl => match us, hl with | [_], _ => rfl
  have bIsNum := FIsNum.binds (ps := ["value"]) fun _ _ _ _ _ _ us hl => match us, hl with | [_], _ => rfl
  have bIsBelow := FIsBelow.binds (ps := ["value", "bound"]) fun _ _ _ _ _ _ us hl => match us, hl with | [_, _], _ => rfl
  have bIsSeq := FIsSeq.binds (ps := ["value"]) fun _ _ _ _ _ _ us hl => match us, hl with | [_], _ => rfl
  have bIsSign := FIsSign.binds (ps := ["value", "signs"]) fun _ _ _ _ _ _ us hl => match us, hl with | [_, _], _ => rfl
  have bNeedRow := FNeedRow.binds (ps := ["letters", "value"]) fun _ _ _ _ _ _ us hl => match us, hl with | [_, _], _ => rfl
  have bWalked := FWalked.binds (ps := ["machine", "state", "row"]) fun _ _ _ _ _ _ us hl => match us, hl with | [_, _, _], _ => rfl
  have bDealt := FDealt.binds (ps := ["script", "base"]) fun _ _ _ _ _ _ us hl => match us, hl with | [_, _], _ => rfl
  have bAny := FAny.binds (ps := ["deal", "bound"]) fun _ _ _ _ _ _ us hl => match us, hl with | [_, _], _ => rfl
  have bOf := FOf.binds (ps := ["deal", "some"]) fun _ _ _ _ _ _ us hl => match us, hl with | [_, _], _ => rfl
  have bLetters := FLetters.binds (ps := ["deal"]) fun _ _ _ _ _ _ us hl => match us, hl with | [_], _ => rfl
  have bWays := FWays.binds (ps := ["deal", "states", "letters"]) fun _ _ _ _ _ _ us hl => match us, hl with | [_, _, _], _ => rfl
  have bRefused := FRefused.binds (ps := ["work"]) fun _ _ _ _ _ _ us hl => match us, hl with | [_], _ => rfl
  have bKept := FKept.binds (ps := ["letters", "ways", "first"]) fun _ _ _ _ _ _ us hl => match us, hl with | [_, _, _], _ => rfl
  have bLWalk := FLWalk.binds (ps := ["letters", "ways", "state", "row"]) fun _ _ _ _ _ _ us hl => match us, hl with | [_, _, _, _], _ => rfl
  have bIsWalked := FIsWalked.binds (ps := ["deal", "letters", "ways", "first"]) fun _ _ _ _ _ _ us hl => match us, hl with | [_, _, _, _], _ => rfl
  have bStrange := FStrange.binds (ps := ["deal", "letters", "ways"]) fun _ _ _ _ _ _ us hl => match us, hl with | [_, _, _], _ => rfl
  have bFaults := FFaults.binds (ps := ["deal", "letters", "ways"]) fun _ _ _ _ _ _ us hl => match us, hl with | [_, _, _], _ => rfl
  have FI : FunD K "__init__" "Machine.__init__" (defArgs sMI) (defBody sMI) (defScope sMI) [] kMI fMI _ := ⟨⟨_, _, _, _, _, _, _, _, _, _, rfl, lMI, cMI, .inl ⟨rfl, rfl⟩, .inr ⟨DK, rfl, fun q hq => ?kws⟩⟩, kfMI⟩
  case kws =>
    rcases List.mem_cons.mp hq with rfl | hq
    · exact ⟨_, kd1, ⟨tkF, rfl⟩⟩
    · cases hq
  have gC := PySem.W.mg_of X G aC
  obtain ⟨TT, hTT⟩ : ∃ TT : List (Addr × Str), TT = [(pt1, ((("_law_is_walked" : Str) ++ (".<locals>." : Str)) ++ ("<lambda>" : Str))), (pt2, ((("_law_strangers" : Str) ++ (".<locals>." : Str)) ++ ("<lambda>" : Str))), (pt3, ((("_law_faults" : Str) ++ (".<locals>." : Str)) ++ ("<lambda>" : Str)))] := ⟨_, rfl⟩
  have u1 : (pt1, ((("_law_is_walked" : Str) ++ (".<locals>." : Str)) ++ ("<lambda>" : Str))) ∈ TT := by rw [hTT]; simp
  have v1 : ∀ p ∈ TT, p.1 = pt1 → p.2 = ((("_law_is_walked" : Str) ++ (".<locals>." : Str)) ++ ("<lambda>" : Str)) := by
    intro p hp e
    rw [hTT] at hp
    simp only [List.mem_cons, List.not_mem_nil, or_false] at hp
    rcases hp with rfl | rfl | rfl
    · rfl
    · exact absurd e (Ne.symm n12)
    · exact absurd e (Ne.symm n13)
  have u2 : (pt2, ((("_law_strangers" : Str) ++ (".<locals>." : Str)) ++ ("<lambda>" : Str))) ∈ TT := by rw [hTT]; simp
  have v2 : ∀ p ∈ TT, p.1 = pt2 → p.2 = ((("_law_strangers" : Str) ++ (".<locals>." : Str)) ++ ("<lambda>" : Str)) := by
    intro p hp e
    rw [hTT] at hp
    simp only [List.mem_cons, List.not_mem_nil, or_false] at hp
    rcases hp with rfl | rfl | rfl
    · exact absurd e n12
    · rfl
    · exact absurd e (Ne.symm n23)
  have u3 : (pt3, ((("_law_faults" : Str) ++ (".<locals>." : Str)) ++ ("<lambda>" : Str))) ∈ TT := by rw [hTT]; simp
  have v3 : ∀ p ∈ TT, p.1 = pt3 → p.2 = ((("_law_faults" : Str) ++ (".<locals>." : Str)) ++ ("<lambda>" : Str)) := by
    intro p hp e
    rw [hTT] at hp
    simp only [List.mem_cons, List.not_mem_nil, or_false] at hp
    rcases hp with rfl | rfl | rfl
    · exact absurd e n13
    · exact absurd e n23
    · rfl
  refine ⟨PySem.W.fnOf "law" "law" (defArgs sLaw) (defBody sLaw) (defScope sLaw) .none kVLaw dcLaw pmLaw anLaw cdLaw ctLaw, [(cL1, pt1), (cL2, pt2), (cL3, pt3)], ?ps, ?bind, fun base _ _ TBs => ?run⟩
  case ps =>
    intro p hp
    simp only [List.mem_cons, List.not_mem_nil, or_false] at hp
    rcases hp with rfl | rfl | rfl
    · exact ⟨tab1.2, nT1, tab1.1⟩
    · exact ⟨tab2.2, nT2, tab2.1⟩
    · exact ⟨tab3.2, nT3, tab3.1⟩
  case bind => exact fun s v => .of_eq rfl
  case run =>
    have TB1 : TabB base mg cL1 pt1 := TBs (cL1, pt1) (by simp)
    have TB2 : TabB base mg cL2 pt2 := TBs (cL2, pt2) (by simp)
    have TB3 : TabB base mg cL3 pt3 := TBs (cL3, pt3) (by simp)
    have hps : ∀ p ∈ TT, ∃ r ∈ [(cL1, pt1), (cL2, pt2), (cL3, pt3)], r.2 = p.1 := by
      intro p hp
      rw [hTT] at hp
      simp only [List.mem_cons, List.not_mem_nil, or_false] at hp
      rcases hp with rfl | rfl | rfl
      · exact ⟨(cL1, pt1), by simp, rfl⟩
      · exact ⟨(cL2, pt2), by simp, rfl⟩
      · exact ⟨(cL3, pt3), by simp, rfl⟩
    let Oi : Own l.prog w K mg base "is_integer" 1 ["value"] (spIsInt K) := ⟨fIsInt, _, ok_IsInt FIsInt T, PySem.W.mg_of X G aIsInt, kIsInt, bIsInt⟩
    let On : Own l.prog w K mg base "is_number" 2 ["value"] (spIsNum K) := ⟨fIsNum, _, ok_IsNum FIsNum T Oi, PySem.W.mg_of X G aIsNum, kIsNum, bIsNum⟩
    let Ob : Own l.prog w K mg base "is_number_below" 3 ["value", "bound"] (spIsBelow K) := ⟨fIsBelow, _, ok_IsBelow FIsBelow T On, PySem.W.mg_of X G aIsBelow, kIsBelow, bIsBelow⟩
    let Os : Own l.prog w K mg base "is_sequence" 1 ["value"] (spIsSeq K) := ⟨fIsSeq, _, ok_IsSeq FIsSeq T, PySem.W.mg_of X G aIsSeq, kIsSeq, bIsSeq⟩
    let Osg : Own l.prog w K mg base "is_sign" 1 ["value", "signs"] (spIsSign K) := ⟨fIsSign, _, ok_IsSign FIsSign T, PySem.W.mg_of X G aIsSign, kIsSign, bIsSign⟩
    let Onr : OwnX l.prog w K mg base "need_row" 4 ["letters", "value"] (spNeedRow K CB) := ⟨fNeedRow, _, ok_NeedRow FNeedRow T TB Osg, PySem.W.mg_of X G aNeedRow, kNeedRow, bNeedRow⟩
    let Owk : Own l.prog w K mg base "walked" 1 ["machine", "state", "row"] (spWalked K C) := ⟨fWalked, _, ok_Walked FWalked T Mt, PySem.W.mg_of X G aWalked, kWalked, bWalked⟩
    let Ons : OwnMX l.prog w K mg base C "_need_state" 4 ["self", "value"] (spNeedSt K C CF) := ⟨fNeedSt, _, ok_NeedSt FNeedSt T Mt TF Ob, Mt.cl, ⟨aNeedSt, iNeedSt, kNeedSt⟩, bNeedSt⟩
    let Mp : OwnMX l.prog w K mg base C "step" 5 ["self", "state", "letter"] (spStep K C CF CL) := ⟨fStep, _, ok_Step FStep T Mt TL Osg Ons, Mt.cl, ⟨aStep, iStep, kStep⟩, bStep⟩
    have GMI : FnOk l.prog w K mg base (L2.CX l.prog w) 4 fMI _ ["self", "letters", "ways", "first"] (spMI K C CM) := ok_MI FMI T Mt TM Os Ob
    let Md : Made l.prog w K mg base C CM := ⟨fMI, _, ⟨mkr, aMI, iMI, kcr⟩, gC, GMI, FI⟩
    let Ms : OwnMX l.prog w K mg base C "started" 6 ["self", "state"] (spStarted K C CF) := ⟨fStarted, _, ok_Started FStarted T Mt Md.M gC GMI FI Ons, Mt.cl, ⟨aStarted, iStarted, kStarted⟩, bStarted⟩
    let Ma : OwnMX l.prog w K mg base C "after" 5 ["self", "row"] (spAfter K C CB) := ⟨fAfter, _, ok_After FAfter T Mt Onr Owk, Mt.cl, ⟨aAfter, iAfter, kAfter⟩, bAfter⟩
    let Mr : OwnMX l.prog w K mg base C "reads" 6 ["self", "row"] (spReads K C CB) := ⟨fReads, _, ok_Reads FReads T Mt Ma, Mt.cl, ⟨aReads, iReads, kReads⟩, bReads⟩
    let Mb : OwnMX l.prog w K mg base C "beginning" 5 ["self", "row"] (spBeg K C CB) := ⟨fBeg, _, ok_Beg FBeg T Mt Onr, Mt.cl, ⟨aBeg, iBeg, kBeg⟩, bBeg⟩
    let Eq : OwnG l.prog w K mg base C "__eq__" 1 ["self", "other"] (spMEq K C) := ⟨fEq, _, ok_Eq FEq T Mt It gC, aEq, iEq, bEq⟩
    let Ln : OwnG l.prog w K mg base C "__len__" 1 ["self"] (spLen K C) := ⟨fLen, _, ok_Len FLen T Mt, aLen, iLen, bLen⟩
    let Ode : Own l.prog w K mg base "_law_dealt" 1 ["script", "base"] (spDealt K) := ⟨fDealt, _, ok_Dealt FDealt T, PySem.W.mg_of X G aDealt, kDealt, bDealt⟩
    let Oan : Own l.prog w K mg base "_law_any" 1 ["deal", "bound"] spAny := ⟨fAny, _, ok_Any FAny T, PySem.W.mg_of X G aAny, kAny, bAny⟩
    let Oof : Own l.prog w K mg base "_law_of" 2 ["deal", "some"] spOf := ⟨fOf, _, ok_Of FOf T Oan, PySem.W.mg_of X G aOf, kOf, bOf⟩
    let OofS : Own l.prog w K mg base "_law_of" 2 ["deal", "some"] spOfS := ⟨fOf, _, ok_OfS FOf T Oan, PySem.W.mg_of X G aOf, kOf, bOf⟩
    let Ole : Own l.prog w K mg base "_law_letters" 2 ["deal"] spLetters := ⟨fLetters, _, ok_Letters FLetters T Oan, PySem.W.mg_of X G aLetters, kLetters, bLetters⟩
    let Owy : Own l.prog w K mg base "_law_ways" 2 ["deal", "states", "letters"] (spWays K) := ⟨fWays, _, ok_Ways FWays T Oan, PySem.W.mg_of X G aWays, kWays, bWays⟩
    let Olw : Own l.prog w K mg base "_law_walk" 1 ["letters", "ways", "state", "row"] (spLWalk K) := ⟨fLWalk, _, ok_LWalk FLWalk T, PySem.W.mg_of X G aLWalk, kLWalk, bLWalk⟩
    let Okp : OwnF l.prog w K mg base "_law_is_kept" 6 ["letters", "ways", "first"] (spKept K) := ⟨fKept, _, ok_Kept FKept T Mt It nf Md Eq Ln, PySem.W.mg_of X G aKept, kKept, bKept⟩
    let Oiw : OwnF l.prog w K mg base "_law_is_walked" 10 ["deal", "letters", "ways", "first"] (spIsW K TT) := ⟨fIsWalked, _, ok_IsW rfl u1 v1 lIsWalked cIsWalked T Mt ET TB1 Md Ma Mr Mb Ms Mp Oan Oof OofS Olw FRefused (PySem.W.mg_of X G aRefused) bRefused, PySem.W.mg_of X G aIsWalked, kIsWalked, bIsWalked⟩
    let Ost : Own l.prog w K mg base "_law_strangers" 10 ["deal", "letters", "ways"] (spStr K TT) := ⟨fStrange, _, ok_Str rfl u2 v2 lStrange cStrange T Mt ET TB2 Md Ma Mr Mb Ms Mp Oan Oof FRefused (PySem.W.mg_of X G aRefused) bRefused, PySem.W.mg_of X G aStrange, kStrange, bStrange⟩
    let Ofa : Own l.prog w K mg base "_law_faults" 10 ["deal", "letters", "ways"] (spFau K TT) := ⟨fFaults, _, ok_Fau rfl u3 v3 lFaults cFaults T ET BT TB3 Md Oan Oof FRefused (PySem.W.mg_of X G aRefused) bRefused, PySem.W.mg_of X G aFaults, kFaults, bFaults⟩
    exact ok_law FLaw T hps Md Ln Ode Oan Ole Owy Okp Oiw Ost Ofa
end My
set_option autoImplicit true
set_option Elab.async false
open PySem PySem.W PyProof.Rows
set_option maxRecDepth 100000 in
set_option maxHeartbeats 0 in
theorem PySem.Challenge.cw_rueless_k31_machines_made_and_walked_holds : PySem.Challenge.rw_rueless_k31_machines_made_and_walked.Holds := by
  w_on; o_law; k_head; (case hw => w_witness2)
  k_fill
  refine My.walkGTs (l := PySem.Challenge.rw_rueless_k31_machines_made_and_walked) (n := 63) (k := 11) (x := "script") (sp := fun K ps => My.spLaw K ps) rfl (by decide) rfl ⟨rfl, by decide, by decide⟩ (fun w h Y => PySem.W.km_in_of Y) ?F (fun K ps H a ns hl hp hS => ⟨a, ns, rfl, hS, hl, hp, fun _ => rfl⟩)
  case F =>
    intro w mg mb mean fa h KX G hmg
    refine' My.all_mk KX G.g hmg (fun ht => PySem.W.tab_of (x := "_law_is_walked") G KX ?hr1 ht) (fun ht => PySem.W.tab_of (x := "_law_strangers") G KX ?hr2 ht) (fun ht => PySem.W.tab_of (x := "_law_faults") G KX ?hr3 ht) ?aC ?aE ?aCM ?xLM ?xTM ?saM ?gaM ?ggM ?nbM ?a1M ?t1M ?l1M ?c1M ?kCM ?eCM ?tCM ?hCM ?iCM ?sCM ?aCB ?xLB ?xTB ?saB ?gaB ?ggB ?nbB ?a1B ?t1B ?l1B ?c1B ?kCB ?eCB ?tCB ?hCB ?iCB ?sCB ?aCF ?xLF ?xTF ?saF ?gaF ?ggF ?nbF ?a1F ?t1F ?l1F ?c1F ?kCF ?eCF ?tCF ?hCF ?iCF ?sCF ?aCL ?xLL ?xTL ?saL ?gaL ?ggL ?nbL ?a1L ?t1L ?l1L ?c1L ?kCL ?eCL ?tCL ?hCL ?iCL ?sCL ?sBM ?sFM ?sFB ?sLM ?sLB ?sLF ?sMF ?sMB ?sME ?vMF ?vMB ?vMM ?vCC ?vTC ?eCE ?tCE ?iCE ?haM ?hnO ?htO ?hmM ?haC ?hmC ?iCC ?tCC ?sTC ?aMI ?iMI ?lMI ?cMI ?kfMI ?aLen ?iLen ?lLen ?cLen ?kLen ?aEq ?iEq ?lEq ?cEq ?kEq ?aNeedSt ?iNeedSt ?lNeedSt ?cNeedSt ?kNeedSt ?aStep ?iStep ?lStep ?cStep ?kStep ?aStarted ?iStarted ?lStarted ?cStarted ?kStarted ?aAfter ?iAfter ?lAfter ?cAfter ?kAfter ?aReads ?iReads ?lReads ?cReads ?kReads ?aBeg ?iBeg ?lBeg ?cBeg ?kBeg ?aIsInt ?lIsInt ?cIsInt ?kIsInt ?aIsNum ?lIsNum ?cIsNum ?kIsNum ?aIsBelow ?lIsBelow ?cIsBelow ?kIsBelow ?aIsSeq ?lIsSeq ?cIsSeq ?kIsSeq ?aIsSign ?lIsSign ?cIsSign ?kIsSign ?aNeedRow ?lNeedRow ?cNeedRow ?kNeedRow ?aWalked ?lWalked ?cWalked ?kWalked ?aDealt ?lDealt ?cDealt ?kDealt ?aAny ?lAny ?cAny ?kAny ?aOf ?lOf ?cOf ?kOf ?aLetters ?lLetters ?cLetters ?kLetters ?aWays ?lWays ?cWays ?kWays ?aRefused ?lRefused ?cRefused ?kRefused ?aKept ?lKept ?cKept ?kKept ?aLWalk ?lLWalk ?cLWalk ?kLWalk ?aIsWalked ?lIsWalked ?cIsWalked ?kIsWalked ?aStrange ?lStrange ?cStrange ?kStrange ?aFaults ?lFaults ?cFaults ?kFaults ?aLaw ?lLaw ?cLaw ?kLaw ?lcL1 ?hvL1 ?nT1 ?lcL2 ?hvL2 ?nT2 ?lcL3 ?hvL3 ?nT3 ?n12 ?n13 ?n23 ?pgr ?hdr ?por ?sar ?mkr ?kcr ?nr0 ?nr1 ?nr2 ?kd1 ?g_LE ?g_ML ?g_MS ?r_LE ?r_ML ?r_MS ?z_int ?z_bool ?z_str ?z_len ?z_abs ?z_tuple ?z_list ?z_range ?z_enumerate ?z_repr ?z_all ?z_isinstance
    (case hr1 => rfl)
    (case hr2 => rfl)
    (case hr3 => rfl)
    (case aC => k_is)
    (case aE => k_is)
    (case aCM => k_is)
    (case xLM => k_is)
    (case xTM => first | rfl | decide +kernel | k_is)
    (case saM => k_is)
    (case gaM => k_is)
    (case ggM => k_is)
    (case nbM => k_is)
    (case a1M => k_is)
    (case t1M => k_is)
    (case l1M => k_is)
    (case c1M => k_is)
    (case kCM => k_is)
    (case eCM => k_is)
    (case tCM => k_is)
    (case hCM => k_is)
    (case iCM => k_is)
    (case sCM => first | rfl | k_is)
    (case aCB => k_is)
    (case xLB => k_is)
    (case xTB => first | rfl | decide +kernel | k_is)
    (case saB => k_is)
    (case gaB => k_is)
    (case ggB => k_is)
    (case nbB => k_is)
    (case a1B => k_is)
    (case t1B => k_is)
    (case l1B => k_is)
    (case c1B => k_is)
    (case kCB => k_is)
    (case eCB => k_is)
    (case tCB => k_is)
    (case hCB => k_is)
    (case iCB => k_is)
    (case sCB => first | rfl | k_is)
    (case aCF => k_is)
    (case xLF => k_is)
    (case xTF => first | rfl | decide +kernel | k_is)
    (case saF => k_is)
    (case gaF => k_is)
    (case ggF => k_is)
    (case nbF => k_is)
    (case a1F => k_is)
    (case t1F => k_is)
    (case l1F => k_is)
    (case c1F => k_is)
    (case kCF => k_is)
    (case eCF => k_is)
    (case tCF => k_is)
    (case hCF => k_is)
    (case iCF => k_is)
    (case sCF => first | rfl | k_is)
    (case aCL => k_is)
    (case xLL => k_is)
    (case xTL => first | rfl | decide +kernel | k_is)
    (case saL => k_is)
    (case gaL => k_is)
    (case ggL => k_is)
    (case nbL => k_is)
    (case a1L => k_is)
    (case t1L => k_is)
    (case l1L => k_is)
    (case c1L => k_is)
    (case kCL => k_is)
    (case eCL => k_is)
    (case tCL => k_is)
    (case hCL => k_is)
    (case iCL => k_is)
    (case sCL => first | rfl | k_is)
    (case sBM => first | rfl | k_is)
    (case sFM => first | rfl | k_is)
    (case sFB => first | rfl | k_is)
    (case sLM => first | rfl | k_is)
    (case sLB => first | rfl | k_is)
    (case sLF => first | rfl | k_is)
    (case sMF => first | rfl | k_is)
    (case sMB => first | rfl | k_is)
    (case sME => first | rfl | k_is)
    (case vMF => first | rfl | decide +kernel)
    (case vMB => first | rfl | decide +kernel)
    (case vMM => first | rfl | decide +kernel)
    (case vCC => first | rfl | decide +kernel)
    (case vTC => first | rfl | decide +kernel)
    (case eCE => k_is)
    (case tCE => k_is)
    (case iCE => k_is)
    (case haM => k_is)
    (case hnO => k_is)
    (case htO => k_is)
    (case hmM => k_is)
    (case haC => k_is)
    (case hmC => k_is)
    (case iCC => k_is)
    (case tCC => k_is)
    (case sTC => first | rfl | k_is)
    (case aMI => k_is)
    (case iMI => k_is)
    (case lMI => k_is)
    (case cMI => k_is)
    (case kfMI => k_is)
    (case aLen => k_is)
    (case iLen => k_is)
    (case lLen => k_is)
    (case cLen => k_is)
    (case kLen => k_is)
    (case aEq => k_is)
    (case iEq => k_is)
    (case lEq => k_is)
    (case cEq => k_is)
    (case kEq => k_is)
    (case aNeedSt => k_is)
    (case iNeedSt => k_is)
    (case lNeedSt => k_is)
    (case cNeedSt => k_is)
    (case kNeedSt => k_is)
    (case aStep => k_is)
    (case iStep => k_is)
    (case lStep => k_is)
    (case cStep => k_is)
    (case kStep => k_is)
    (case aStarted => k_is)
    (case iStarted => k_is)
    (case lStarted => k_is)
    (case cStarted => k_is)
    (case kStarted => k_is)
    (case aAfter => k_is)
    (case iAfter => k_is)
    (case lAfter => k_is)
    (case cAfter => k_is)
    (case kAfter => k_is)
    (case aReads => k_is)
    (case iReads => k_is)
    (case lReads => k_is)
    (case cReads => k_is)
    (case kReads => k_is)
    (case aBeg => k_is)
    (case iBeg => k_is)
    (case lBeg => k_is)
    (case cBeg => k_is)
    (case kBeg => k_is)
    (case aIsInt => k_is)
    (case lIsInt => k_is)
    (case cIsInt => k_is)
    (case kIsInt => k_is)
    (case aIsNum => k_is)
    (case lIsNum => k_is)
    (case cIsNum => k_is)
    (case kIsNum => k_is)
    (case aIsBelow => k_is)
    (case lIsBelow => k_is)
    (case cIsBelow => k_is)
    (case kIsBelow => k_is)
    (case aIsSeq => k_is)
    (case lIsSeq => k_is)
    (case cIsSeq => k_is)
    (case kIsSeq => k_is)
    (case aIsSign => k_is)
    (case lIsSign => k_is)
    (case cIsSign => k_is)
    (case kIsSign => k_is)
    (case aNeedRow => k_is)
    (case lNeedRow => k_is)
    (case cNeedRow => k_is)
    (case kNeedRow => k_is)
    (case aWalked => k_is)
    (case lWalked => k_is)
    (case cWalked => k_is)
    (case kWalked => k_is)
    (case aDealt => k_is)
    (case lDealt => k_is)
    (case cDealt => k_is)
    (case kDealt => k_is)
    (case aAny => k_is)
    (case lAny => k_is)
    (case cAny => k_is)
    (case kAny => k_is)
    (case aOf => k_is)
    (case lOf => k_is)
    (case cOf => k_is)
    (case kOf => k_is)
    (case aLetters => k_is)
    (case lLetters => k_is)
    (case cLetters => k_is)
    (case kLetters => k_is)
    (case aWays => k_is)
    (case lWays => k_is)
    (case cWays => k_is)
    (case kWays => k_is)
    (case aRefused => k_is)
    (case lRefused => k_is)
    (case cRefused => k_is)
    (case kRefused => k_is)
    (case aKept => k_is)
    (case lKept => k_is)
    (case cKept => k_is)
    (case kKept => k_is)
    (case aLWalk => k_is)
    (case lLWalk => k_is)
    (case cLWalk => k_is)
    (case kLWalk => k_is)
    (case aIsWalked => k_is)
    (case lIsWalked => k_is)
    (case cIsWalked => k_is)
    (case kIsWalked => k_is)
    (case aStrange => k_is)
    (case lStrange => k_is)
    (case cStrange => k_is)
    (case kStrange => k_is)
    (case aFaults => k_is)
    (case lFaults => k_is)
    (case cFaults => k_is)
    (case kFaults => k_is)
    (case aLaw => k_is)
    (case lLaw => k_is)
    (case cLaw => k_is)
    (case kLaw => k_is)
    (case lcL1 => k_is)
    (case hvL1 => rfl)
    (case nT1 => first | rfl | k_is)
    (case lcL2 => k_is)
    (case hvL2 => rfl)
    (case nT2 => first | rfl | k_is)
    (case lcL3 => k_is)
    (case hvL3 => rfl)
    (case nT3 => first | rfl | k_is)
    (case n12 => decide)
    (case n13 => decide)
    (case n23 => decide)
    (case pgr => k_is)
    (case hdr => k_is)
    (case por => k_is)
    (case sar => k_is)
    (case mkr => k_is)
    (case kcr => k_is)
    (case nr0 => k_is)
    (case nr1 => k_is)
    (case nr2 => k_is)
    (case kd1 => k_is)
    (case g_LE => k_is)
    (case g_ML => k_is)
    (case g_MS => k_is)
    (case r_LE => first | exact ⟨_, rfl⟩ | rfl)
    (case r_ML => exact ⟨_, rfl⟩)
    (case r_MS => exact ⟨_, rfl⟩)
    (case z_int => k_is)
    (case z_bool => k_is)
    (case z_str => k_is)
    (case z_len => k_is)
    (case z_abs => k_is)
    (case z_tuple => k_is)
    (case z_list => k_is)
    (case z_range => k_is)
    (case z_enumerate => k_is)
    (case z_repr => k_is)
    (case z_all => k_is)
    (case z_isinstance => k_is)
#print axioms PySem.Challenge.cw_rueless_k31_machines_made_and_walked_holds
