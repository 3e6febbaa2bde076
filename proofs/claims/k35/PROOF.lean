import PyProof.Rows.All
import Wide.All
import OpenK.AllK
import Wide.FinOn
import KE.GoesEnum
import HandS.ForMost
import HandS.Zip
import HandS.Walk
import HandS.Evl
import HandS.SortKw
import HandS.MakeKwOnly
import HandS.Conv
import HandS.TupLe
import HandS.TupAny
import KE.DataMinMax
import HandS.Codes
import HandS.TupSets
import HandS.More
import KE.KDictSum
import HandS.DictTup
import KE.KDictCopyH
import HandS.Deep
import HandS.ForExc
import KE.KExcInit
import HandS.EndTab
import KE.GoesMore
import HandS.IsInst
import HandS.Style
import HandS.Steps
import HandS.Lambda
import HandS.Defaults
import PySem.Challenge.RW_rueless_k35_rows_counted
set_option autoImplicit true
set_option maxHeartbeats 2000000
set_option Elab.async false
set_option linter.all false
set_option maxRecDepth 100000
set_option maxHeartbeats 2000000
/-! enumerate over a tuple -/
namespace My
open PySem PySem.Spec PyProof.Rows L2
section
variable {prog : Program} {w : World} {A : Around} {E : Value → Shared → Prop} {s : Shared}
theorem drawsTup (hh : A.handled = none) (it l : Addr) (hne : l ≠ it) (items : Array Value) :
    Draws prog w A it [it, l] items.size (fun i v => items[i]? = some v) (fun i h => h.IsTupleIter it l i ∧ h.IsTuple l items) := by
  refine ⟨fun i h st => ?_, fun i h h' st hk => ?_, fun i s Q E hi st hQ => ?_, fun s Q E st hE => ?_⟩
  · obtain ⟨⟨o, ho, _⟩, _⟩ := st
    exact ⟨o, ho⟩
  · exact ⟨st.1.at fun o e => hk it (by simp) o e, st.2.at fun o e => hk l (by simp) o e⟩
  · have hx : items[i]? = some items[i] := by simp [hi]
    refine RZ.nextOf_tuple_item st.1 st.2 hx fun h' hit' sb => ?_
    exact hQ _ h' s.toks hx ⟨hit', st.2.at fun o e => (sb.2 l hne).trans e⟩ sb
  · exact RZ.nextOf_tuple_end hh st.1 st.2 (by simp) hE
theorem meetsEnumT {v : Value} {o : Obj} {Hh : Heap → Prop} (B : Begins v o Hh) :
    Meets (Builtin.«enumerate.__new__» ⟨[.type "enumerate", v], []⟩) (fun _ R s => Hh s.heap ∧
      R (.ok (.ret (.ref (s.heap.push o).objs.size))) { s with heap := (s.heap.push o).push { cls := .type "enumerate", data := .fields #[.none, .bool false, .ref s.heap.objs.size, rawInt 0, .none, .none] } }) :=
  .of_wp fun prog w A R s hyp => by
    obtain ⟨hp, g, d, tk, os⟩ := s
    obtain ⟨h1, hR⟩ := hyp
    have hsub := sub_enumerate
    have it1 : ∀ {A' : Around} {E : Value → Shared → Prop} {Q : Value → Shared → Prop}, Q (.ref hp.objs.size) ⟨hp.push o, g, d, tk, os⟩ → wpAny (model prog w) A' (pyIter v) Q E ⟨hp, g, d, tk, os⟩ :=
      fun q => B.iter prog w _ _ ⟨hp, g, d, tk, os⟩ _ h1 q
    wp_walk using it1
    refine wpAny_stack_any fun st => wpAny_pure ?_
    split
    · rename_i c _ _ _ _ _
      cases (c == Value.type "enumerate") <;> (wp_walk using it1; exact ⟨_, rfl, hR⟩)
    · wp_walk using it1
      exact ⟨_, rfl, hR⟩
theorem callEnumT {v : Value} {o : Obj} {Hh : Heap → Prop} {Q : Value → Shared → Prop} (B : Begins v o Hh) (h1 : Hh s.heap)
    (k : ∀ h', IsEnum h' (s.heap.objs.size + 1) s.heap.objs.size 0 .none → h'.get? s.heap.objs.size = some o →
      (∀ b o, s.heap.get? b = some o → h'.get? b = some o) → Q (.ref (s.heap.objs.size + 1)) { s with heap := h' }) :
    wpAny (model prog w) A (call (.type "enumerate") [v]) Q E s := by
  refine callType_new F.called_enumerate (by decide) (F.typeCall_enumerate_1 _) (F.newCall_enumerate_1 _) (fun obj => F.args_object_init_2 obj _) F.entry_enumerate_new (meetsEnumT B) ⟨h1, ?_⟩
  have sz : (s.heap.push o).objs.size = s.heap.objs.size + 1 := Heap.size_push ..
  show _ ∧ _
  rw [sz]
  have he := Heap.get?_push_size (s.heap.push o) (o := { cls := .type "enumerate", data := .fields #[.none, .bool false, .ref s.heap.objs.size, rawInt 0, .none, .none] }) rfl
  rw [sz] at he
  exact ⟨⟨_, he, rfl⟩, k _ he (Heap.get?_push_of_some _ (Heap.get?_push_size _ B.free)) fun b u q => Heap.get?_push_of_some _ (Heap.get?_push_of_some _ q)⟩
end
/-- a tuple's items, each in a new pair with its number -/
def IteT (K : PySem.W.Frag) (a : Addr) : It :=
  ⟨fun i H => ∃ (xs : List V) (x : V), SqT K H a xs ∧ xs[i]? = some x,
   fun i H v H' => ∃ T x, v = .ref T ∧ H T = none ∧ H' = upd H T (.tup [.int (i : Nat), x]) ∧ ∀ xs, SqT K H a xs → xs[i]? = some x,
   fun i H => ∃ xs : List V, SqT K H a xs ∧ xs.length ≤ i⟩
theorem turnEnumT {P : Program} {w : World} {K : PySem.W.Frag} {elts : List Expr} {kk : Nat} {tpos : Pos} (a e it : Addr) :
    Turn P w K (.Tuple elts kk tpos) (IteT K a) [e, it] e (fun i h => (∃ old, IsEnum h e it ((i : Nat) : Int) old) ∧ h.IsTupleIter it a i ∧ e ≠ it ∧ a ≠ it ∧ a ≠ e) where
  mem := by simp
  obj := fun i h st b hb => by
    obtain ⟨⟨old, he⟩, ⟨o, ho, _, hd⟩, _⟩ := st
    rcases (by simpa using hb : b = e ∨ b = it) with z | z
    · rw [z]
      exact ⟨_, he, fun v q => nomatch q⟩
    · rw [z]
      exact ⟨o, ho, fun v q => by rw [hd] at q; cases q⟩
  keep := fun i h h' st k => by
    obtain ⟨⟨old, he⟩, hi, n1, n2, n3⟩ := st
    exact ⟨⟨old, k e (by simp) _ he⟩, hi.at fun o q => k it (by simp) o q, n1, n2, n3⟩
  item := by
    intro X hP hw hK hc i pins s σ H E I hf st hg
    subst hP hw hK
    obtain ⟨⟨old, he⟩, hit, hne, hna, hnae⟩ := st
    obtain ⟨xs, x, hq, hx⟩ := hg
    obtain ⟨its, rv, p, _⟩ := I.tuple hq
    obtain ⟨u, hu, ru⟩ := rv.get hx
    have lt1 : e < s.heap.objs.size := Heap.lt_size he
    have lt2 : it < s.heap.objs.size := by
      obtain ⟨_, q, _⟩ := hit
      exact Heap.lt_size q
    have hui : its.toArray[i]? = some u := by simpa using hu
    have hlt : i < its.toArray.size := by
      obtain ⟨h1, _⟩ := Array.getElem?_eq_some_iff.mp hui
      exact h1
    refine wpAny_pyNext_enum_itemD (drawsTup (A := X.A.in1) (I.ok.hd hc) it a hna its.toArray) he ⟨hit, p⟩ hlt hne (by simp [hne, Ne.symm hnae]) fun u' h' tk hu' ho st' hT sz hk => ?_
    have eu : u' = u := Option.some.inj (hu'.symm.trans hui)
    subst eu
    refine ⟨_, rfl, wpAny_letOwnedTupleGo_enum (s := { s with heap := h', toks := tk + 1 }) ho fun h'' he' sb => ?_⟩
    have hT2 : h''.get? s.heap.objs.size = some { cls := .type "tuple", data := .seq #[.int i tk, u'] } := (sb.2 _ (Nat.ne_of_gt lt1)).trans hT
    have new : ObjOk X.prog X.w (upd H s.heap.objs.size (.tup [.int (i : Nat), x])) h'' s.heap.objs.size (.tup [.int (i : Nat), x]) :=
      ⟨by show 2 ≤ sizeLine; decide, [.int i tk, u'], .cons ⟨_, rfl⟩ (.cons ru .nil), ⟨_, hT2, rfl, _, rfl⟩⟩
    have I1 : Inv X pins σ (upd H s.heap.objs.size (.tup [.int (i : Nat), x])) { s with heap := h'', toks := tk + 1 } :=
      I.turnedNew (ch := [e, it]) (fun b ob hb q => (sb.2 b (fun z => hb (by simp [z]))).trans (hk b ob (fun z => hb (by simp [z])) (fun z => hb (by simp [z])) q)) hf (Nat.le_refl _) new
    refine ⟨.ref s.heap.objs.size, _, I1, rfl, ⟨_, x, rfl, I.hok.fresh (Nat.le_refl _), rfl, fun ys hy => by rw [I.tuple_inj hy hq]; exact hx⟩, ⟨⟨u', ?_⟩, st'.1.at fun o q => (sb.2 it (Ne.symm hne)).trans q, hne, hna, hnae⟩, fun b hb => ?_⟩
    · have e1 : ((i + 1 : Nat) : Int) = (i : Int) + 1 := by omega
      rw [e1]
      exact he'
    · have lt3 : b < s.heap.objs.size := by
        rcases (by simpa using hb : b = e ∨ b = it) with z | z
        · rw [z]; exact lt1
        · rw [z]; exact lt2
      rw [upd_ne (Nat.ne_of_lt lt3)]
      exact (hf b hb).1
  done := by
    intro X hP hw hK hc i pins s σ H E I hf st hg
    subst hP hw hK
    obtain ⟨⟨old, he⟩, hit, hne, hna, hnae⟩ := st
    obtain ⟨xs, hq, hx⟩ := hg
    obtain ⟨its, rv, p, _⟩ := I.tuple hq
    obtain ⟨f0, f1, f2, f3, f4, f5⟩ := hf it (by simp)
    have hl := rv.length
    have hcase : its.toArray[i]? = none := by
      rw [Array.getElem?_eq_none_iff]
      simp
      omega
    unfold pyNext
    have hTy : s.TypeIs (.ref e) "enumerate" := ⟨_, he, rfl⟩
    refine wpAny_bind (wpAny_attempt (wpAny_callSpecial?_slot (name := Str.ofString "__next__") hTy F.slot_enumerate_next
      (wpAny_call_entry F.slot_enumerate_next hTy F.entry_enumerate_next ?_ (F.args_enumerate_next_1 _))))
    show wpAny _ _ (field (.ref e) 2 >>= _) _ _ _
    refine wpAny_bind (wpAny_field he rfl (x := .ref it) rfl ?_)
    refine wpAny_bind (RZ.nextOf_tuple_end (show X.A.in1.handled = none from I.ok.hd hc) hit p hcase fun h' x he' hx' => ?_)
    obtain ⟨o, ho, hcl⟩ := hx'
    refine wpAny_bind (wpAny_isInstance (T := "StopIteration") (b := true) ⟨o, ho, hcl⟩ isSubtype_stop ?_)
    exact wpAny_pure ⟨rfl, I.turned (t' := s.toks) (fun b o hb q => he' b o hb q) f0 f1 f3 f4 f5⟩
  self := fun A i s Q E st h => by
    obtain ⟨⟨_, he⟩, _⟩ := st
    exact wpAny_pyIter_enum he h
def iEnumT (K : PySem.W.Frag) (ta : TA) : TI := fun σ H R => ta σ H fun vs H1 => ∃ a xs, vs = [.ref a] ∧ SqT K H1 a xs ∧ R (IteT K a) H1
theorem pi_enumT {X : Cx} {e : Expr} {ta : TA} {p pos tpos : Pos} {elts : List Expr} {kk : Nat} (hg : Gl X "enumerate") (hm : X.mg "enumerate" = none) (ha : PA X [e] ta) (hs : starEach [e] X.env = [(false, eval e X.env)] := by rfl) :
    PI X (.Tuple elts kk tpos) (.Call (.Name "enumerate" p) [e] [] pos) (iEnumT X.K ta) := by
  refine ⟨fun pins s σ H R I h => ?_⟩
  refine Call_ (ld_blt I hg hm boot_enumerate (PyProof.Rows.callWith_type1 (thn (ha.run pos pins s σ H _ I h) fun us s1 ⟨vs, H1, I1, r1, q1⟩ => ?_) hs rfl))
  obtain ⟨a, xs, ex, hq, q⟩ := q1
  subst ex
  cases r1 with
  | cons r rr =>
    cases rr
    cases r
    obtain ⟨its, rv, p', _⟩ := I1.tuple hq
    have la : a < s1.heap.objs.size := by
      obtain ⟨_, q0, _⟩ := p'
      exact Heap.lt_size q0
    refine callEnumT (begins_tuple a its.toArray) p' fun h' he hit hk => wpAny_pyIter_enum he ?_
    have I2 : Inv X pins σ H1 { s1 with heap := h' } := I1.kept (t' := s1.toks) hk
    refine ⟨s1.heap.objs.size + 1, [s1.heap.objs.size + 1, s1.heap.objs.size], _, _, H1, rfl, I2, turnEnumT a (s1.heap.objs.size + 1) s1.heap.objs.size, ⟨⟨.none, he⟩, ⟨_, hit, rfl, rfl⟩, Nat.succ_ne_self _, Nat.ne_of_lt la, Nat.ne_of_lt (Nat.lt_succ_of_lt la)⟩, fun b hb => ?_, q⟩
    have hle : s1.heap.objs.size ≤ b := by
      rcases (by simpa using hb : b = s1.heap.objs.size + 1 ∨ b = s1.heap.objs.size) with z | z
      · rw [z]; exact Nat.le_add_right _ _
      · rw [z]; exact Nat.le_refl _
    exact I1.fpOk hle (I1.hok.fresh hle)
theorem walk_enumT {K : PySem.W.Frag} {a : Addr} {xs : List V} : Walk (IteT K a) xs.length (fun H => SqT K H a xs) (YPair (fun i => some (.int (i : Nat))) (fun i => xs[i]?)) := by
  refine ⟨fun i H hi q => ⟨xs, _, q, List.getElem?_eq_getElem hi⟩, fun H q => ⟨xs, q, Nat.le_refl _⟩, fun i H x H' hi q y => ?_⟩
  obtain ⟨T, x', rfl, hT, rfl, f⟩ := y
  exact ⟨T, _, x', rfl, hT, rfl, rfl, f xs q⟩
end My
set_option autoImplicit true
set_option maxHeartbeats 2000000
set_option Elab.async false
set_option linter.all false
set_option maxRecDepth 100000
set_option maxHeartbeats 2000000
/-! rules that the layer lacks: an item read for xs[i] op= e, max with a default, repr of data, a def that runs where nothing is guarded -/
namespace My
open PySem PySem.Spec PyProof.Rows L2
section
variable {X : Cx}
/-- xs[i] of a tracked list, i a place -/
def gL : V → V → Hp → VK → Prop := fun o i H Q => ∃ (p : Addr) (xs : List V) (j : Nat) (v : V), o = .ref p ∧ i = .int (j : Int) ∧ H p = some (.lst xs) ∧ xs[j]? = some v ∧ Q v H
theorem pgetL : PGet X gL := by
  intro pins s σ H o i ov iv Q I ro ri h
  obtain ⟨p, xs, j, v, rfl, rfl, hp, hx, q⟩ := h
  cases ro
  obtain ⟨t, rfl⟩ := ri
  obtain ⟨its, rv, pl, hz⟩ := I.list (SqL.of (K := X.K) hp)
  obtain ⟨u, hu, ru⟩ := rv.get hx
  have hj : j < xs.length := (List.getElem?_eq_some_iff.mp hx).1
  have line : (sizeLine : Int) < 2 ^ 63 := by decide
  have hi : its.toArray[(j : Int).toNat]? = some u := by simpa using hu
  exact wpAny_getItem_list pl.isList (Int.natCast_nonneg j) (by omega) hi ⟨v, H, I, ru, q⟩
/-- max(xs, default=d) of ints -/
def rMaxD (K : PySem.W.Frag) : List V → List V → Hp → VK → Prop := fun xs zs H Q => ∃ (a : Addr) (ns : List Int) (d : Int), xs = [.ref a] ∧ zs = [.int d] ∧ SqL K H a (ns.map V.int) ∧
  Q (.int (match ns with | [] => d | n :: r => r.foldl max n)) H
theorem dpInts {K : PySem.W.Frag} {H : Hp} : ∀ ns : List Int, DpAll K H (ns.map V.int) (ns.map PyData.int)
  | [] => .nil
  | n :: r => .cons (.int n) (dpInts r)
theorem alikeInts (ns : List Int) : PySem.W.AlikeAll (ns.map PyData.int) := by
  refine ⟨fun x hx y hy => ?_, fun x hx e => ?_⟩
  · obtain ⟨i, _, rfl⟩ := List.mem_map.mp hx
    obtain ⟨j, _, rfl⟩ := List.mem_map.mp hy
    rfl
  · obtain ⟨i, _, rfl⟩ := List.mem_map.mp hx
    cases e
theorem depthInts : ∀ ns : List Int, PyData.depthAll (ns.map PyData.int) = 0
  | [] => rfl
  | n :: r => by
    show max (PyData.depth (.int n)) (PyData.depthAll (r.map PyData.int)) = 0
    rw [depthInts r]
    rfl
theorem cr_maxD (hc : X.calm = true) (hu : X.A.units + 64 < cLine) : CallRK X (.builtin "max") ["default"] (rMaxD X.K) := by
  intro pins s σ H xs zs us ws Q I r rz h
  obtain ⟨a, ns, d, rfl, rfl, hs, q⟩ := h
  obtain ⟨u, rfl, t, rfl⟩ := vals1 rz
  obtain ⟨its, rv, pl, _⟩ := I.list hs
  rw [Vals.ref1 r]
  obtain ⟨as, hr⟩ := Dp.readsAll I _ _ its (dpInts ns) rv
  refine PySem.W.max_list_default (I.ok.hd hc) pl.isList (by simpa using hr) (alikeInts ns) (by rw [depthInts]; omega) (fun e h' tk hk => ?_) (fun y ys i v h' tk bs e hv hrd hk => ?_)
  · have e0 : ns = [] := by simpa using e
    subst e0
    exact ⟨.int d, H, I.kept hk, ⟨_, rfl⟩, q⟩
  · cases ns with
    | nil => cases e
    | cons n r0 =>
      injection e with e1 e2
      subst e1 e2
      rw [PySem.W.maxD_ints] at hrd
      cases hrd
      exact ⟨.int _, H, I.kept hk, ⟨_, rfl⟩, q⟩
/-- repr of data -/
def rRepr (K : PySem.W.Frag) : List V → Hp → VK → Prop := fun xs H Q => ∃ (v : V) (d : PyData), xs = [v] ∧ Dp K H v d ∧ isDisplay d = true ∧ d.showable = true ∧ d.hasDict = false ∧ d.depth ≤ 60 ∧ d.shown.length ≤ sizeLine ∧ Q (.str d.shown) H
theorem cr_repr (hg : X.A.guards = some []) (hu : X.A.units + 64 < cLine) : CallR X (.builtin "repr") (rRepr X.K) := by
  intro pins s σ H xs us Q I r h
  obtain ⟨v, d, rfl, hd, hdis, hsh, hnd, hdep, hlen, q⟩ := h
  obtain ⟨u, rfl, ru⟩ := vals1 r
  obtain ⟨as, rd⟩ := Dp.reads I d v u hd ru
  obtain ⟨a, rfl⟩ := isRef_of_reads rd hdis
  exact repr_of_reads' rd hsh (PyData.noDict_hsm hnd) hg (by omega) (fun _ _ e => e) (fun h' t tk hk => ⟨.str d.shown, H, I.kept hk, ⟨_, rfl⟩, q⟩) hlen
end
end My
set_option autoImplicit true
set_option maxHeartbeats 2000000
set_option Elab.async false
set_option linter.all false
set_option maxRecDepth 100000
set_option maxHeartbeats 2000000
/-! a def that is run where no guard stands (repr asks it): its promise, its call, the end of a law's row -/
namespace My
open PySem PySem.Spec PyProof.Rows L2
/-- as FnOk, asked only where no guard stands around -/
structure FnG (P : Program) (w : World) (K : PySem.W.Frag) (mg : Str → Option Value) (base : Heap) (CX : CXT) (k : Nat) (f : Addr) (fd : FuncData) (ps : List Str) (sp : Sp) : Prop where
  len : ∀ vs H Q E, sp vs H Q E → vs.length = ps.length
  run : ∀ (A : Around) (outer : List Env) (s : Shared) (H : Hp) (args : Args) (us : List Value) (vs : List V) (Q : VK) (E : XK), A.guards = some [] → Room k A → Env0 P w K mg base A outer s H → BindsTo s fd args (ps.zip us) → Vals vs us →
    sp vs H Q E → codeAny (model P w) A (.call (.ref f) args) (CR CX outer P w H s Q E) s
section
variable {P : Program} {w : World} {K : PySem.W.Frag} {mg : Str → Option Value} {base : Heap}
theorem okG {x qual : Str} {st : Stmt} {f : Addr} {fd : FuncData} {N ps : List Str} {k : Nat} {sp : Sp} (F : Fun K x qual st f fd) (S : FnScope N ps (defScope st)) (len : ∀ vs H Q E, sp vs H Q E → vs.length = ps.length)
    (hbody : ∀ (cdv : Value) (A : Around) (outer : List Env) (s : Shared) (H : Hp) (vs : List V) (Q : VK) (E : XK), A.guards = some [] → Room k (A.deeper (envOfC qual (defScope st) s.heap.objs.size f cdv)) → sp vs H Q E →
      ∃ t, PSs (cxOf CX0 P w K mg base N qual (defScope st) f cdv A outer s H E).nox (defBody st) t ∧ t { nx := fun _ H' => Q .non H', rt := Q } (start N vs) H) : FnG P w K mg base CX0 (k + 1) f fd ps sp := by
  obtain ⟨oc, od, kV, doc, pm, an, cdv, ct, osl, rfl, lk, hcd⟩ := F.ex
  refine ⟨len, fun A outer s H args us vs Q E gd hr e0 hb r hsp => ?_⟩
  have same := e0.bs
  have KX : K.In s.heap := e0.mod.kin.keeps fun b o e => (same b o e).1
  have lim : s.heap.NoLimit := e0.mod.nolimit.keeps fun b o e => (same b o e).1
  have nl := len _ _ _ _ hsp
  have kinds : ∀ y ∈ ps.zip us, (defScope st).names.lookup y.1 = some .local ∨ ((defScope st).names.lookup y.1 = some .cell ∧ ((cellsFrom (s.heap.objs.size + 1) (defScope st).names []).lookup y.1).isSome = true) := by
    rintro ⟨n, v⟩ hy
    have hn := S.par n (List.of_mem_zip hy).1
    exact hn.imp id fun q => ⟨q, PySem.W.cellsFrom_some _ _ _ (.inl q)⟩
  refine codeAny_call_function hr.depth (KX _ _ lk) rfl S.co S.gen rfl (PySem.W.codeRec_of KX hcd) (hb _ _ _ _ ?_)
  refine wpAny_newFunctionEnv_cells S.kind kinds fun env he s1 x => ?_
  subst he
  refine ⟨lim.keeps x.toInCall.keep, codeAny_func ?_⟩
  obtain ⟨t, ht, hq⟩ := hbody cdv A outer s H vs Q E gd (hr.deeper _) hsp
  have I : Inv (cxOf CX0 P w K mg base N qual (defScope st) f cdv A outer s H E) [] (start N vs) H s1 := inv_start S hr.hd e0 nl r x
  refine wpAny_mono (ht.nox.run [] s1 (start N vs) H _ I hq) (fun fl s' hs => ?_) fun e s' hs => hs
  cases fl with
  | ret u =>
    obtain ⟨v, σ', H', J, rv, q⟩ := hs
    exact ⟨v, H', J.os, J.bare, J.base, J.hok, rv, q⟩
  | next =>
    obtain ⟨σ', H', J, q⟩ := hs
    exact ⟨.non, H', J.os, J.bare, J.base, J.hok, rfl, q⟩
  | brk =>
    obtain ⟨_, _, _, q⟩ := hs
    exact q.elim
  | cont =>
    obtain ⟨_, _, _, q⟩ := hs
    exact q.elim
end
section
variable {X : Cx} {CX : CXT} {k : Nat} {f : Addr} {fd : FuncData} {ps : List Str} {sp : Sp} {dvs : List V} {ds : List Value} {E : XK} {x : Str} {p pos : Pos} {e : Expr} {es : List Expr} {t : TA}
theorem runG {pins : List (Addr × Obj)} {σ : L2.St} {H : Hp} {s : Shared} {Q : VK} {us : List Value} {vs : List V} (F : FnG X.prog X.w X.K X.mg X.base CX k f fd ps sp) (gd : X.A.guards = some []) (hr : Room k X.A) (hb : Binds X.K fd ps ds) (hd : Vals dvs ds)
    (hx : Passes CX X E) (I : Inv X pins σ H s) (r : Vals vs us) (h : sp (vs ++ dvs) H Q E) : wpAny (model X.prog X.w) X.A (call (.ref f) us) (EP X pins σ Q) X.xe s := by
  have r2 : Vals (vs ++ dvs) (us ++ ds) := r.append hd
  have hl : (us ++ ds).length = ps.length := r2.length.symm.trans (F.len _ _ _ _ h)
  refine wpAny_call (codeAny_mono (F.run X.A X.stack s H ⟨us, []⟩ (us ++ ds) (vs ++ dvs) Q E gd hr I.env0 (hb s us I.kIn hl) r2 h) fun r s' hq => ?_)
  match r, hq with
  | .error e, hq => exact hx pins σ H s e s' I hq
  | .ok (.ret u), hq => exact I.after hq
  | .ok .next, hq => exact False.elim hq
  | .ok .brk, hq => exact False.elim hq
  | .ok .cont, hq => exact False.elim hq
theorem pe_callG1 (F : FnG X.prog X.w X.K X.mg X.base CX k f fd ps sp) (gd : X.A.guards = some []) (hr : Room k X.A) (hg : Gl X x) (hm : X.mg x = some (.ref f)) (hk : PySem.W.keepIn X.K (.ref f) = true) (hb : Binds X.K fd ps ds) (hd : Vals dvs ds) (hx : Passes CX X E)
    (ha : PA X (e :: es) t) (hs : starEach (e :: es) X.env = (false, eval e X.env) :: starEach es X.env := by rfl) (hpl : (backTo pos (starEach es X.env)).any (·.1) = false := by rfl) (hdb : (x == ("__debug__" : Str)) = false := by decide) :
    PE X (.Call (.Name x p) (e :: es) [] pos) (tCall sp dvs E t) := by
  refine ⟨fun pins s σ H Q I h => ?_⟩
  refine wpAny_Call_Name_kw (ld_glob I hg hm ?_ hdb)
  refine PySem.W.callWith_K (h₀ := X.base) I.ok.mod.kin hk (thn (ha.run pos pins s σ H _ I h) fun us s1 ⟨vs, H1, I1, r1, q1⟩ => ⟨I1.kIn, ?_⟩) hs hpl
  exact runG F gd hr hb hd hx I1 r1 q1
end
end My
set_option autoImplicit true
set_option maxHeartbeats 2000000
set_option Elab.async false
set_option linter.all false
set_option maxRecDepth 100000
set_option maxHeartbeats 2000000
namespace My
open PySem PySem.Spec PyProof.Rows L2
/-! ### the end of a row whose law is run where no guard stands -/
theorem lawG {P : Program} {w : World} {K : PySem.W.Frag} {mg mb : Str → Option Value} {k : Nat} {fa a : Addr} {fd : FuncData} {x : Str} {sp : Sp} {s1 : Shared} {vs : List Value} {ns : List Int}
    (KX : K.In s1.heap) (hns : s1.heap.Ns mainGlobals mg) (hb : s1.heap.Ns builtinsNs mb) (hbb : ∀ x : Str, x ≠ "__name__" → mb x = bootBuiltins x) (hlim : s1.heap.NoLimit) (hgen : s1.gens = #[])
    (ha : s1.heap.get? a = some { cls := .type "list", data := .seq vs.toArray }) (hi : IntsAre vs ns) (hl : ns.length ≤ sizeLine) (hr : Room k callerA)
    (F : ∀ base : Heap, K.In base → base.Ns mainGlobals mg → FnG P w K mg base CX0 k fa fd [x] sp) (hbind : ∀ (s : Shared) (u : Value), BindsTo s fd ⟨[u], []⟩ [(x, u)])
    (hsp : ∀ H : Hp, Only H → SqL K H a (ns.map V.int) → sp [.ref a] H (fun v _ => v = .bl true) fun _ _ _ => False) :
    codeAny (model P w) callerA (.call (.ref fa) ⟨[.ref a], []⟩) (fun r s' => r = .ok (.ret (.bool true)) ∧ OldK s1.heap s'.heap ∧ s'.os = s1.os ∧ AllBare s'.gens) s1 := by
  have rv := vals_ints hi
  have nV := hi.length
  have main : ∀ H : Hp, Only H → SqL K H a (ns.map V.int) → HOk P w H s1.heap → (∀ b, H b ≠ none → b = a) → (H a ≠ none → K.lookup a = none) →
      codeAny (model P w) callerA (.call (.ref fa) ⟨[.ref a], []⟩) (fun r s' => r = .ok (.ret (.bool true)) ∧ OldK s1.heap s'.heap ∧ s'.os = s1.os ∧ AllBare s'.gens) s1 := by
    intro H hO hS hok hA hK
    have hid : ∀ {b : Addr} {o : Obj}, s1.heap.get? b = some o → H b = none → (hidT s1.heap H).get? b = some o := fun e n => hidT_get e n
    have free : ∀ {b : Addr} {o : Obj}, s1.heap.get? b = some o → (b = a → False) → H b = none := fun {b o} e d => by
      cases q : H b with
      | none => rfl
      | some u => exact (d (hA b (by rw [q]; simp))).elim
    have dictFree : ∀ {b : Addr} {o : Obj} {es : Array DictEntry} {ep : Nat}, s1.heap.get? b = some o → o.data = .dict es ep → H b = none := fun {b o es ep} e d => free e fun z => by
      subst z
      rw [ha] at e
      cases e
      cases d
    have nsB : ∀ {b : Addr} {m : Str → Option Value}, s1.heap.Ns b m → (hidT s1.heap H).Ns b m := fun {b m} q => by
      obtain ⟨o, es, ep, e, d, r⟩ := q
      exact ⟨o, es, ep, hid e (dictFree e d), d, r⟩
    have kinB : K.In (hidT s1.heap H) := fun b o e => hid (KX b o e) (by
      cases q : H b with
      | none => rfl
      | some u =>
        have z : b = a := hA b (by rw [q]; simp)
        subst z
        rw [hK (by rw [q]; simp)] at e
        cases e)
    have limB : (hidT s1.heap H).NoLimit := by
      obtain ⟨mc, h1, h2⟩ := hlim
      exact ⟨mc, nsB h1, h2⟩
    have e0 : Env0 P w K mg (hidT s1.heap H) callerA [] s1 H := by
      refine ⟨rfl, ⟨kinB, nsB hns, ⟨mb, nsB hb, hbb⟩, limB⟩, fun b o e => of_hidT e, Nat.le_of_eq (hidT_size _ _), trivial, fun b hb' => ?_, hok, .of_eq hgen⟩
      cases hb'
    refine codeAny_mono ((F _ kinB (nsB hns)).run callerA [] s1 H ⟨[.ref a], []⟩ [.ref a] [.ref a] _ _ rfl hr e0 (hbind s1 (.ref a)) (.cons rfl .nil) (hsp H hO hS)) fun r s' h => ?_
    match r, h with
    | .error e, h => exact (show False from h).elim
    | .ok .next, h => exact (show False from h).elim
    | .ok .brk, h => exact (show False from h).elim
    | .ok .cont, h => exact (show False from h).elim
    | .ok (.ret u), h =>
      obtain ⟨v, H', os, bare, un, hok', r', q⟩ := h
      have q' : v = .bl true := q
      subst q'
      obtain rfl : u = Value.bool true := r'
      refine ⟨rfl, OldK.of_keep fun b o e => ?_, os, bare⟩
      cases q : H b with
      | none => exact un.keep b o e q (fun z => by cases z) (fun z => by cases z)
      | some u =>
        rcases hO b with z | ⟨ob, xs, z⟩
        · rw [q] at z
          cases z
        · obtain ⟨e1, _⟩ := hok b _ z
          obtain ⟨e2, _⟩ := hok' b _ (un.frzs b ob _ z)
          rw [e] at e1
          cases e1
          exact e2
  cases hk : K.lookup a with
  | some o =>
    have e := KX a o hk
    rw [ha] at e
    cases e
    refine main (fun _ => none) (fun _ => .inl rfl) (.inr ⟨_, vs.toArray, _, hk, rfl, rfl, rfl, by rw [List.size_toArray, nV]; exact hl, by simpa using rv⟩) (fun b u z => by cases (show (none : Option HO) = some u from z)) (fun b z => absurd rfl z) fun z => absurd rfl z
  | none =>
    have at_a : ∀ b, b = a → (if b = a then some (HO.frz { cls := .type "list", data := .seq vs.toArray } (.lst (ns.map V.int))) else none) = some (HO.frz { cls := .type "list", data := .seq vs.toArray } (.lst (ns.map V.int))) := fun b h => if_pos h
    refine main (fun b => if b = a then some (.frz { cls := .type "list", data := .seq vs.toArray } (.lst (ns.map V.int))) else none) (fun b => ?_) (.inl (.inr ⟨_, at_a a rfl⟩)) (fun b u z => ?_) (fun b z => ?_) fun _ => hk
    · by_cases hb' : b = a
      · exact .inr ⟨_, _, at_a b hb'⟩
      · exact .inl (if_neg hb')
    · by_cases hb' : b = a
      · cases (at_a b hb').symm.trans z
        subst hb'
        exact ⟨ha, by rw [List.length_map]; exact hl, vs, _, rv, ha⟩
      · cases (if_neg hb').symm.trans z
    · exact Classical.byContradiction fun hb' => z (if_neg hb')
theorem walkG {l : PySem.W.OpenLaw} {n k : Nat} {q : Program} {loose : List Str} {XP : (Str → Option Value) → Heap → Prop} {YP : World → Heap → Prop} {d : DefRec} {K : Params → PySem.W.Frag} {sp : PySem.W.Frag → Sp} {x : Str}
    (hn : l.most = some n) (hn2 : n ≤ sizeLine) (hdf : d.params.defaults = []) (hr : Room k callerA) (hY : ∀ (w : World) (h : Heap), YP w h → (K w.params).In h)
    (F : ∀ (w : World) (mg : Str → Option Value) (fa : Addr) (h : Heap), (K w.params).In h → h.Ns mainGlobals mg → mg d.name = some (.ref fa) →
      ∃ fd : FuncData, (∀ (s : Shared) (u : Value), BindsTo s fd ⟨[u], []⟩ [(x, u)]) ∧ ∀ base : Heap, (K w.params).In base → base.Ns mainGlobals mg → FnG l.prog w (K w.params) mg base CX0 k fa fd [x] (sp (K w.params)))
    (hsp : ∀ (K : PySem.W.Frag) (H : Hp) (a : Addr) (ns : List Int), ns.length ≤ n → SqL K H a (ns.map V.int) → sp K [.ref a] H (fun v _ => v = .bl true) fun _ _ _ => False) :
    PySem.W.WalkO q loose XP YP l.row.toRowW d [] (fun f vs => PySem.call f vs) := by
  refine Att.attach_call hn hdf fun w s0 s1 mg mb fa o pm cd doc a vs ns G Y ho hd hcd hmg hobj hints hlen hgen => ?_
  have KX := hY w _ Y
  obtain ⟨fd, hb, hF⟩ := F w mg fa _ KX G.T.g hmg
  exact lawG KX G.T.g G.T.b G.T.builtins G.T.nolimit hgen hobj hints (Nat.le_trans hlen hn2) hr hF hb fun H _ hS => hsp _ H a ns hlen hS
end My
set_option maxHeartbeats 2000000
set_option Elab.async false
set_option linter.all false
set_option autoImplicit false
set_option maxRecDepth 100000
set_option maxHeartbeats 2000000
namespace My
open PySem PySem.Spec PyProof.Rows L2 Evl
/-! ### what is new in H', seen from H -/
def nw (H H' : Hp) : Hp := fun b => if (H b).isSome = true then none else H' b
theorem nw_none {H H' : Hp} {b : Addr} (h : H b = none) : nw H H' b = H' b := by
  unfold nw
  rw [h]
  rfl
theorem nw_some {H H' : Hp} {b : Addr} {o : HO} (h : H b = some o) : nw H H' b = none := by
  unfold nw
  rw [h]
  rfl
theorem nw_get {H H' : Hp} {b : Addr} {o : HO} (h : nw H H' b = some o) : H b = none ∧ H' b = some o := by
  cases e : H b with
  | none => exact ⟨rfl, (nw_none e).symm.trans h⟩
  | some u => rw [nw_some e] at h; cases h
theorem nw_ex {H H' : Hp} : Ex (nw H H') H' := fun _ _ h => (nw_get h).2
theorem nw_grow {H H1 H2 : Hp} (e : Ex H1 H2) : Ex (nw H H1) (nw H H2) := fun b o h => by
  obtain ⟨h1, h2⟩ := nw_get h
  rw [nw_none h1]
  exact e b o h2
theorem nw_back {H H1 H2 : Hp} (e : Ex H H1) : Ex (nw H1 H2) (nw H H2) := fun b o h => by
  obtain ⟨h1, h2⟩ := nw_get h
  rw [nw_none (fresh_back e h1)]
  exact h2
theorem nw_upd {H H' : Hp} {p : Addr} {o : HO} (h : H p = none) : nw H (upd H' p o) p = some o := by
  rw [nw_none h, upd_same]
/-- an object that H knows is written: what is new stays -/
theorem nw_old {H H' : Hp} {p : Addr} {o u : HO} (h : H p = some u) : Ex (nw H H') (nw H (upd H' p o)) := fun b w hb => by
  obtain ⟨h1, h2⟩ := nw_get hb
  rw [nw_none h1, upd_ne]
  · exact h2
  · rintro rfl
    rw [h] at h1
    cases h1
/-! ### data -/
mutual
theorem dp_ex {K : PySem.W.Frag} {H H' : Hp} (e : Ex H H') : ∀ {v : V} {d : PyData}, Dp K H v d → Dp K H' v d
  | _, _, .non => .non
  | _, _, .bl b => .bl b
  | _, _, .int i => .int i
  | _, _, .str x => .str x
  | _, _, .lst h t => .lst (ex_l e h) (dpAll_ex e t)
  | _, _, .tup h t => .tup (ex_t e h) (dpAll_ex e t)
theorem dpAll_ex {K : PySem.W.Frag} {H H' : Hp} (e : Ex H H') : ∀ {vs : List V} {ds : List PyData}, DpAll K H vs ds → DpAll K H' vs ds
  | _, _, .nil => .nil
  | _, _, .cons h t => .cons (dp_ex e h) (dpAll_ex e t)
end
section
variable {K : PySem.W.Frag} {H H' : Hp}
theorem dpAll_len : ∀ {vs : List V} {ds : List PyData}, DpAll K H vs ds → vs.length = ds.length
  | _, _, .nil => rfl
  | _, _, .cons _ t => congrArg (· + 1) (dpAll_len t)
theorem dpAll_get : ∀ {vs : List V} {ds : List PyData} {i : Nat} {d : PyData}, DpAll K H vs ds → ds[i]? = some d → ∃ v, vs[i]? = some v ∧ Dp K H v d
  | _, _, i, d, .nil, h => by simp at h
  | _, _, 0, d, .cons h t, e => ⟨_, rfl, by simp at e; subst e; exact h⟩
  | _, _, i + 1, d, .cons h t, e => by
    obtain ⟨v, h1, h2⟩ := dpAll_get (i := i) t (by simpa using e)
    exact ⟨v, by simpa using h1, h2⟩
theorem dpAll_app : ∀ {vs ws : List V} {ds es : List PyData}, DpAll K H vs ds → DpAll K H ws es → DpAll K H (vs ++ ws) (ds ++ es)
  | _, _, _, _, .nil, h => h
  | _, _, _, _, .cons h t, r => .cons h (dpAll_app t r)
theorem dpAll_one {v : V} {d : PyData} (h : Dp K H v d) : DpAll K H [v] [d] := .cons h .nil
theorem dpAll_map {α : Type} {f : α → V} {g : α → PyData} : ∀ (l : List α), (∀ x ∈ l, Dp K H (f x) (g x)) → DpAll K H (l.map f) (l.map g)
  | [], _ => .nil
  | x :: l, h => .cons (h x (by simp)) (dpAll_map l fun y hy => h y (by simp [hy]))
theorem dp_tup {v : V} {ds : List PyData} (h : Dp K H v (.tuple ds)) : ∃ a xs, v = .ref a ∧ SqT K H a xs ∧ DpAll K H xs ds := by
  cases h with
  | tup h t => exact ⟨_, _, rfl, h, t⟩
theorem dp_lst {v : V} {ds : List PyData} (h : Dp K H v (.list ds)) : ∃ a xs, v = .ref a ∧ SqL K H a xs ∧ DpAll K H xs ds := by
  cases h with
  | lst h t => exact ⟨_, _, rfl, h, t⟩
theorem dp_int {v : V} {i : Int} (h : Dp K H v (.int i)) : v = .int i := by
  cases h
  rfl
theorem dp_bl {v : V} {b : Bool} (h : Dp K H v (.bool b)) : v = .bl b := by
  cases h
  rfl
theorem dp_non {v : V} (h : Dp K H v .none) : v = .non := by
  cases h
  rfl
/-- by a function over the places -/
theorem dpAll_fn {xs : List V} {n : Nat} {f : Nat → PyData} (h : DpAll K H xs ((List.range n).map f)) : xs.length = n ∧ ∀ i, i < n → ∃ v, xs[i]? = some v ∧ Dp K H v (f i) := by
  refine ⟨by rw [dpAll_len h, List.length_map, List.length_range], fun i hi => dpAll_get h ?_⟩
  rw [List.getElem?_map, List.getElem?_range hi]
  rfl
end
/-! ### tuples stay -/
def TEx (H H' : Hp) : Prop := (∀ b xs, H b = some (.tup xs) → H' b = some (.tup xs)) ∧ ∀ b o u, H b = some (.frz o u) → H' b = some (.frz o u)
theorem TEx.refl (H : Hp) : TEx H H := ⟨fun _ _ h => h, fun _ _ _ h => h⟩
theorem TEx.trans {H H1 H2 : Hp} (a : TEx H H1) (b : TEx H1 H2) : TEx H H2 := ⟨fun c xs h => b.1 c xs (a.1 c xs h), fun c o u h => b.2 c o u (a.2 c o u h)⟩
theorem Ex.tex {H H' : Hp} (e : Ex H H') : TEx H H' := ⟨fun b xs h => e b _ h, fun b o u h => e b _ h⟩
theorem tex_upd {H : Hp} {p : Addr} {o : HO} {xs : List V} (h : H p = some (.lst xs)) : TEx H (upd H p o) := by
  refine ⟨fun b ys hb => ?_, fun b u w hb => ?_⟩
  · rw [upd_ne]
    · exact hb
    · rintro rfl
      rw [h] at hb
      cases hb
  · rw [upd_ne]
    · exact hb
    · rintro rfl
      rw [h] at hb
      cases hb
theorem TEx.t {K : PySem.W.Frag} {H H' : Hp} (e : TEx H H') {a : Addr} {xs : List V} (h : SqT K H a xs) : SqT K H' a xs := by
  rcases h with (h | ⟨o, h⟩) | h
  · exact .inl (.inl (e.1 _ _ h))
  · exact .inl (.inr ⟨o, e.2 _ _ _ h⟩)
  · exact .inr h
mutual
def tupOnly : PyData → Bool
  | .list _ => false
  | .dict _ => false
  | .tuple ds => tupAll ds
  | _ => true
def tupAll : List PyData → Bool
  | [] => true
  | d :: ds => tupOnly d && tupAll ds
end
theorem tupAll_iff : ∀ {ds : List PyData}, tupAll ds = true ↔ ∀ d ∈ ds, tupOnly d = true
  | [] => by simp [tupAll]
  | d :: ds => by
    simp only [tupAll, Bool.and_eq_true, List.mem_cons]
    rw [tupAll_iff]
    constructor
    · rintro ⟨h1, h2⟩ x (rfl | hx)
      · exact h1
      · exact h2 x hx
    · exact fun h => ⟨h d (.inl rfl), fun x hx => h x (.inr hx)⟩
mutual
theorem dp_tex {K : PySem.W.Frag} {H H' : Hp} (e : TEx H H') : ∀ {v : V} {d : PyData}, Dp K H v d → tupOnly d = true → Dp K H' v d
  | _, _, .non, _ => .non
  | _, _, .bl b, _ => .bl b
  | _, _, .int i, _ => .int i
  | _, _, .str x, _ => .str x
  | _, _, .lst h t, z => by cases z
  | _, _, .tup h t, z => .tup (e.t h) (dpAll_tex e t z)
theorem dpAll_tex {K : PySem.W.Frag} {H H' : Hp} (e : TEx H H') : ∀ {vs : List V} {ds : List PyData}, DpAll K H vs ds → tupAll ds = true → DpAll K H' vs ds
  | _, _, .nil, _ => .nil
  | _, _, .cons h t, z => by
    simp only [tupAll, Bool.and_eq_true] at z
    exact .cons (dp_tex e h z.1) (dpAll_tex e t z.2)
end
end My
set_option maxHeartbeats 2000000
set_option Elab.async false
set_option linter.all false
set_option autoImplicit false
set_option maxRecDepth 100000
set_option maxHeartbeats 2000000
namespace My
open PySem PySem.Spec PyProof.Rows L2 Evl
theorem range_filter_succ {α : Type} (p : Nat → Bool) (f : Nat → α) (i : Nat) : ((List.range (i + 1)).filter p).map f = ((List.range i).filter p).map f ++ (if p i = true then [f i] else []) := by
  rw [List.range_succ, List.filter_append, List.map_append]
  congr 1
  by_cases h : p i = true
  · simp [h]
  · simp [h]
section
variable {K : PySem.W.Frag} {J : It} {n : Nat} {G : Hp → Prop} {Y : Nat → Hp → V → Hp → Prop}
/-- what a comprehension's list holds behind i turns -/
def Held (K : PySem.W.Frag) (H1 : Hp) (D : Addr) (ds : List PyData) (H : Hp) : Prop :=
  Ex H1 H ∧ ∃ acc, H D = some (.lst acc) ∧ DpAll K (nw (upd H1 D (.lst [])) H) acc ds
theorem held_start {H1 : Hp} {D : Addr} (h : H1 D = none) : Held K H1 D [] (upd H1 D (.lst [])) := ⟨Ex.new h, [], upd_same, .nil⟩
theorem held_ex {H1 H H' : Hp} {D : Addr} {ds : List PyData} (h : Held K H1 D ds H) (e : Ex H H') : Held K H1 D ds H' := by
  obtain ⟨e1, acc, h1, h2⟩ := h
  exact ⟨e1.trans e, acc, e D _ h1, dpAll_ex (nw_grow e) h2⟩
theorem held_known {H1 H : Hp} {D : Addr} {ds : List PyData} (h : Held K H1 D ds H) : ∀ b, H b = none → (upd H1 D (.lst [])) b = none := by
  obtain ⟨e1, acc, h1, _⟩ := h
  intro b hb
  rw [upd_ne]
  · exact fresh_back e1 hb
  · rintro rfl
    rw [h1] at hb
    cases hb
theorem nw_back' {H0 H1 H2 : Hp} (e : ∀ b, H1 b = none → H0 b = none) : Ex (nw H1 H2) (nw H0 H2) := fun b o h => by
  obtain ⟨h1, h2⟩ := nw_get h
  rw [nw_none (e b h1)]
  exact h2
/-- one item more, new behind H -/
theorem held_add {H1 H H4 : Hp} {D : Addr} {ds : List PyData} {y : V} {d : PyData} (hD : H1 D = none) (h : Held K H1 D ds H) (e : Ex H H4) (hy : Dp K (nw H H4) y d) :
    ∃ acc, H4 D = some (.lst acc) ∧ acc.length = ds.length ∧ Held K H1 D (ds ++ [d]) (upd H4 D (.lst (acc ++ [y]))) := by
  obtain ⟨e1, acc, h1, h2⟩ := held_ex h e
  refine ⟨acc, h1, dpAll_len h2, Ex.mut e1 hD, acc ++ [y], upd_same, ?_⟩
  have keep : Ex (nw (upd H1 D (.lst [])) H4) (nw (upd H1 D (.lst [])) (upd H4 D (.lst (acc ++ [y])))) := nw_old (u := .lst []) upd_same
  exact dpAll_app (dpAll_ex keep h2) (dpAll_one (dp_ex keep (dp_ex (nw_back' (held_known h)) hy)))
theorem held_end {H1 H : Hp} {D : Addr} {ds : List PyData} (h1 : H1 D = none) (h : Held K H1 D ds H) : ∃ ys, Ex H1 H ∧ H D = some (.lst ys) ∧ DpAll K (nw H1 H) ys ds := by
  obtain ⟨e1, acc, h2, h3⟩ := h
  exact ⟨acc, e1, h2, dpAll_ex (nw_back (Ex.new h1)) h3⟩
/-- one item of a comprehension: where the test says no, nothing; else a new datum -/
def Item (K : PySem.W.Frag) (H : Hp) (b : Bool) (d : PyData) (N : Hp → Prop) (A : V → Hp → Prop) : Prop :=
  (b = false → ∀ H3, Ex H H3 → N H3) ∧ (b = true → ∀ y H4, Ex H H4 → Dp K (nw H H4) y d → A y H4)
theorem held_item {H1 H : Hp} {D : Addr} {ds : List PyData} {b : Bool} {d : PyData} {N : Hp → Prop} (hD : H1 D = none) (h : Held K H1 D ds H) (hl : ds.length < 100000)
    (k : ∀ H', Held K H1 D (ds ++ (if b = true then [d] else [])) H' → N H') :
    Item K H b d N (fun y H4 => ∃ acc, H4 D = some (.lst acc) ∧ acc.length < sizeLine ∧ N (upd H4 D (.lst (acc ++ [y])))) := by
  refine ⟨fun hb H3 e => k H3 ?_, fun hb y H4 e hy => ?_⟩
  · rw [hb]
    simp
    exact held_ex h e
  · obtain ⟨acc, q1, q2, q3⟩ := held_add hD h e hy
    refine ⟨acc, q1, by rw [q2]; exact sz_lt hl, k _ ?_⟩
    rw [hb]
    exact q3
theorem lcD (w : Walk J n G Y) {g : TG} {tt : TT} {te : TE} {vs : List Nat} {σ : L2.St} {H1 : Hp} {D : Addr} {Qd : Hp → Prop} (p : Nat → Bool) (f : Nat → PyData) (hn : n ≤ 100000) (hD : H1 D = none) (hG : ∀ H, Ex H1 H → G H)
    (hs : ∀ i x H H', i < n → Ex H1 H → Y i H x H' → ∀ (N : Hp → Prop) (A : V → Hp → Prop), Item K H (p i) (f i) N A →
      g x (wipe σ vs) H' fun σ2 H2 => wipe σ2 vs = wipe σ vs ∧ tt σ2 H2 fun b H3 => if b = true then te σ2 H3 A else N H3)
    (hd : ∀ H ys, Ex H1 H → H D = some (.lst ys) → DpAll K (nw H1 H) ys (((List.range n).filter p).map f) → Qd H) :
    ∃ W : Nat → Nat → Hp → Prop, (∃ m, W 0 m (upd H1 D (.lst []))) ∧ ∀ i m H, W i m H →
      (J.stop i H ∧ Qd H) ∨ (J.go i H ∧ ∃ Nx : Hp → Prop, (∀ H', Nx H' → ∃ m', m' < m ∧ W (i + 1) m' H') ∧ ∀ x H', J.yld i H x H' → g x (wipe σ vs) H' fun σ2 H2 => wipe σ2 vs = wipe σ vs ∧ tt σ2 H2 fun b H3 =>
        if b = true then te σ2 H3 fun y H4 => ∃ acc, H4 D = some (.lst acc) ∧ acc.length < sizeLine ∧ Nx (upd H4 D (.lst (acc ++ [y]))) else Nx H3) := by
  refine lc_it w (fun i H => Held K H1 D (((List.range i).filter p).map f) H) (held_start hD) (fun i H _ h => hG H h.1) (fun i x H H' hi h y => ?_) (fun H h => ?_)
  · refine hs i x H H' hi h.1 y _ _ (held_item hD h ?_ fun H3 h3 => ?_)
    · rw [List.length_map]
      exact Nat.lt_of_le_of_lt (List.length_filter_le _ _) (by rw [List.length_range]; omega)
    · show Held K H1 D (((List.range (i + 1)).filter p).map f) H3
      rw [range_filter_succ]
      exact h3
  · obtain ⟨ys, e1, e2, e3⟩ := held_end hD h
    exact hd H ys e1 e2 e3
/-- no test -/
theorem lcDA (w : Walk J n G Y) {g : TG} {te : TE} {vs : List Nat} {σ : L2.St} {H1 : Hp} {D : Addr} {Qd : Hp → Prop} (f : Nat → PyData) (hn : n ≤ 100000) (hD : H1 D = none) (hG : ∀ H, Ex H1 H → G H)
    (hs : ∀ i x H H', i < n → Ex H1 H → Y i H x H' → ∀ (A : V → Hp → Prop), (∀ y H4, Ex H H4 → Dp K (nw H H4) y (f i) → A y H4) →
      g x (wipe σ vs) H' fun σ2 H2 => wipe σ2 vs = wipe σ vs ∧ te σ2 H2 A)
    (hd : ∀ H ys, Ex H1 H → H D = some (.lst ys) → DpAll K (nw H1 H) ys ((List.range n).map f) → Qd H) :
    ∃ W : Nat → Nat → Hp → Prop, (∃ m, W 0 m (upd H1 D (.lst []))) ∧ ∀ i m H, W i m H →
      (J.stop i H ∧ Qd H) ∨ (J.go i H ∧ ∃ Nx : Hp → Prop, (∀ H', Nx H' → ∃ m', m' < m ∧ W (i + 1) m' H') ∧ ∀ x H', J.yld i H x H' → g x (wipe σ vs) H' fun σ2 H2 => wipe σ2 vs = wipe σ vs ∧ tYes σ2 H2 fun b H3 =>
        if b = true then te σ2 H3 fun y H4 => ∃ acc, H4 D = some (.lst acc) ∧ acc.length < sizeLine ∧ Nx (upd H4 D (.lst (acc ++ [y]))) else Nx H3) := by
  refine lcD (K := K) (tt := tYes) w (fun _ => true) f hn hD hG (fun i x H H' hi e y N A it => ?_) (fun H ys e1 e2 e3 => hd H ys e1 e2 ?_)
  · exact hs i x H H' hi e y _ (it.2 rfl)
  · rw [List.filter_eq_self.mpr (fun _ _ => rfl)] at e3
    exact e3
/-- two fors, the test behind the second one -/
theorem lc2D (w : Walk J n G Y) {g g1 : TG} {wi1 : TI} {tt1 : TT} {te : TE} {vs vs1 : List Nat} {σ : L2.St} {H1 : Hp} {D : Addr} {Qd : Hp → Prop} (m : Nat → Nat) (p : Nat → Nat → Bool) (f : Nat → Nat → PyData)
    (hn : n ≤ 300) (hm : ∀ i, i < n → m i ≤ 300) (hD : H1 D = none) (hG : ∀ H, Ex H1 H → G H) (S : Nat → L2.St → Prop)
    (hs : ∀ i x H H', i < n → Ex H1 H → Y i H x H' → ∀ P : L2.St → It → Hp → Prop,
      (∀ σ2 J1 H4 G1 Y1, S i σ2 → Ex H H4 → Walk J1 (m i) G1 Y1 → (∀ H, Ex H1 H → G1 H) →
        (∀ j x H H', j < m i → Ex H1 H → Y1 j H x H' → ∀ (N : Hp → Prop) (A : V → Hp → Prop), Item K H (p i j) (f i j) N A →
          g1 x (wipe σ2 vs1) H' fun σ3 H5 => wipe σ3 vs1 = wipe σ2 vs1 ∧ tt1 σ3 H5 fun b H6 => if b = true then te σ3 H6 A else N H6) → P σ2 J1 H4) →
      g x (wipe σ vs) H' fun σ2 H2 => wipe σ2 vs = wipe σ vs ∧ wi1 σ2 H2 fun J1 H4 => P σ2 J1 H4)
    (hd : ∀ H ys, Ex H1 H → H D = some (.lst ys) → DpAll K (nw H1 H) ys ((List.range n).flatMap fun i => ((List.range (m i)).filter (p i)).map (f i)) → Qd H) :
    ∃ W : Nat → Nat → Hp → Prop, (∃ k, W 0 k (upd H1 D (.lst []))) ∧ ∀ i k H, W i k H →
      (J.stop i H ∧ Qd H) ∨ (J.go i H ∧ ∃ Nx : Hp → Prop, (∀ H', Nx H' → ∃ m', m' < k ∧ W (i + 1) m' H') ∧ ∀ x H', J.yld i H x H' → g x (wipe σ vs) H' fun σ2 H2 => wipe σ2 vs = wipe σ vs ∧ tYes σ2 H2 fun b H3 =>
        if b = true then wi1 σ2 H3 fun J1 H4 => ∃ W1 : Nat → Nat → Hp → Prop, (∃ m, W1 0 m H4) ∧ ∀ j k H, W1 j k H →
          (J1.stop j H ∧ Nx H) ∨ (J1.go j H ∧ ∃ Nx1 : Hp → Prop, (∀ H', Nx1 H' → ∃ k', k' < k ∧ W1 (j + 1) k' H') ∧ ∀ x H', J1.yld j H x H' → g1 x (wipe σ2 vs1) H' fun σ3 H5 => wipe σ3 vs1 = wipe σ2 vs1 ∧ tt1 σ3 H5 fun b H6 =>
            if b = true then te σ3 H6 fun y H7 => ∃ acc, H7 D = some (.lst acc) ∧ acc.length < sizeLine ∧ Nx1 (upd H7 D (.lst (acc ++ [y]))) else Nx1 H6)
        else Nx H3) := by
  have flat : ∀ i, ((List.range (i + 1)).flatMap fun i => ((List.range (m i)).filter (p i)).map (f i)) = ((List.range i).flatMap fun i => ((List.range (m i)).filter (p i)).map (f i)) ++ ((List.range (m i)).filter (p i)).map (f i) := fun i => by
    rw [List.range_succ, List.flatMap_append]
    simp
  have flen : ∀ i, i ≤ n → ((List.range i).flatMap fun i => ((List.range (m i)).filter (p i)).map (f i)).length ≤ i * 300 := by
    intro i
    induction i with
    | zero => intro _; simp
    | succ i ih =>
      intro hi
      rw [flat, List.length_append, List.length_map]
      have h1 := ih (by omega)
      have h2 := List.length_filter_le (p i) (List.range (m i))
      rw [List.length_range] at h2
      have h3 := hm i (by omega)
      omega
  refine ⟨fun i k H => k = n - i ∧ i ≤ n ∧ Held K H1 D ((List.range i).flatMap fun i => ((List.range (m i)).filter (p i)).map (f i)) H, ⟨n, by simp, Nat.zero_le _, held_start hD⟩, ?_⟩
  rintro i k H ⟨rfl, hi, h⟩
  have q := hG H h.1
  by_cases hlt : i < n
  · refine .inr ⟨w.goes i H hlt q, fun H => Held K H1 D ((List.range (i + 1)).flatMap fun i => ((List.range (m i)).filter (p i)).map (f i)) H, fun H' p' => ⟨n - (i + 1), by omega, rfl, hlt, p'⟩, fun x H' y => ?_⟩
    refine hs i x H H' hlt h.1 (w.yields i H x H' hlt q y) _ fun σ2 J1 H4 G1 Y1 hS e4 w1 hG1 hel => ?_
    refine ⟨fun j k H' => k = m i - j ∧ j ≤ m i ∧ Held K H1 D (((List.range i).flatMap fun i => ((List.range (m i)).filter (p i)).map (f i)) ++ ((List.range j).filter (p i)).map (f i)) H', ⟨m i, by simp, Nat.zero_le _, ?_⟩, ?_⟩
    · simpa using held_ex h e4
    · rintro j k H5 ⟨rfl, hj, h5⟩
      have q5 := hG1 H5 h5.1
      by_cases jlt : j < m i
      · refine .inr ⟨w1.goes j H5 jlt q5, fun H' => Held K H1 D (((List.range i).flatMap fun i => ((List.range (m i)).filter (p i)).map (f i)) ++ ((List.range (j + 1)).filter (p i)).map (f i)) H', fun H' p' => ⟨m i - (j + 1), by omega, rfl, jlt, p'⟩, fun x' H'' y' => ?_⟩
        refine hel j x' H5 H'' jlt h5.1 (w1.yields j H5 x' H'' jlt q5 y') _ _ (held_item hD h5 ?_ fun H6 h6 => ?_)
        · rw [List.length_append, List.length_map]
          have h1 := flen i hi
          have h2 := List.length_filter_le (p i) (List.range j)
          rw [List.length_range] at h2
          have h3 := hm i hlt
          have h4 : i * 300 ≤ 300 * 300 := Nat.mul_le_mul_right 300 (by omega)
          omega
        · rw [range_filter_succ, ← List.append_assoc]
          exact h6
      · have e : j = m i := by omega
        subst e
        refine .inl ⟨w1.stops H5 q5, ?_⟩
        show Held K H1 D _ H5
        rw [flat]
        exact h5
  · have e : i = n := by omega
    subst e
    obtain ⟨ys, e1, e2, e3⟩ := held_end hD h
    exact .inl ⟨w.stops H q, hd H ys e1 e2 e3⟩
end
end My
set_option maxHeartbeats 2000000
set_option Elab.async false
set_option linter.all false
set_option autoImplicit false
set_option maxRecDepth 100000
set_option maxHeartbeats 2000000
/-! the layer's rules with the written part as a letter: so they stand within a comprehension's block, too -/
namespace My
open PySem PySem.Spec PyProof.Rows L2 Evl
section
variable {X : Cx} (K : PySem.W.Frag)
theorem ixL (hK : X.K = K := by rfl) : IxR X (rIxL K) := by
  subst hK
  exact ix_list
theorem ixT (hK : X.K = K := by rfl) : IxR X (rIxT K) := by
  subst hK
  exact ix_tup
def rTupS (K : PySem.W.Frag) : List V → Hp → VK → Prop := fun xs H Q => ∃ p ys, xs = [.ref p] ∧ ((SqL K H p ys ∧ ∀ l, H l = none → Q (.ref l) (upd H l (.tup ys))) ∨ (SqT K H p ys ∧ Q (.ref p) H))
theorem crTup (hK : X.K = K := by rfl) : CallR X (.type "tuple") (rTupS K) := by
  subst hK
  exact call_tuple_of
theorem crLen (hK : X.K = K := by rfl) : CallR X (.builtin "len") (rLenS K) := by
  subst hK
  exact call_len_seq
theorem crListOf (hK : X.K = K := by rfl) : CallR X (.type "list") (rListS K) := by
  subst hK
  exact call_list_of
theorem crAll (hc : X.calm = true) (hK : X.K = K := by rfl) : CallR X (.builtin "all") (rAll K) := by
  subst hK
  exact cr_all hc
def rInt1 : List V → Hp → VK → Prop := fun xs H Q => (∃ i, xs = [.int i] ∧ Q (.int i) H) ∨ ∃ k, xs = [.bl k] ∧ Q (.int (if k then 1 else 0)) H
theorem crInt : CallR X (.type "int") rInt1 := call_int1
theorem crMax2 (hc : X.calm = true) : CallR X (.builtin "max") rMax2 := call_max2 hc
theorem crMaxD (hc : X.calm = true) (hu : X.A.units + 64 < cLine) (hK : X.K = K := by rfl) : CallRK X (.builtin "max") ["default"] (rMaxD K) := by
  subst hK
  exact cr_maxD hc hu
theorem crRepr (hg : X.A.guards = some []) (hu : X.A.units + 64 < cLine) (hK : X.K = K := by rfl) : CallR X (.builtin "repr") (rRepr K) := by
  subst hK
  exact cr_repr hg hu
theorem opEqD (hu : X.A.units + 64 < cLine) (hK : X.K = K := by rfl) : OpR X (compareOp .Eq) (rEqD K) := by
  subst hK
  exact op_eqD hu
theorem opNeD (hu : X.A.units + 64 < cLine) (hK : X.K = K := by rfl) : OpR X (compareOp .NotEq) (rNeD K) := by
  subst hK
  exact op_neD hu
def rIsNon : R2 := fun x y H Q => y = .non ∧ Q (.bl (decide (x = .non))) H
def rNotNon : R2 := fun x y H Q => y = .non ∧ Q (.bl (!decide (x = .non))) H
theorem opIsN : OpR X (compareOp .Is) rIsNon := op_isN
theorem opNotN : OpR X (compareOp .IsNot) rNotNon := op_notN
def rLt : R2 := rI0 fun i j => .bl (decide (i < j))
theorem opLt : OpR X (compareOp .Lt) rLt := op_lt
theorem piL {tg l : Expr} {tl : TE} (h : PE X l tl) (hK : X.K = K := by rfl) : PI X tg l (iList K tl) := by
  subst hK
  exact pi_list h
theorem piT {tg l : Expr} {tl : TE} (h : PE X l tl) (hK : X.K = K := by rfl) : PI X tg l (iTup K tl) := by
  subst hK
  exact pi_tup h
theorem piEnum {e : Expr} {ta : TA} {p pos tpos : Pos} {elts : List Expr} {kk : Nat} (hg : Gl X "enumerate") (hm : X.mg "enumerate" = none) (ha : PA X [e] ta) (hs : starEach [e] X.env = [(false, eval e X.env)] := by rfl) (hK : X.K = K := by rfl) :
    PI X (.Tuple elts kk tpos) (.Call (.Name "enumerate" p) [e] [] pos) (iEnum K ta) := by
  subst hK
  exact pi_enum hg hm ha hs
theorem piEnumT {e : Expr} {ta : TA} {p pos tpos : Pos} {elts : List Expr} {kk : Nat} (hg : Gl X "enumerate") (hm : X.mg "enumerate" = none) (ha : PA X [e] ta) (hs : starEach [e] X.env = [(false, eval e X.env)] := by rfl) (hK : X.K = K := by rfl) :
    PI X (.Tuple elts kk tpos) (.Call (.Name "enumerate" p) [e] [] pos) (iEnumT K ta) := by
  subst hK
  exact pi_enumT hg hm ha hs
theorem peFld {e : Expr} {f : Str} {pos : Pos} {ta : TE} (he : PE X e ta) (hb : attributeBase e f X.env (eval e X.env) = eval e X.env := by rfl) (hK : X.K = K := by rfl) : PE X (.Attribute e f pos) (tFld K ta f) := by
  subst hK
  exact pe_fld he hb
def tTru (K : PySem.W.Frag) (ta : TE) : TT := fun σ H Q => ta σ H fun x H' => ∃ k, TruV K x H' k ∧ Q k H'
theorem ptTru {a : Expr} {ta : TE} (h : PE X a ta) (he : ∀ whole, isTrue a X.env whole = (do let v ← whole; standAt a.pos; holding [v] (truthy v)) := by intro _; rfl) (hK : X.K = K := by rfl) : PT X a (tTru K ta) := by
  subst hK
  exact pt_truth h he
end
section
variable {J : It} {n : Nat} {G : Hp → Prop} {Y : Nat → Hp → V → Hp → Prop}
/-- a comprehension without a test -/
theorem lcA (w : Walk J n G Y) {g : TG} {te : TE} {vs : List Nat} {σ : L2.St} {H1 : Hp} {D : Addr} {Qd : Hp → Prop} (Pv : Nat → Hp → Prop) (h0 : Pv 0 (upd H1 D (.lst []))) (hG : ∀ i H, i ≤ n → Pv i H → G H)
    (hs : ∀ i x H H', i < n → Pv i H → Y i H x H' → g x (wipe σ vs) H' fun σ2 H2 => wipe σ2 vs = wipe σ vs ∧ te σ2 H2 fun y H4 => ∃ acc, H4 D = some (.lst acc) ∧ acc.length < sizeLine ∧ Pv (i + 1) (upd H4 D (.lst (acc ++ [y]))))
    (hd : ∀ H, Pv n H → Qd H) :
    ∃ W : Nat → Nat → Hp → Prop, (∃ m, W 0 m (upd H1 D (.lst []))) ∧ ∀ i m H, W i m H →
      (J.stop i H ∧ Qd H) ∨ (J.go i H ∧ ∃ Nx : Hp → Prop, (∀ H', Nx H' → ∃ m', m' < m ∧ W (i + 1) m' H') ∧ ∀ x H', J.yld i H x H' → g x (wipe σ vs) H' fun σ2 H2 => wipe σ2 vs = wipe σ vs ∧ tYes σ2 H2 fun b H3 =>
        if b = true then te σ2 H3 fun y H4 => ∃ acc, H4 D = some (.lst acc) ∧ acc.length < sizeLine ∧ Nx (upd H4 D (.lst (acc ++ [y]))) else Nx H3) :=
  lc_it w (tt := tYes) Pv h0 hG hs hd
end
end My
set_option maxHeartbeats 2000000
set_option Elab.async false
set_option linter.all false
set_option autoImplicit false
set_option maxRecDepth 100000
set_option maxHeartbeats 2000000
namespace My
open PySem PySem.Spec PyProof.Rows L2 Evl
section
variable {J : It} {n : Nat} {G : Hp → Prop} {Y : Nat → Hp → V → Hp → Prop}
/-- the references cc 0, cc 1, .. -/
def refs (n : Nat) (cc : Nat → Addr) : List V := (List.range n).map fun j => V.ref (cc j)
theorem refs_len (n : Nat) (cc : Nat → Addr) : (refs n cc).length = n := by
  unfold refs
  rw [List.length_map, List.length_range]
theorem refs_at {n : Nat} {cc : Nat → Addr} {j : Nat} (h : j < n) : (refs n cc)[j]? = some (.ref (cc j)) := by
  unfold refs
  rw [List.getElem?_map, List.getElem?_range h]
  rfl
theorem refs_succ {n : Nat} {cc cd : Nat → Addr} {p : Addr} (h : ∀ j, j < n → cd j = cc j) (hp : cd n = p) : refs n cc ++ [.ref p] = refs (n + 1) cd := by
  unfold refs
  rw [List.range_succ, List.map_append, List.map_cons, List.map_nil, hp]
  congr 1
  refine List.map_congr_left fun j hj => ?_
  rw [h j (List.mem_range.mp hj)]
/-- a comprehension each of whose items is a new object -/
theorem lcFresh (w : Walk J n G Y) {g : TG} {te : TE} {vs : List Nat} {σ : L2.St} {H1 : Hp} {D : Addr} {Qd : Hp → Prop} (o : Nat → HO) (hn : n ≤ 100000) (hD : H1 D = none) (hG : ∀ H, Ex H1 H → G H)
    (hs : ∀ i x H H', i < n → Ex H1 H → Y i H x H' → ∀ (A : V → Hp → Prop), (∀ p H4, H p = none → Ex H H4 → H4 p = some (o i) → A (.ref p) H4) →
      g x (wipe σ vs) H' fun σ2 H2 => wipe σ2 vs = wipe σ vs ∧ te σ2 H2 A)
    (hd : ∀ H cc, Ex H1 H → H D = some (.lst (refs n cc)) → (∀ j, j < n → H1 (cc j) = none ∧ cc j ≠ D ∧ H (cc j) = some (o j)) → (∀ i j, i < n → j < n → cc i = cc j → i = j) → Qd H) :
    ∃ W : Nat → Nat → Hp → Prop, (∃ m, W 0 m (upd H1 D (.lst []))) ∧ ∀ i m H, W i m H →
      (J.stop i H ∧ Qd H) ∨ (J.go i H ∧ ∃ Nx : Hp → Prop, (∀ H', Nx H' → ∃ m', m' < m ∧ W (i + 1) m' H') ∧ ∀ x H', J.yld i H x H' → g x (wipe σ vs) H' fun σ2 H2 => wipe σ2 vs = wipe σ vs ∧ tYes σ2 H2 fun b H3 =>
        if b = true then te σ2 H3 fun y H4 => ∃ acc, H4 D = some (.lst acc) ∧ acc.length < sizeLine ∧ Nx (upd H4 D (.lst (acc ++ [y]))) else Nx H3) := by
  refine lcA w (fun i H => Ex H1 H ∧ ∃ cc : Nat → Addr, H D = some (.lst (refs i cc)) ∧ (∀ j, j < i → H1 (cc j) = none ∧ cc j ≠ D ∧ H (cc j) = some (o j)) ∧ ∀ k j, k < i → j < i → cc k = cc j → k = j)
    ⟨Ex.new hD, fun _ => D, upd_same, fun j h => by omega, fun k j h => by omega⟩ (fun i H _ h => hG H h.1) ?_ ?_
  · rintro i x H H' hi ⟨e1, cc, hl, hc, inj⟩ y
    refine hs i x H H' hi e1 y _ fun p H4 hp e4 ho => ⟨refs i cc, e4 D _ hl, by rw [refs_len]; exact sz_lt (by omega), ?_⟩
    have npD : p ≠ D := (ne_of_none hl hp).symm
    have old : ∀ j, j < i → cc j ≠ p := fun j hj => ne_of_none (hc j hj).2.2 hp
    refine ⟨Ex.mut (e1.trans e4) hD, fun j => if j = i then p else cc j, ?_, fun j hj => ?_, fun k j hk hj e => ?_⟩
    · rw [upd_same]
      rw [refs_succ (cd := fun j => if j = i then p else cc j) (fun j hj => if_neg (by omega)) (if_pos rfl)]
    · by_cases q : j = i
      · simp only [q, if_true]
        exact ⟨fresh_back e1 hp, npD, by rw [upd_ne npD]; exact ho⟩
      · simp only [if_neg q]
        obtain ⟨q1, q2, q3⟩ := hc j (by omega)
        exact ⟨q1, q2, by rw [upd_ne q2]; exact e4 _ _ q3⟩
    · by_cases q : k = i <;> by_cases r : j = i
      · omega
      · simp only [q, if_true, if_neg r] at e
        exact (old j (by omega) e.symm).elim
      · simp only [r, if_true, if_neg q] at e
        exact (old k (by omega) e).elim
      · simp only [if_neg q, if_neg r] at e
        exact inj k j (by omega) (by omega) e
  · rintro H ⟨e1, cc, hl, hc, inj⟩
    exact hd H cc e1 hl hc inj
end
section
variable {X : Cx} (K : PySem.W.Frag)
theorem pgT {es : List Expr} {k : Nat} {pos : Pos} {t : TGs} {n : Nat} (hc : X.calm = true) (h : PGs X es t) (hn : (assignEach es X.env).length = n := by rfl) (hst : (assignEach es X.env).findIdx? (·.1) = none := by rfl) (hK : X.K = K := by rfl) : PG X (.Tuple es k pos) (gTup K n t) := by
  subst hK
  exact pg_tup hc h hn hst
theorem peBm {T : String} {name : Str} {id : String} {o e : Expr} {es : List Expr} {to : TE} {t : TA} {r : V → List V → Hp → VK → Prop} {apos cpos : Pos} (pa : PlainAttrs T) (slot : Slot T name id) (hty : typeOf (.builtin id) = pure (.type "method_descriptor")) (hm : MtR X id r) (ho : PE X o to) (ha : PA X (e :: es) t)
    (hbase : attributeBase o name X.env (eval o X.env) = eval o X.env := by rfl)
    (hfew : ((backTo cpos (starEach (e :: es) X.env)).all (fun x => !x.1) && (backToKw cpos (keywordEach [] X.env)).all (fun x => x.1.isSome)
      && decide ((e :: es).length + ([] : List Keyword).length + (if ([] : List Keyword).isEmpty then 0 else 1) < 30)) = true := by rfl)
    (hline : (apos.endLine == cpos.line) = true := by rfl) (hs : starEach (e :: es) X.env = (false, eval e X.env) :: starEach es X.env := by rfl) (hplain : (backTo cpos (starEach es X.env)).any (·.1) = false := by rfl) (hK : X.K = K := by rfl) :
    PE X (.Call (.Attribute o name apos) (e :: es) [] cpos) (tBM K T r to t) := by
  subst hK
  exact pe_bm pa slot hty hm ho ha hbase hfew hline hs hplain
end
end My
set_option maxHeartbeats 2000000
set_option Elab.async false
set_option linter.all false
set_option autoImplicit false
set_option maxRecDepth 100000
set_option maxHeartbeats 2000000
namespace My
open PySem PySem.Spec PyProof.Rows L2 Evl
section
variable {K : PySem.W.Frag} {J : It} {n : Nat} {G : Hp → Prop} {Y : Nat → Hp → V → Hp → Prop}
/-- each item a new datum of which something is known -/
theorem lcDE (w : Walk J n G Y) {g : TG} {te : TE} {vs : List Nat} {σ : L2.St} {H1 : Hp} {D : Addr} {Qd : Hp → Prop} (PP : Nat → PyData → Prop) (hn : n ≤ 100000) (hD : H1 D = none) (hG : ∀ H, Ex H1 H → G H)
    (hs : ∀ i x H H', i < n → Ex H1 H → Y i H x H' → ∀ (A : V → Hp → Prop), (∀ y H4 d, PP i d → Ex H H4 → Dp K (nw H H4) y d → A y H4) →
      g x (wipe σ vs) H' fun σ2 H2 => wipe σ2 vs = wipe σ vs ∧ te σ2 H2 A)
    (hd : ∀ H ys ds, Ex H1 H → H D = some (.lst ys) → ds.length = n → (∀ i d, ds[i]? = some d → PP i d) → DpAll K (nw H1 H) ys ds → Qd H) :
    ∃ W : Nat → Nat → Hp → Prop, (∃ m, W 0 m (upd H1 D (.lst []))) ∧ ∀ i m H, W i m H →
      (J.stop i H ∧ Qd H) ∨ (J.go i H ∧ ∃ Nx : Hp → Prop, (∀ H', Nx H' → ∃ m', m' < m ∧ W (i + 1) m' H') ∧ ∀ x H', J.yld i H x H' → g x (wipe σ vs) H' fun σ2 H2 => wipe σ2 vs = wipe σ vs ∧ tYes σ2 H2 fun b H3 =>
        if b = true then te σ2 H3 fun y H4 => ∃ acc, H4 D = some (.lst acc) ∧ acc.length < sizeLine ∧ Nx (upd H4 D (.lst (acc ++ [y]))) else Nx H3) := by
  refine lcA w (fun i H => ∃ ds, ds.length = i ∧ (∀ j d, ds[j]? = some d → PP j d) ∧ Held K H1 D ds H) ⟨[], rfl, by simp, held_start hD⟩ (fun i H _ h => ?_) ?_ ?_
  · obtain ⟨_, _, _, h⟩ := h
    exact hG H h.1
  · rintro i x H H' hi ⟨ds, hl, hp, h⟩ y
    refine hs i x H H' hi h.1 y _ fun v H4 d pd e4 hv => ?_
    obtain ⟨acc, q1, q2, q3⟩ := held_add hD h e4 hv
    refine ⟨acc, q1, by rw [q2, hl]; exact sz_lt (by omega), ds ++ [d], by simp [hl], fun j d' hj => ?_, q3⟩
    rcases Nat.lt_or_ge j ds.length with z | z
    · rw [List.getElem?_append_left z] at hj
      exact hp j d' hj
    · rw [List.getElem?_append_right z] at hj
      have : j - ds.length = 0 := by
        cases q : j - ds.length with
        | zero => rfl
        | succ k => rw [q] at hj; simp at hj
      rw [this] at hj
      simp at hj
      subst hj
      have : j = i := by omega
      subst this
      exact pd
  · rintro H ⟨ds, hl, hp, h⟩
    obtain ⟨ys, e1, e2, e3⟩ := held_end hD h
    exact hd H ys ds e1 e2 hl hp e3
/-- each item a new list of new objects -/
theorem lcFresh2 (w : Walk J n G Y) {g : TG} {te : TE} {vs : List Nat} {σ : L2.St} {H1 : Hp} {D : Addr} {Qd : Hp → Prop} (m : Nat) (o : Nat → Nat → HO) (hn : n ≤ 100000) (hD : H1 D = none) (hG : ∀ H, Ex H1 H → G H)
    (hs : ∀ i x H H', i < n → Ex H1 H → Y i H x H' → ∀ (A : V → Hp → Prop), (∀ p rw H4, H p = none → Ex H H4 → H4 p = some (.lst (refs m rw)) → (∀ x, x < m → H (rw x) = none ∧ rw x ≠ p ∧ H4 (rw x) = some (o i x)) →
        (∀ x y, x < m → y < m → rw x = rw y → x = y) → A (.ref p) H4) →
      g x (wipe σ vs) H' fun σ2 H2 => wipe σ2 vs = wipe σ vs ∧ te σ2 H2 A)
    (hd : ∀ H (lb : Nat → Addr) (rl : Nat → Nat → Addr), Ex H1 H → H D = some (.lst (refs n lb)) → (∀ l, l < n → H1 (lb l) = none ∧ lb l ≠ D ∧ H (lb l) = some (.lst (refs m (rl l)))) →
      (∀ l x, l < n → x < m → H1 (rl l x) = none ∧ rl l x ≠ D ∧ (∀ k, k < n → rl l x ≠ lb k) ∧ H (rl l x) = some (o l x)) → (∀ l x k y, l < n → x < m → k < n → y < m → rl l x = rl k y → l = k ∧ x = y) → Qd H) :
    ∃ W : Nat → Nat → Hp → Prop, (∃ m, W 0 m (upd H1 D (.lst []))) ∧ ∀ i m H, W i m H →
      (J.stop i H ∧ Qd H) ∨ (J.go i H ∧ ∃ Nx : Hp → Prop, (∀ H', Nx H' → ∃ m', m' < m ∧ W (i + 1) m' H') ∧ ∀ x H', J.yld i H x H' → g x (wipe σ vs) H' fun σ2 H2 => wipe σ2 vs = wipe σ vs ∧ tYes σ2 H2 fun b H3 =>
        if b = true then te σ2 H3 fun y H4 => ∃ acc, H4 D = some (.lst acc) ∧ acc.length < sizeLine ∧ Nx (upd H4 D (.lst (acc ++ [y]))) else Nx H3) := by
  refine lcA w (fun i H => Ex H1 H ∧ ∃ (lb : Nat → Addr) (rl : Nat → Nat → Addr), H D = some (.lst (refs i lb)) ∧ (∀ l, l < i → H1 (lb l) = none ∧ lb l ≠ D ∧ H (lb l) = some (.lst (refs m (rl l)))) ∧
      (∀ l x, l < i → x < m → H1 (rl l x) = none ∧ rl l x ≠ D ∧ (∀ k, k < i → rl l x ≠ lb k) ∧ H (rl l x) = some (o l x)) ∧ (∀ l x k y, l < i → x < m → k < i → y < m → rl l x = rl k y → l = k ∧ x = y))
    ⟨Ex.new hD, fun _ => D, fun _ _ => D, upd_same, fun l h => by omega, fun l x h => by omega, fun l x k y h => by omega⟩ (fun i H _ h => hG H h.1) ?_ ?_
  · rintro i x H H' hi ⟨e1, lb, rl, hl, h1, h2, h3⟩ y
    refine hs i x H H' hi e1 y _ fun p rw H4 hp e4 ho hr inj => ⟨refs i lb, e4 D _ hl, by rw [refs_len]; exact sz_lt (by omega), ?_⟩
    have npD : p ≠ D := (ne_of_none hl hp).symm
    have nrD : ∀ x, x < m → rw x ≠ D := fun x hx => (ne_of_none hl (hr x hx).1).symm
    refine ⟨Ex.mut (e1.trans e4) hD, fun j => if j = i then p else lb j, fun j => if j = i then rw else rl j, ?_, fun l hlt => ?_, fun l x hlt hx => ?_, fun l x k y hlt hx hk hy e => ?_⟩
    · rw [upd_same, refs_succ (cd := fun j => if j = i then p else lb j) (fun j hj => if_neg (by omega)) (if_pos rfl)]
    · by_cases q : l = i
      · simp only [q, if_true]
        exact ⟨fresh_back e1 hp, npD, by rw [upd_ne npD]; exact ho⟩
      · simp only [if_neg q]
        obtain ⟨q1, q2, q3⟩ := h1 l (by omega)
        exact ⟨q1, q2, by rw [upd_ne q2]; exact e4 _ _ q3⟩
    · by_cases q : l = i
      · simp only [q, if_true]
        obtain ⟨q1, q2, q3⟩ := hr x hx
        refine ⟨fresh_back e1 q1, nrD x hx, fun k hk => ?_, by rw [upd_ne (nrD x hx)]; exact q3⟩
        by_cases z : k = i
        · simp only [z, if_true]
          exact q2
        · simp only [if_neg z]
          exact (ne_of_none (h1 k (by omega)).2.2 q1).symm
      · simp only [if_neg q]
        obtain ⟨q1, q2, q3, q4⟩ := h2 l x (by omega) hx
        refine ⟨q1, q2, fun k hk => ?_, by rw [upd_ne q2]; exact e4 _ _ q4⟩
        by_cases z : k = i
        · simp only [z, if_true]
          exact ne_of_none q4 hp
        · simp only [if_neg z]
          exact q3 k (by omega)
    · by_cases q : l = i <;> by_cases r : k = i
      · simp only [q, r, if_true] at e
        exact ⟨q.trans r.symm, inj x y hx hy e⟩
      · simp only [q, if_true, if_neg r] at e
        exact (ne_of_none (h2 k y (by omega) hy).2.2.2 (hr x hx).1 e.symm).elim
      · simp only [r, if_true, if_neg q] at e
        exact (ne_of_none (h2 l x (by omega) hx).2.2.2 (hr y hy).1 e).elim
      · simp only [if_neg q, if_neg r] at e
        exact h3 l x k y (by omega) hx (by omega) hy e
  · rintro H ⟨e1, lb, rl, hl, h1, h2, h3⟩
    exact hd H lb rl e1 hl h1 h2 h3
end
end My
set_option maxHeartbeats 2000000
set_option Elab.async false
set_option linter.all false
set_option autoImplicit false
set_option maxRecDepth 100000
set_option maxHeartbeats 2000000
/-! sorted of a dict whose keys are tuples of numbers -/
namespace My
open PySem PySem.Spec PyProof.Rows L2
def rSortedDT (K : PySem.W.Frag) (d : Nat) (B : Int) : List V → Hp → VK → Prop := fun xs H Q => ∃ (a : Addr) (kvs : List (List Key × V)), xs = [.ref a] ∧ Rd H a (.dT kvs) ∧ kvs.length < 64 ∧ (∀ kv ∈ kvs, ∃ ns : List Int, kv.1 = ns.map Sum.inl ∧ ns.length = d ∧ TS.Bd B ns) ∧
  ∀ (ys : List V) (p : Addr) (bs : List Addr), IsKeys H kvs bs → ys.Perm (bs.map V.ref) → ys.Pairwise (fun x y => ∀ n m, TupI K H x n → TupI K H y m → TS.code B n ≤ TS.code B m) → H p = none → Q (.ref p) (upd H p (.lst ys))
section
variable {X : Cx}
theorem isKeys_mem {H : Hp} {b : Addr} : ∀ {kvs : List (List Key × V)} {bs : List Addr}, IsKeys H kvs bs → b ∈ bs → ∃ kv ∈ kvs, H b = some (.tup (kv.1.map kV))
  | [], [], _, h => by cases h
  | p :: ks, c :: bs, q, h => by
    cases q with
    | cons h1 t =>
      rcases List.mem_cons.mp h with rfl | h
      · exact ⟨p, List.mem_cons_self, h1⟩
      · obtain ⟨kv, m, e⟩ := isKeys_mem t h
        exact ⟨kv, List.mem_cons_of_mem _ m, e⟩
  | [], c :: bs, q, _ => by cases q
  | p :: ks, [], q, _ => by cases q
theorem inl_kV (ns : List Int) : (ns.map Sum.inl : List Key).map kV = ns.map V.int := by
  rw [List.map_map]
  rfl
theorem cr_sortedDT {d : Nat} {B : Int} (hd1 : 1 ≤ d) (hc : X.calm = true) : CallR X (.builtin "sorted") (rSortedDT X.K d B) := by
  intro pins s σ H xs us Q I r h
  obtain ⟨a, kvs, rfl, hd, h64, hns, q⟩ := h
  obtain ⟨u, rfl, rx⟩ := vals1 r
  cases rx
  obtain ⟨z, hs, ks, pr, o, es, ep, ho, hx, hdt, he, hn⟩ := (show ObjOk X.prog X.w H s.heap a (.dT kvs) from hd.ok I.hok)
  have l1 : es.size = ks.length := size_of_entries he
  have l2 : kvs.length = ks.length := Paired.length pr
  refine Calls.call_function_entry PyProof.Rows.kind_sorted PyProof.Rows.plain_sorted PyProof.Rows.entry_sorted (PyProof.Rows.args_sorted1 _) ?_
  unfold Builtin.«sorted»
  refine wpAny_bind (m := checkCount "sorted" 1 1 _) (wpAny_pure ?_)
  refine wpAny_bind (PySem.W.kdu_collect (A := X.A.in1) (kdl_raw hs hx hdt) (I.ok.hd hc) ho (by rw [l1, ← l2, sizeLine_eq]; omega) fun h' tk acc' hk it => ?_)
  have ea : acc'.toList = ks.map fun x => Value.ref x.2.1 := by
    have hl : acc'.toList.length = ks.length := by rw [Array.length_toList, it.1]; exact l1
    apply List.ext_getElem?
    intro j
    rw [List.getElem?_map]
    cases hj : acc'.toList[j]? with
    | none =>
      have h1 := List.getElem?_eq_none_iff.mp hj
      rw [List.getElem?_eq_none (by omega)]
      all_goals rfl
    | some v =>
      obtain ⟨en, hen, hv⟩ := it.2 j v (by rw [← Array.getElem?_toList]; exact hj)
      have qe := entry_at he j
      rw [hen] at qe
      cases hb : ks[j]? with
      | none =>
        rw [hb] at qe
        exact nomatch (show some en = none from qe)
      | some b =>
        rw [hb] at qe
        have e2 : en = entryOfKey (tupleKind (mixKind X.prog X.w)) b := Option.some.inj qe
        rw [hv, e2]
        all_goals rfl
  have ik := isKeys_of pr
  have eb : acc'.toList = (ks.map fun x => x.2.1).map Value.ref := by rw [ea, List.map_map]; all_goals rfl
  generalize (ks.map fun x => x.2.1) = bs at ik eb
  have lb : bs.length = kvs.length := (Paired.length ik).symm
  have lacc : acc'.toList.length = bs.length := by rw [eb, List.length_map]
  have I1 : Inv X pins σ H { s with heap := h', toks := tk } := I.kept hk
  have tk1 : ∀ b ∈ bs, ∃ ns : List Int, SqT X.K H b (ns.map V.int) ∧ ns.length = d ∧ TS.Bd B ns := fun b hb => by
    obtain ⟨kv, hm, e⟩ := isKeys_mem ik hb
    obtain ⟨ns, e1, e2, e3⟩ := hns kv hm
    rw [e1, inl_kV] at e
    exact ⟨ns, SqT.of e, e2, e3⟩
  refine wpAny_bind (wpAny_newList ?_ (by rw [lacc, lb, sizeLine_eq]; omega))
  have hoL : (h'.push (seqObj "list" acc'.toList.toArray 0)).get? h'.objs.size = some (seqObj "list" acc'.toList.toArray 0) := Heap.get?_push_size _ rfl
  have ok0 : TS.TupsOk h' d B acc'.toList := fun v hv => by
    rw [eb] at hv
    obtain ⟨b, hb, rfl⟩ := List.mem_map.mp hv
    obtain ⟨ns, h1, h2, h3⟩ := tk1 b hb
    exact ⟨ns, tupI_raw I1 h1, h2, h3⟩
  have keep : ∀ b o, h'.get? b = some o → o.cls = .type "tuple" → (h'.push (seqObj "list" acc'.toList.toArray 0)).get? b = some o := fun b o e _ => Heap.get?_push_of_some _ e
  show wpAny _ _ _ _ _ { s with heap := h'.push (seqObj "list" acc'.toList.toArray 0), toks := tk }
  refine wpAny_bind (wpAny_holding (wpAny_call_entry PyProof.Rows.slot_list_sort ⟨_, hoL, rfl⟩ PyProof.Rows.entry_list_sort
    (TS.sort_tups (s := { s with heap := h'.push (seqObj "list" acc'.toList.toArray 0), toks := tk }) hoL (by rw [lacc, lb]; exact h64) hd1 (ok0.keeps keep) (fun v => TS.code B (TS.intsOf h' v)) (fun v hv ns t => ?_) fun out a1 a2 => ⟨_, rfl, ?_⟩)
    (PyProof.Rows.args_list_sort _)))
  · obtain ⟨ns0, t0, _⟩ := ok0 v hv
    have e : ns = ns0 := t.ints.symm.trans (t0.keeps keep).ints
    rw [e]
    show TS.code B (TS.intsOf h' v) = TS.code B ns0
    rw [t0.ints]
  obtain ⟨e', he'⟩ := PyProof.Rows.sortedHeap_at (vs := acc'.toList) (out := out) hoL
  have h3 : ∀ u ∈ out.toList, ∃ a, u = Value.ref a := fun u hu => by
    have := a1.mem_iff.mp hu
    rw [eb] at this
    obtain ⟨b, _, rfl⟩ := List.mem_map.mp this
    exact ⟨b, rfl⟩
  have hp : (out.toList.map bkV).Perm (bs.map V.ref) := by
    have := a1.map bkV
    rw [eb, List.map_map] at this
    exact this
  have hlen : (out.toList.map bkV).length ≤ sizeLine := by
    rw [hp.length_eq, List.length_map, lb, sizeLine_eq]
    omega
  refine wpAny_pure ⟨_, rfl, .ref h'.objs.size, upd H h'.objs.size (.lst (out.toList.map bkV)), I1.laid (t' := tk) (fun b u e => ?_) (Nat.le_refl _)
    (show ObjOk X.prog X.w _ _ _ (.lst (out.toList.map bkV)) from ⟨hlen, out.toList, e', bkV_vals h3, by rw [Array.toArray_toList]; exact he'⟩), rfl, q _ _ bs ik hp ?_ (I1.hok.fresh (Nat.le_refl _))⟩
  · have hb : b < h'.objs.size := Heap.lt_size e
    rw [PyProof.Rows.sortedHeap_old (Nat.ne_of_lt hb) (by rw [size_push']; exact Nat.lt_succ_of_lt hb)]
    exact Heap.get?_push_of_some _ e
  · rw [List.pairwise_map]
    refine List.Pairwise.imp (fun {u v} huv n m hn hm => ?_) a2
    obtain ⟨t, et, ht⟩ := hn
    obtain ⟨t', et', ht'⟩ := hm
    have eu := bkV_ref et
    have ev := bkV_ref et'
    have i1 : TS.intsOf h' u = n := by
      rw [eu]
      exact (tupI_raw I1 ht).ints
    have i2 : TS.intsOf h' v = m := by
      rw [ev]
      exact (tupI_raw I1 ht').ints
    rw [← i1, ← i2]
    exact huv
end
end My
set_option maxHeartbeats 2000000
set_option Elab.async false
set_option linter.all false
set_option autoImplicit false
set_option maxRecDepth 100000
set_option maxHeartbeats 2000000
/-! the values of a dict whose keys are tuples: the view, its list -/
namespace My
open PySem PySem.Spec PyProof.Rows L2
section
variable {prog : Program} {w : World} {A : Around} {E : Value → Shared → Prop} {s : Shared}
theorem meetsVals {d : Addr} {es : Array DictEntry} {ep : Nat} (hd : (d == sysModules) = false) :
    MeetsIn prog w (Builtin.«dict.values» ⟨[.ref d], []⟩) (fun _ R s => s.heap.DictRaw d es ep ∧
      R (.ok (.ret (.ref s.heap.objs.size))) { s with heap := s.heap.push { cls := .type "dict_values", data := .fields #[.ref d] } }) :=
  .of_wp fun A R s ⟨hm, h⟩ => by
    refine wpAny_bind ?_
    unfold Builtin.Dict.noArgs
    refine wpAny_bind (wpAny_notOrdered_dict hm.typeIs ?_)
    show wpAny _ _ (pure d) _ _ s
    refine wpAny_pure ?_
    show wpAny _ _ (Builtin.Dict.showsAll d >>= _) _ _ s
    unfold Builtin.Dict.showsAll
    rw [if_neg (by rw [hd]; exact Bool.false_ne_true)]
    refine wpAny_bind (wpAny_pure ?_)
    exact wpAny_bind (wpAny_newObj_type (wpAny_pure ⟨_, rfl, h⟩))
theorem callVals {d : Addr} {es : Array DictEntry} {ep : Nat} {Q : Value → Shared → Prop} (hd : (d == sysModules) = false) (hm : s.heap.DictRaw d es ep)
    (h : Q (.ref s.heap.objs.size) { s with heap := s.heap.push { cls := .type "dict_values", data := .fields #[.ref d] } }) : wpAny (model prog w) A (call (.builtin "dict.values") [.ref d]) Q E s :=
  call_meetsIn PySem.F.slot_dict_values hm.typeIs PySem.F.entry_dict_values (PySem.F.args_dict_values_1 _) (meetsVals (es := es) (ep := ep) hd) ⟨hm, h⟩
end
/-- the view d.values() at p -/
def valsO (p d : Addr) : HO := .ext fun h => h.IsValuesView p d
theorem valsO_ok {P : Program} {w : World} {H : Hp} {h : Heap} {p d : Addr} (e : h.get? p = some { cls := .type "dict_values", data := .fields #[.ref d] }) : ObjOk P w H h p (valsO p d) :=
  ⟨⟨_, e, rfl, rfl⟩, ⟨_, e⟩, fun h1 h2 x k => let ⟨o, ho, r⟩ := x; ⟨o, k o ho, r⟩⟩
section
variable {X : Cx}
def rValsT : V → List V → Hp → VK → Prop := fun x xs H Q => ∃ (a : Addr) (kvs : List (List L2.Key × V)), x = .ref a ∧ xs = [] ∧ H a = some (.dT kvs) ∧ ∀ p, H p = none → Q (.ref p) (upd H p (valsO p a))
theorem mt_valsT : MtR X "dict.values" rValsT := by
  intro pins s σ H x xs v us Q I rx rxs h
  obtain ⟨a, kvs, rfl, rfl, ha, q⟩ := h
  cases rx
  cases rxs
  obtain ⟨z, hd, xs', rel, o, es, ep, ho, hx, hdat, _⟩ := dt_of I.hok ha
  refine callVals (es := es) (ep := ep) hd ⟨o, ho, hx, hdat⟩ ?_
  have hf : H s.heap.objs.size = none := I.hok.fresh (Nat.le_refl _)
  exact ⟨.ref s.heap.objs.size, upd H s.heap.objs.size (valsO s.heap.objs.size a), I.laid (t' := s.toks) (fun b u e => Heap.get?_push_of_some _ e) (Nat.le_refl _) (valsO_ok (Heap.get?_push_size _ rfl)), rfl, q _ hf⟩
theorem kt_vals {H : Hp} : ∀ {kvs : List (List L2.Key × V)} {xs : List (List L2.Key × Addr × Value)}, KT H kvs xs → Vals (kvs.map (·.2)) (xs.map fun x => x.2.2)
  | _, _, Paired.nil => .nil
  | _, _, Paired.cons h t => .cons h.2.2 (kt_vals t)
def rListVals : List V → Hp → VK → Prop := fun xs H Q => ∃ (p a : Addr) (kvs : List (List L2.Key × V)), xs = [.ref p] ∧ H p = some (valsO p a) ∧ H a = some (.dT kvs) ∧ ∀ q, H q = none → Q (.ref q) (upd H q (.lst (kvs.map (·.2))))
theorem cr_listVals (hc : X.calm = true) : CallR X (.type "list") rListVals := by
  intro pins s σ H xs us Q I r h
  obtain ⟨p, a, kvs, rfl, hp, ha, q⟩ := h
  obtain ⟨u, rfl, rx⟩ := r.one
  cases rx
  obtain ⟨z, hs, ks, pr, o, es, ep, ho, hx, hdt, he, hn⟩ := (show ObjOk X.prog X.w H s.heap a (.dT kvs) from I.hok a _ ha)
  have hv : s.heap.IsValuesView p a := (show ObjOk X.prog X.w H s.heap p (valsO p a) from I.hok p _ hp).1
  have l1 : es.size = ks.length := size_of_entries he
  have l2 : kvs.length = ks.length := Paired.length pr
  refine PySem.W.kdl_call (KdlSrc.rawValues (es := es) (ep := ep)) (I.ok.hd hc) ⟨hv, o, ho, hx, hdt⟩ (by omega) fun h' tk acc' c' kp e it => ?_
  have ea : acc'.toList = ks.map fun x => x.2.2 := by
    have hl : acc'.toList.length = ks.length := by rw [Array.length_toList, it.1]; exact l1
    apply List.ext_getElem?
    intro j
    rw [List.getElem?_map]
    cases hj : acc'.toList[j]? with
    | none =>
      have h1 := List.getElem?_eq_none_iff.mp hj
      rw [List.getElem?_eq_none (by omega)]
      all_goals rfl
    | some v =>
      obtain ⟨hi, hv⟩ := it.2 j v (by rw [← Array.getElem?_toList]; exact hj)
      have qe := entry_at he j
      rw [Array.getElem?_eq_getElem hi] at qe
      cases hb : ks[j]? with
      | none =>
        rw [hb] at qe
        exact nomatch (show some es[j] = none from qe)
      | some b =>
        rw [hb] at qe
        have e2 : es[j] = entryOfKey (tupleKind (mixKind X.prog X.w)) b := Option.some.inj qe
        rw [hv, e2]
        all_goals rfl
  have rv : Vals (kvs.map (·.2)) acc'.toList := by rw [ea]; exact kt_vals pr
  have hz : (kvs.map (·.2)).length ≤ sizeLine := by rw [List.length_map]; omega
  refine ⟨.ref s.heap.objs.size, _, I.laid (t' := tk) (o := .lst (kvs.map (·.2))) kp (Nat.le_refl _) ?_, rfl, q _ (I.hok.fresh (Nat.le_refl _))⟩
  exact ⟨hz, acc'.toList, c', rv, by rw [Array.toArray_toList]; exact e⟩
end
end My
set_option maxHeartbeats 2000000
set_option Elab.async false
set_option linter.all false
set_option autoImplicit false
set_option maxRecDepth 100000
set_option maxHeartbeats 2000000
/-! x in t: t a tuple of data -/
namespace My
open PySem PySem.Spec PyProof.Rows L2
def rInDT (K : PySem.W.Frag) : R2 := fun x y H Q => ∃ d ds, Dp K H x d ∧ Dp K H y (.tuple ds) ∧ SeqAt.shaped d = true ∧ SeqAt.shaped (.tuple ds) = true ∧ Q (.bl (ds.any fun z => PyData.eqv z d)) H
theorem op_inDT {X : Cx} (hu : X.A.units + 65 < cLine) : OpR X (compareOp .In) (rInDT X.K) := by
  intro pins s σ H x y v u Q I rx ry h
  obtain ⟨d, ds, hd, he, sd, se, q⟩ := h
  obtain ⟨as, r1⟩ := Dp.reads I d x v hd rx
  obtain ⟨bs, r2⟩ := Dp.reads I (.tuple ds) y u he ry
  exact SeqAt.in_tuple_reads r2 r1 (SeqAt.canLay_of_shaped se) (SeqAt.canLay_of_shaped sd) (room_in_shaped sd hu) ⟨.bl _, H, I, rfl, q⟩
/-- the same with the written part as a letter -/
theorem opInDT {X : Cx} (K : PySem.W.Frag) (hu : X.A.units + 65 < cLine) (hK : X.K = K := by rfl) : OpR X (compareOp .In) (rInDT K) := by
  subst hK
  exact op_inDT hu
theorem opInDL {X : Cx} (K : PySem.W.Frag) (hu : X.A.units + 65 < cLine) (hK : X.K = K := by rfl) : OpR X (compareOp .In) (rInD K) := by
  subst hK
  exact op_inD hu
theorem opNotInDL {X : Cx} (K : PySem.W.Frag) (hu : X.A.units + 65 < cLine) (hK : X.K = K := by rfl) : OpR X (compareOp .NotIn) (rNotInD K) := by
  subst hK
  exact op_notInD hu
theorem opInS {X : Cx} (K : PySem.W.Frag) (hK : X.K = K := by rfl) : OpR X (compareOp .In) (rIn K false) := by
  subst hK
  exact op_in_seq
theorem opNotInS {X : Cx} (K : PySem.W.Frag) (hK : X.K = K := by rfl) : OpR X (compareOp .NotIn) (rIn K true) := by
  subst hK
  exact op_notIn_seq
theorem crSortT {X : Cx} (K : PySem.W.Frag) {d : Nat} {B : Int} (hd : 1 ≤ d) (hK : X.K = K := by rfl) : CallR X (.builtin "sorted") (rSortU K d B) := by
  subst hK
  exact cr_sortT hd
theorem crSortedDT {X : Cx} (K : PySem.W.Frag) {d : Nat} {B : Int} (hd : 1 ≤ d) (hc : X.calm = true) (hK : X.K = K := by rfl) : CallR X (.builtin "sorted") (rSortedDT K d B) := by
  subst hK
  exact cr_sortedDT hd hc
theorem peBm0 {X : Cx} (K : PySem.W.Frag) {T : String} {name : Str} {id : String} {o : Expr} {to : TE} {r : V → List V → Hp → VK → Prop} {apos cpos : Pos} (pa : PlainAttrs T) (slot : Slot T name id) (hty : typeOf (.builtin id) = pure (.type "method_descriptor")) (hm : MtR X id r) (ho : PE X o to)
    (hbase : attributeBase o name X.env (eval o X.env) = eval o X.env := by rfl) (hline : (apos.endLine == cpos.line) = true := by rfl) (hK : X.K = K := by rfl) : PE X (.Call (.Attribute o name apos) [] [] cpos) (tBM0 K T r to) := by
  subst hK
  exact pe_bm0 pa slot hty hm ho hbase hline
end My
set_option maxHeartbeats 2000000
set_option Elab.async false
set_option linter.all false
set_option autoImplicit false
set_option maxRecDepth 100000
set_option maxHeartbeats 4000000
/-! own exceptions with one field, over any built-in base (after skel/42, which speaks of ValueError) -/
namespace PySem
namespace OneX
open PySem.W PySem.Calls PyProof.Rows PySem.HandSPX Builtin.ObjectAttr
/-- what is asked of a built-in base's line of classes -/
structure Tail (bmB : List Value) : Prop where
  pass : ∀ self : Value, refuseLoop self "__setattr__" bmB = pure ()
  obj : bmB.contains (.type "object") = true
abbrev exTail : List Value := [.type "Exception", .type "BaseException", .type "object"]
theorem tail_ex : Tail exTail := ⟨fun self => by kernel_rfl, by decide +kernel⟩
section
variable {prog : Program} {w : World} {A : Around} {R : Result → Shared → Prop} {hp : Heap} {g : Array GenState} {d : Drawn} {t : Nat} {os : OsState}
/-- self.name = v on a fresh exception -/
theorem osaX {bmB : List Value} (TB : Tail bmB) {K : Frag} {name : Str} {tk : Tok} {v : Value} {x C : Addr} {fv : Array Value} {cd : ClassData} (X : K.In hp) (hx : hp.get? x = some { cls := .ref C, data := .fields fv }) (hcd : clsIn K C = some cd)
    (hm : excTail bmB cd.mro = true) (hh : cd.hasDict = true) (ha : findIn K (.ref C) name = some none)
    (hq : ∀ h' tk' dx, (∀ b o, b ≠ x → hp.get? b = some o → h'.get? b = some o) → hp.objs.size ≤ dx → dx ≠ x → h'.get? x = some { cls := .ref C, dict := some dx, data := .fields fv } → h'.Ns1 dx (fun y => if y = name then some v else none) → R (.ok (.ret .none)) ⟨h', g, d, tk', os⟩) :
    codeAny (model prog w) A (.call (.builtin "object.__setattr__") ⟨[.ref x, .str name tk, v], []⟩) R ⟨hp, g, d, t, os⟩ := by
  have ob : cd.mro.contains (.type "object") = true := by rw [excTail_contains "object" _ hm]; exact TB.obj
  have ne : cd.mro.isEmpty = false := by
    cases e : cd.mro with
    | nil => rw [e] at ob; cases ob
    | cons _ _ => rfl
  have at_x : InstAt hp x { cls := .ref C, data := .fields fv } C none := ⟨hx, rfl, rfl, trivial⟩
  have xs : x ≠ hp.objs.size := fun z => Nat.lt_irrefl _ (by have := Heap.lt_size hx; rw [← z] at this; exact this)
  have isObj : Looks (model prog w) hp (isInstance (.ref x) (.type "object")) true := at_x.type.andThen (looks_mroIn X (by unfold mroIn; rw [hcd, Option.bind_some, if_neg (by rw [ne]; exact Bool.false_ne_true), ob]))
  have lm : Looks (model prog w) hp (mroOf (.ref C)) cd.mro := (looks_clsIn X hcd).andThen .now
  have lc : Looks (model prog w) hp (classData C) cd := looks_clsIn X hcd
  refine codeAny_call_builtin F.store_object.slot.plain F.store_object.entry (@check_slot (model prog w) _ _ ⟨hp, g, d, t, os⟩ "object.__setattr__" "object" "__setattr__" (.ref x) [.str name tk, v] [] _ F.store_object.kind F.store_object.split isObj (F.store_object.args (.ref x) (.str name tk) v) ?_)
  rw [osa_eq, refuse_eq]
  refine wpAny_bind (wpAny_bind (at_x.type.at (wpAny_bind (lm.at ?_))))
  rw [excTail_pass (.ref x) (TB.pass _) _ hm]
  have lt : Looks (model prog w) hp (storeTaker? none) none := .now
  refine wpAny_pure (wpAny_bind (at_x.type.at (wpAny_bind ((looks_findIn X ha).at (wpAny_bind (lt.at ?_))))))
  show wpAny _ _ (storeInOwnDict (.ref x) (.ref C) (.str name tk) name v false) _ _ _
  obtain ⟨c1, c2, c3, c4, c5, c6, c7, c8, c9, c10, c11⟩ := cd
  dsimp only at hh
  subst hh
  unfold storeInOwnDict ownDictForStores
  repeat (first | with_reducible refine store_in_new ?_ ?_ | with_reducible refine wpAny_loadPart_at hx ?_ | with_reducible refine lc.at ?_ | wp_step)
  · refine ⟨_, #[], _, (Heap.get?_update_ne _ _ _ _ xs.symm).trans (Heap.get?_push_at rfl rfl), rfl, fun e he => absurd he (by simp), fun _ => rfl⟩
  · intro h' tk' hn' hs
    have x1 : (hp.push { cls := .type "dict", data := .dict #[] }).get? x = some { cls := .ref C, data := .fields fv } := Heap.get?_push_of_some _ hx
    refine hq h' tk' hp.objs.size (fun b o hb ho => ?_) (Nat.le_refl _) xs.symm ((hs.2 x xs).trans (Heap.get?_update_self _ x1 rfl)) hn'
    have nb : b ≠ hp.objs.size := Nat.ne_of_lt (Heap.lt_size ho)
    exact (hs.2 b nb).trans ((Heap.get?_update_ne _ _ _ _ hb).trans (Heap.get?_push_of_some _ ho))
end
/-! ### the text of __init__(self, at): self.at = at -/
def iA (p1 p2 : Pos) : Arguments := { posonlyargs := [], args := [{ arg := "self", annotation := none, pos := p1 }, { arg := "at", annotation := none, pos := p2 }], vararg := none, kwonlyargs := [], kw_defaults := [], kwarg := none, defaults := [] }
def iB (q1 q2 q3 q4 : Pos) : List Stmt := [.Assign [.Attribute (.Name "self" q1) "at" q2] (.Name "at" q3) q4]
def iS : Scope := { kind := .function, names := [(PySem.Str.ofString "self", .local), (PySem.Str.ofString "at", .local)], isGenerator := false, isCoroutine := false, more := [] }
/-- what the written part says of the class nm at C over the built-in base of newId, bmB, and of its __init__ at fI -/
structure OneTxt (K : Frag) (mg : Str → Option Value) (nm : Str) (bmB : List Value) (newId : String) (C fI : Addr) : Prop where
  gC : mg nm = some (.ref C)
  cls : ∃ n0 q N bs bm sn sub ab col dd k0 k1 k2 k3 k5, K.lookup C = some (excClassObj n0 q C N bs bm true sn sub ab col dd k0 k1 k2 k3 k5 newId) ∧ excTail bmB bm = true
  sa : findIn K (.ref C) "__setattr__" = some (some (.builtin "object.__setattr__"))
  ga : findIn K (.ref C) "__getattribute__" = some (some (.builtin "BaseException.__getattribute__"))
  gg : findIn K (.ref C) "__getattr__" = some none
  noN : findIn K (.ref C) "at" = some none
  iC : findIn K (.ref C) "__init__" = some (some (.ref fI))
  tC : typeIn K (.ref fI) = some (.type "function")
  kC : keepIn K (.ref C) = true
  exC : subIn K (.ref C) (.type "BaseException") = some true
  tyC : typeIn K (.ref C) = some (.type "type")
  hdC : hasDictIn K C = true
  te : exmOne K (.ref C) (.ref C) = some true
  fn : ∃ (qn : Str) (oc : Value) (od : Option Addr) (doc pm : Value) (an : Option Addr) (cdv ct : Value) (osl : Array (Option Value)) (p1 p2 q1 q2 q3 q4 : Pos),
    K.lookup fI = some ⟨oc, od, .func (fnOf "__init__" qn (iA p1 p2) (iB q1 q2 q3 q4) iS .none .none doc pm an cdv ct), osl⟩ ∧ codeIn K cdv qn = true
theorem one_size (v : Value) : [v].length ≤ sizeLine := by
  rw [sizeLine_eq]
  exact (by decide : 1 ≤ 16777216)
theorem ldC {M : Model} {s : Shared} {name : Str} {scope : Scope} {L a : Addr} {cd : Value} {m : Str → Option Value} {x : Str} {pos : Pos} {v : Value} {Q : Value → Shared → Prop} {A : Around} {E : Value → Shared → Prop} (hn : s.heap.Ns L m) (hv : m x = some v) (h : Q v s)
    (hk : scope.kind = .function := by rfl) (hl : (envOfC name scope L a cd).kindOf x = some .local := by rfl) (hd : (x == ("__debug__" : Str)) = false := by decide) :
    wpAny M A (eval (.Name x pos) (envOfC name scope L a cd)) Q E s := wpAny_Name (wpAny_loadName_local hk hl hn hv h) hd
/-- what __init__ leaves of a fresh exception at x -/
structure InitEnd (h h' : Heap) (x C dx t1 : Addr) (v : Value) : Prop where
  keep : ∀ b o, b ≠ x → h.get? b = some o → h'.get? b = some o
  obj : h'.get? x = some { cls := .ref C, dict := some dx, data := .fields #[.ref t1, .none, .none, .none, .bool false, .none] }
  dbig : h.objs.size ≤ dx
  dne : dx ≠ x
  ns : h'.Ns1 dx (fun y => if y = "at" then some v else none)
/-- a made one -/
structure OwnMade (h h' : Heap) (e C d : Addr) (v : Value) : Prop where
  keep : ∀ b o, h.get? b = some o → h'.get? b = some o
  new : h.objs.size ≤ e
  obj : ∃ oe vs, h'.get? e = some oe ∧ oe.cls = .ref C ∧ oe.dict = some d ∧ oe.data = .fields vs ∧ vs[1]? = some .none
  dbig : h.objs.size ≤ d
  dne : d ≠ e
  ns : h'.Ns1 d (fun y => if y = "at" then some v else none)
section
variable {prog : Program} {w : World} {A : Around} {E : Value → Shared → Prop} {R : Result → Shared → Prop} {s : Shared} {K : Frag} {mg : Str → Option Value} {nm : Str} {bmB : List Value} {B newId initId : String} {C fI : Addr}
theorem one_init (T : OneTxt K mg nm bmB newId C fI) (TB : Tail bmB) {x t0 : Addr} {v : Value} (X : K.In s.heap) (hlim : s.heap.NoLimit) (hx : s.heap.get? x = some (excO C t0)) (hnx : K.lookup x = none) (hroom : A.depth < recursionLimit)
    (hq : ∀ h' tk dx, InitEnd s.heap h' x C dx t0 v → R (.ok (.ret .none)) { s with heap := h', toks := tk }) :
    codeAny (model prog w) A (.call (.ref fI) ⟨[.ref x, v], []⟩) R s := by
  obtain ⟨qn, oc, od, doc, pm, an, cdv, ct, osl, p1, p2, q1, q2, q3, q4, ho, hcd⟩ := T.fn
  obtain ⟨n0, q, N, bs, bm, sn, sub, ab, col, dd, k0, k1, k2, k3, k5, hC, hbm⟩ := T.cls
  have hcl : clsIn K C = some { name := n0, bases := bs, mro := .ref C :: bm, ns := N, qualname := q, hasDict := true, slotNames := sn, subclasses := sub, abstract := ab, collection := col, hasDel := false } := by unfold clsIn; rw [hC] <;> rfl
  refine Att.call_fn (binds := [("self", .ref x), ("at", v)]) X hlim ho hcd hroom (BindsTo.of_eq (by first | rfl | with_unfolding_all rfl)) (by first | rfl | decide | with_unfolding_all rfl) (fun s₁ IC => ?_) rfl rfl rfl
  obtain ⟨h₁, tk₁, rfl⟩ := IC.toInCall.same
  have k : ∀ b o, s.heap.get? b = some o → h₁.get? b = some o := IC.toInCall.keep
  have hn := IC.toInCall.ns
  have hxL : s.heap.objs.size ≠ x := Nat.ne_of_gt (Heap.lt_size hx)
  have X₁ : K.In h₁ := X.keeps k
  have hx₁ := k _ _ hx
  show wpAny _ _ (execs _ _) _ _ _
  refine wpAny_execs_cons (plainObj_wpAny_Assign_Attribute ?_)
  refine ldC (v := v) hn (by first | rfl | with_unfolding_all rfl | kernel_rfl) (ldC (v := .ref x) hn (by first | rfl | with_unfolding_all rfl | kernel_rfl) ?_)
  refine set_plain X₁ (ox := excO C t0) (od := none) ⟨hx₁, rfl, rfl, trivial⟩ T.sa ?_
  refine osaX TB X₁ hx₁ hcl (show excTail bmB (.ref C :: bm) = true from hbm) rfl T.noN (fun h₃ tk₃ dx k₃ dn dne hx₃ hn₃ => ?_)
  show wpAny _ _ (execs _ _) _ _ _
  have z : s.heap.objs.size < h₁.objs.size := hn.lt
  exact wpAny_execs_nil (hq h₃ tk₃ dx ⟨fun b o hb e => k₃ b o hb (k b o e), hx₃, Nat.le_of_lt (Nat.lt_of_lt_of_le z dn), dne, hn₃⟩)
theorem one_made (T : OneTxt K mg nm bmB newId C fI) (TB : Tail bmB) (F : ExcBaseFacts B newId initId bmB) {v : Value} (X : K.In s.heap) (hlim : s.heap.NoLimit) (hroom : A.depth + 1 < recursionLimit)
    (hq : ∀ h' tk e d, OwnMade s.heap h' e C d v → R (.ok (.ret (.ref e))) { s with heap := h', toks := tk }) :
    codeAny (model prog w) A (.call (.ref C) ⟨[v], []⟩) R s := by
  obtain ⟨n0, q, N, bs, bm, sn, sub, ab, col, dd, k0, k1, k2, k3, k5, hC, hbm⟩ := T.cls
  obtain ⟨hp, g, dr, tk, os⟩ := s
  have k : ∀ b o, hp.get? b = some o → ((hp.push (kdv_tup [v])).push (excO C hp.objs.size)).get? b = some o := fun b o e => Heap.get?_push_of_some _ (Heap.get?_push_of_some _ e)
  have hget : ((hp.push (kdv_tup [v])).push (excO C hp.objs.size)).get? (hp.objs.size + 1) = some (excO C hp.objs.size) := by heap_get
  have hnx : K.lookup (hp.objs.size + 1) = none := by
    cases e : K.lookup (hp.objs.size + 1) with
    | none => rfl
    | some o =>
      have z : hp.get? (hp.objs.size + 1) = some o := X _ _ e
      exact absurd (Nat.lt_of_succ_lt (Heap.lt_size z)) (Nat.lt_irrefl _)
  refine call_own F (fun Y => excTail_contains Y bm hbm) (X _ _ hC) (looks_findIn X T.iC) (fun self => bind_fn X self T.tC) (one_size v) ?_
  refine one_init (s := ⟨(hp.push (kdv_tup [v])).push (excO C hp.objs.size), g, dr, tk, os⟩) T TB (X.keeps k) (hlim.keeps k) hget hnx ?_ fun h' tk' dx ⟨k', hx, dn, dne, hns⟩ => ?_
  · show A.depth + 1 < recursionLimit
    exact hroom
  · have old : ∀ b o, hp.get? b = some o → h'.get? b = some o := fun b o e => k' b o (Nat.ne_of_lt (Nat.lt_succ_of_lt (Heap.lt_size e))) (k b o e)
    have z : hp.objs.size + 1 + 1 ≤ dx := by
      first
        | (simpa only [Heap.size_push] using dn)
        | exact dn
        | (have q := dn; rw [Heap.size_push, Heap.size_push] at q; exact q)
    exact ⟨rfl, hq h' tk' (hp.objs.size + 1) dx ⟨old, Nat.le_succ _, ⟨_, _, hx, rfl, rfl, rfl, rfl⟩, Nat.le_trans (Nat.le_trans (Nat.le_succ _) (Nat.le_succ _)) z, dne, hns⟩⟩
end
end OneX
end PySem
namespace L2
open PySem PySem.Spec PyProof.Rows
theorem relO_at {v : V} {v' : Value} (r : RelV v v') (f : Str) : RelO (List.lookup f [(("at" : Str), v)]) (if f = "at" then some v' else none) := by
  by_cases hw : f = "at"
  · subst hw
    rw [if_pos rfl]
    have q : List.lookup ("at" : Str) [(("at" : Str), v)] = some v := by simp [List.lookup]
    rw [q]
    exact r
  · rw [if_neg hw]
    have qw : (f == ("at" : Str)) = false := by simpa using hw
    have q2 : List.lookup f [(("at" : Str), v)] = none := by simp [List.lookup, qw]
    rw [q2]
    trivial
section
variable {X : Cx} {nm : Str} {bmB : List Value} {B newId initId : String} {C fI : Addr}
/-- C(e) -/
def tMkAt (C : Addr) (ta : TA) : St → Hp → XK → Prop := fun σ H Q => ta σ H fun vs H1 => ∃ v, vs = [v] ∧ ∀ d, H1 d = none → Q (.ref C) (some d) (upd H1 d (.xd [(("at" : Str), v)]))
theorem pmk_at {a : Expr} {ta : TA} {p pos : Pos} {k : Nat} (T : PySem.OneX.OneTxt X.K X.mg nm bmB newId C fI) (TB : PySem.OneX.Tail bmB) (F : ExcBaseFacts B newId initId bmB) (hr : Room k X.A) (ha : PA X [a] ta) (hg : Gl X nm := by rfl) (hdb : (nm == ("__debug__" : Str)) = false := by decide)
    (he : starEach (a :: []) X.env = (false, eval a X.env) :: starEach [] X.env := by rfl) (hpl : (backTo pos (starEach [] X.env)).any (·.1) = false := by rfl) :
    PMk X (.Call (.Name nm p) [a] [] pos) (tMkAt C ta) := by
  intro pins s σ H Q I h
  refine wpAny_Call_Name_kw (ld_glob I hg T.gC ?_ hdb)
  refine PySem.W.callWith_K (h₀ := X.base) I.ok.mod.kin T.kC (thn (ha.run pos pins s σ H _ I h) fun us s1 hh => ?_) he hpl
  obtain ⟨vs, H1, I1, r1, v, ev, q1⟩ := hh
  subst ev
  refine ⟨I1.kIn, ?_⟩
  cases r1 with
  | cons rv rn =>
    rename_i v' us'
    cases rn
    show wpAny _ _ (call (.ref C) [v']) _ _ _
    have hlim := I1.nolimit
    obtain ⟨hp, g, dr, tk, os⟩ := s1
    refine wpAny_call (PySem.OneX.one_made T TB F I1.kIn hlim (by have := hr.dp; omega) fun h' tk' e d M => ?_)
    show MkP X pins σ Q (.ref e) ⟨h', g, dr, tk', os⟩
    obtain ⟨oe, fv, hoe, hc, hd, hdat, h1⟩ := M.obj
    have hns := M.ns
    obtain ⟨G', g1, g2⟩ := restrict h' fun b => decide (b ≠ e)
    have gk : ∀ b, b ≠ e → G'.get? b = h'.get? b := fun b hb => g1 b (decide_eq_true hb)
    have ge : G'.get? e = none := g2 e (by simp)
    have old : ∀ b o, hp.get? b = some o → G'.get? b = some o := fun b o q => (gk b (Nat.ne_of_lt (Nat.lt_of_lt_of_le (Heap.lt_size q) M.new))).trans (M.keep b o q)
    have ob : ObjOk X.prog X.w (upd H1 d (.xd [(("at" : Str), v)])) G' d (.xd [(("at" : Str), v)]) :=
      ⟨_, hns.at (fun o q => (gk d M.dne).trans q), fun f => relO_at rv f⟩
    have J : Inv X pins σ (upd H1 d (.xd [(("at" : Str), v)])) ⟨G', g, dr, tk', os⟩ := I1.laid (t' := tk') old M.dbig ob
    refine ⟨e, oe, fv, ⟨G', g, dr, tk', os⟩, _, .ref C, some d, rfl, J, fun b o q => ?_, ge, hoe, ⟨hc, hd⟩, hdat, h1, ?_, rfl, I1.bare, raises_own T.exC T.tyC, q1 d (I1.hok.fresh M.dbig)⟩
    · by_cases hb : b = e
      · have q' : G'.get? b = some o := q
        rw [hb, ge] at q'; cases q'
      · exact (gk b hb).symm.trans q
    · rw [upd_ne (Ne.symm M.dne)]
      exact I1.hok.fresh M.new
/-- raise C(e) -/
def tRaiseAt (C : Addr) (W : WX) (ta : TA) : TS := fun _ σ H => tMkAt C ta σ H fun cls d H' => W cls d σ H'
theorem ps_raiseAt {a : Expr} {ta : TA} {W : WX} {p pos pos2 : Pos} {k : Nat} (hc : X.calm = true) (T : PySem.OneX.OneTxt X.K X.mg nm bmB newId C fI) (TB : PySem.OneX.Tail bmB) (F : ExcBaseFacts B newId initId bmB) (hr : Room k X.A) (tk : Takes X W) (ha : PA X [a] ta) (hg : Gl X nm := by rfl) (hdb : (nm == ("__debug__" : Str)) = false := by decide)
    (he : starEach (a :: []) X.env = (false, eval a X.env) :: starEach [] X.env := by rfl) (hpl : (backTo pos (starEach [] X.env)).any (·.1) = false := by rfl) :
    PS X (.Raise (some (.Call (.Name nm p) [a] [] pos)) none pos2) (tRaiseAt C W ta) := ps_raise hc tk (pmk_at T TB F hr ha hg hdb he hpl)
/-- e.at, e the exception that the suite holds (at a; its class cls, its dict d) -/
def tByAt (C : Addr) (a : Addr) (cls : Value) (d : Option Addr) (te : TE) : TE := fun σ H Q => te σ H fun x H1 => x = .ref a ∧ cls = .ref C ∧ ∃ (dd : Addr) (v : V), d = some dd ∧ H1 dd = some (.xd [(("at" : Str), v)]) ∧ Q v H1
theorem pe_byAt {a : Addr} {oe : Obj} {cls : Value} {d : Option Addr} {pn : List (Addr × Obj)} {e : Expr} {te : TE} {pos : Pos} (T : PySem.OneX.OneTxt X.K X.mg nm bmB newId C fI) (hz : Zc cls d oe) (hf : ∃ vs, oe.data = .fields vs) (he : PE (X.suite a ((a, oe) :: pn)) e te)
    (hb : attributeBase e "at" X.env (eval e X.env) = eval e X.env := by rfl) :
    PE (X.suite a ((a, oe) :: pn)) (.Attribute e "at" pos) (tByAt C a cls d te) := by
  refine ⟨fun pins s σ H Q I h => ?_⟩
  refine attr_of hb (thn (he.run pins s σ H _ I h) fun u s1 hh => ?_)
  obtain ⟨x, H1, I1, rx, ex, ec, dd, v, ed, ea, q⟩ := hh
  subst ex
  obtain rfl : u = Value.ref a := rx
  subst ec
  subst ed
  obtain ⟨ha, _⟩ := I1.pin (a, oe) (List.mem_append_left _ List.mem_cons_self)
  obtain ⟨vs, hd⟩ := hf
  have hx : ObjOk X.prog X.w H1 s1.heap dd (.xd [(("at" : Str), v)]) := I1.hok dd _ ea
  obtain ⟨mA, hns, hr⟩ := hx
  obtain ⟨od, ho, hl⟩ := lookIn_ns hns
  have l : List.lookup ("at" : Str) [(("at" : Str), v)] = some v := by simp [List.lookup]
  obtain ⟨u, hu, ru⟩ := RelO.some_of (v := v) (o := mA "at") (by rw [← l]; exact hr "at")
  have J : PySem.W.InstAt s1.heap a oe C (some od) := ⟨ha, hz.1, by unfold PySem.W.notCls; rw [hd] <;> rfl, by rw [hz.2]; exact ho⟩
  exact HandSPX.exc_get I1.kIn J T.ga T.gg T.exC (PySem.W.findObj_own T.hdC T.noN rfl (by rw [hl, hu])) (handed_of ru) ⟨v, H1, I1.tok _, ru, q⟩
/-- a statement that is never reached -/
theorem ps_no {st : Stmt} : PS X st (fun _ _ _ => False) := ⟨fun _ _ _ _ _ _ h => h.elim⟩
theorem pss_no {b : List Stmt} : PSs X b (fun _ _ _ => False) := ⟨fun _ _ _ _ _ _ h => h.elim⟩
end
end L2
set_option maxHeartbeats 2000000
set_option Elab.async false
set_option linter.all false
set_option autoImplicit true
set_option maxRecDepth 100000
set_option maxHeartbeats 2000000
/-! the end of a row whose law is run where no guard stands and makes lambdas: its code's table is told -/
namespace My
open PySem PySem.Spec PyProof.Rows L2
open LamX (TabB TabS Tabs ExtN CodeO)
theorem lawGT {P : Program} {w : World} {K : PySem.W.Frag} {mg mb : Str → Option Value} {k : Nat} {fa a c pt : Addr} {fd : FuncData} {x : Str} {sp : Addr → Sp} {s1 : Shared} {vs : List Value} {ns : List Int}
    (KX : K.In s1.heap) (hns : s1.heap.Ns mainGlobals mg) (hb : s1.heap.Ns builtinsNs mb) (hbb : ∀ x : Str, x ≠ "__name__" → mb x = bootBuiltins x) (hlim : s1.heap.NoLimit) (hgen : s1.gens = #[])
    (hT : s1.heap.get? pt = some { cls := .none, data := .fields #[] }) (nT : K.lookup pt = none) (hcd : PySem.W.CodeHd s1.heap c pt)
    (hbm : ∃ (bm : Addr) (ob : Obj), mg "__builtins__" = some (.ref bm) ∧ bm ≠ builtinsNs ∧ s1.heap.get? bm = some ob ∧ ob.cls = .type "module" ∧ ob.dict = some builtinsNs ∧ ob.data = .plain)
    (ha : s1.heap.get? a = some { cls := .type "list", data := .seq vs.toArray }) (hi : IntsAre vs ns) (hl : ns.length ≤ sizeLine) (hr : Room k callerA)
    (F : ∀ base : Heap, K.In base → base.Ns mainGlobals mg → TabB base mg c pt → FnG P w K mg base CX0 k fa fd [x] (sp pt)) (hbind : ∀ (s : Shared) (u : Value), BindsTo s fd ⟨[u], []⟩ [(x, u)])
    (hsp : ∀ H : Hp, H pt = some (.tbl #[]) → SqL K H a (ns.map V.int) → sp pt [.ref a] H (fun v _ => v = .bl true) fun _ _ _ => False) :
    codeAny (model P w) callerA (.call (.ref fa) ⟨[.ref a], []⟩) (fun r s' => r = .ok (.ret (.bool true)) ∧ OldK s1.heap s'.heap ∧ s'.os = s1.os ∧ AllBare s'.gens) s1 := by
  have rv := vals_ints hi
  have nV := hi.length
  have apt : a ≠ pt := fun z => by
    subst z
    rw [ha] at hT
    cases (congrArg Obj.data (Option.some.inj hT) : Data.seq vs.toArray _ = Data.fields #[])
  have main : ∀ H : Hp, H pt = some (.tbl #[]) → (∀ b, H b = none ∨ b = pt ∨ ∃ o xs, H b = some (.frz o (.lst xs))) → SqL K H a (ns.map V.int) → HOk P w H s1.heap → (∀ b, H b ≠ none → b = a ∨ b = pt) → (H a ≠ none → K.lookup a = none) →
      codeAny (model P w) callerA (.call (.ref fa) ⟨[.ref a], []⟩) (fun r s' => r = .ok (.ret (.bool true)) ∧ OldK s1.heap s'.heap ∧ s'.os = s1.os ∧ AllBare s'.gens) s1 := by
    intro H hP hO hS hok hA hK
    have hid : ∀ {b : Addr} {o : Obj}, s1.heap.get? b = some o → H b = none → (hidT s1.heap H).get? b = some o := fun e n => hidT_get e n
    have free : ∀ {b : Addr} {o : Obj}, s1.heap.get? b = some o → (∀ us n, o.data ≠ .seq us n) → o.data ≠ .fields #[] → H b = none := fun {b o} e d1 d2 => by
      cases q : H b with
      | none => rfl
      | some u =>
        rcases hA b (by rw [q]; simp) with z | z
        · subst z
          rw [ha] at e
          cases e
          exact (d1 _ _ rfl).elim
        · subst z
          rw [hT] at e
          cases e
          exact (d2 rfl).elim
    have dictFree : ∀ {b : Addr} {o : Obj} {es : Array DictEntry} {ep : Nat}, s1.heap.get? b = some o → o.data = .dict es ep → H b = none := fun {b o es ep} e d => free e (fun us n z => by rw [d] at z; cases z) fun z => by rw [d] at z; cases z
    have nsB : ∀ {b : Addr} {m : Str → Option Value}, s1.heap.Ns b m → (hidT s1.heap H).Ns b m := fun {b m} q => by
      obtain ⟨o, es, ep, e, d, r⟩ := q
      exact ⟨o, es, ep, hid e (dictFree e d), d, r⟩
    have kinB : K.In (hidT s1.heap H) := fun b o e => hid (KX b o e) (by
      cases q : H b with
      | none => rfl
      | some u =>
        rcases hA b (by rw [q]; simp) with z | z
        · subst z
          rw [hK (by rw [q]; simp)] at e
          cases e
        · subst z
          rw [nT] at e
          cases e)
    have limB : (hidT s1.heap H).NoLimit := by
      obtain ⟨mc, h1, h2⟩ := hlim
      exact ⟨mc, nsB h1, h2⟩
    have tabB : TabB (hidT s1.heap H) mg c pt := by
      refine ⟨?_, ?_, fun z => ?_⟩
      · obtain ⟨o, us, file, tf, flags, tg, inF, text, tt, e1, r1, r2, r3, r4, r5, r6, r7, r8, hne⟩ := hcd
        refine ⟨o, us, file, tf, flags, tg, inF, text, tt, hid e1 (free e1 (fun us n z => ?_) fun z => ?_), r1, r2, r3, r4, r5, r6, r7, r8, hne⟩
        · rw [r2] at z
          cases z
        · rw [r2] at z
          cases z
          simp at r3
      · obtain ⟨bm, ob, b1, b2, b3, b4, b5, b6⟩ := hbm
        have nG : bm ≠ mainGlobals := fun q => by
          obtain ⟨o, es, ep, e, hd, _⟩ := hns
          rw [q, e] at b3
          cases b3
          rw [hd] at b6
          cases b6
        have nP : bm ≠ pt := fun q => by
          rw [q, hT] at b3
          cases b3
          cases b6
        refine ⟨bm, ob, b1, b2, nG, nP, hid b3 (free b3 (fun us n z => ?_) fun z => ?_), b4, b5, b6⟩
        · rw [b6] at z
          cases z
        · rw [b6] at z
          cases z
      · obtain ⟨o, es, ep, e, hd, _⟩ := hns
        rw [z, hT] at e
        cases e
        cases hd
    have e0 : Env0 P w K mg (hidT s1.heap H) callerA [] s1 H := by
      refine ⟨rfl, ⟨kinB, nsB hns, ⟨mb, nsB hb, hbb⟩, limB⟩, fun b o e => of_hidT e, Nat.le_of_eq (hidT_size _ _), trivial, fun b hb' => ?_, hok, .of_eq hgen⟩
      cases hb'
    refine codeAny_mono ((F _ kinB (nsB hns) tabB).run callerA [] s1 H ⟨[.ref a], []⟩ [.ref a] [.ref a] _ _ rfl hr e0 (hbind s1 (.ref a)) (.cons rfl .nil) (hsp H hP hS)) fun r s' h => ?_
    match r, h with
    | .error e, h => exact (show False from h).elim
    | .ok .next, h => exact (show False from h).elim
    | .ok .brk, h => exact (show False from h).elim
    | .ok .cont, h => exact (show False from h).elim
    | .ok (.ret u), h =>
      obtain ⟨v, H', os, bare, un, hok', r', q⟩ := h
      have q' : v = .bl true := q
      subst q'
      obtain rfl : u = Value.bool true := r'
      have stay : ∀ b o, b ≠ pt → s1.heap.get? b = some o → s'.heap.get? b = some o := fun b o np e => by
        cases q : H b with
        | none => exact un.keep b o e q (fun z => by cases z) (fun z => by cases z)
        | some u =>
          rcases hO b with z | z | ⟨ob, xs, z⟩
          · rw [q] at z
            cases z
          · exact absurd z np
          · obtain ⟨e1, _⟩ := hok b _ z
            obtain ⟨e2, _⟩ := hok' b _ (un.frzs b ob _ z)
            rw [e] at e1
            cases e1
            exact e2
      obtain ⟨more, zm⟩ := un.tbls pt #[] hP
      have grown : s'.heap.get? pt = some { cls := .none, data := .fields (#[] ++ more) } := hok' pt _ zm
      refine ⟨rfl, ⟨fun b o e => ?_, fun b o e => ?_⟩, os, bare⟩
      · by_cases hp : b = pt
        · subst hp
          rw [hT] at e
          cases e
          exact .inr (.inl ⟨(hcd.tab hT).isCodeTable, rfl, #[], more, rfl, grown⟩)
        · exact .inl (stay b o hp e)
      · by_cases hp : b = pt
        · subst hp
          exact ⟨_, grown⟩
        · exact ⟨o, stay b o hp e⟩
  cases hk : K.lookup a with
  | some o =>
    have e := KX a o hk
    rw [ha] at e
    cases e
    have atp : ∀ b, b = pt → (if b = pt then some (HO.tbl #[]) else none) = some (HO.tbl #[]) := fun b h => if_pos h
    refine main (fun b => if b = pt then some (.tbl #[]) else none) (atp pt rfl) (fun b => ?_) (.inr ⟨_, vs.toArray, _, hk, rfl, rfl, rfl, by rw [List.size_toArray, nV]; exact hl, by simpa using rv⟩) (fun b u z => ?_) (fun b z => ?_) fun z => absurd (if_neg apt) z
    · by_cases h : b = pt
      · exact .inr (.inl h)
      · exact .inl (if_neg h)
    · by_cases h : b = pt
      · cases (atp b h).symm.trans z
        subst h
        exact hT
      · cases (if_neg h).symm.trans z
    · exact .inr (Classical.byContradiction fun h => z (if_neg h))
  | none =>
    have at_a : ∀ b, b = a → (if b = a then some (HO.frz { cls := .type "list", data := .seq vs.toArray } (.lst (ns.map V.int))) else if b = pt then some (HO.tbl #[]) else none) = some (HO.frz { cls := .type "list", data := .seq vs.toArray } (.lst (ns.map V.int))) := fun b h => if_pos h
    have at_p : ∀ b, b ≠ a → b = pt → (if b = a then some (HO.frz { cls := .type "list", data := .seq vs.toArray } (.lst (ns.map V.int))) else if b = pt then some (HO.tbl #[]) else none) = some (HO.tbl #[]) := fun b h1 h2 => (if_neg h1).trans (if_pos h2)
    have at_n : ∀ b, b ≠ a → b ≠ pt → (if b = a then some (HO.frz { cls := .type "list", data := .seq vs.toArray } (.lst (ns.map V.int))) else if b = pt then some (HO.tbl #[]) else none) = none := fun b h1 h2 => (if_neg h1).trans (if_neg h2)
    refine main (fun b => if b = a then some (.frz { cls := .type "list", data := .seq vs.toArray } (.lst (ns.map V.int))) else if b = pt then some (.tbl #[]) else none) (at_p pt apt.symm rfl) (fun b => ?_) (.inl (.inr ⟨_, at_a a rfl⟩)) (fun b u z => ?_) (fun b z => ?_) fun _ => hk
    · by_cases h1 : b = a
      · exact .inr (.inr ⟨_, _, at_a b h1⟩)
      · by_cases h2 : b = pt
        · exact .inr (.inl h2)
        · exact .inl (at_n b h1 h2)
    · by_cases h1 : b = a
      · cases (at_a b h1).symm.trans z
        subst h1
        exact ⟨ha, by rw [List.length_map]; exact hl, vs, _, rv, ha⟩
      · by_cases h2 : b = pt
        · cases (at_p b h1 h2).symm.trans z
          subst h2
          exact hT
        · cases (at_n b h1 h2).symm.trans z
    · by_cases h1 : b = a
      · exact .inl h1
      · by_cases h2 : b = pt
        · exact .inr h2
        · exact absurd (at_n b h1 h2) z
theorem walkGT {l : PySem.W.OpenLaw} {n k : Nat} {q : Program} {loose : List Str} {XP : (Str → Option Value) → Heap → Prop} {YP : World → Heap → Prop} {d : DefRec} {K : Params → PySem.W.Frag} {sp : PySem.W.Frag → Addr → Sp} {x : Str}
    (hn : l.most = some n) (hn2 : n ≤ sizeLine) (hdf : d.params.defaults = []) (hr : Room k callerA) (hY : ∀ (w : World) (h : Heap), YP w h → (K w.params).In h)
    (F : ∀ (w : World) (mg mb : Str → Option Value) (mean : ExcName → Option Value) (fa : Addr) (h : Heap), (K w.params).In h → Top q (PySem.W.looseW q loose) mean mg mb h → mg d.name = some (.ref fa) →
      ∃ (fd : FuncData) (c pt : Addr), h.get? pt = some { cls := .none, data := .fields #[] } ∧ (K w.params).lookup pt = none ∧ PySem.W.CodeHd h c pt ∧ (∀ (s : Shared) (u : Value), BindsTo s fd ⟨[u], []⟩ [(x, u)]) ∧
        ∀ base : Heap, (K w.params).In base → base.Ns mainGlobals mg → TabB base mg c pt → FnG l.prog w (K w.params) mg base CX0 k fa fd [x] (sp (K w.params) pt))
    (hsp : ∀ (K : PySem.W.Frag) (pt : Addr) (H : Hp) (a : Addr) (ns : List Int), ns.length ≤ n → H pt = some (.tbl #[]) → SqL K H a (ns.map V.int) → sp K pt [.ref a] H (fun v _ => v = .bl true) fun _ _ _ => False) :
    PySem.W.WalkO q loose XP YP l.row.toRowW d [] (fun f vs => PySem.call f vs) := by
  refine Att.attach_call hn hdf fun w s0 s1 mg mb fa o pm cd doc a vs ns G Y ho hd hcd hmg hobj hints hlen hgen => ?_
  have KX := hY w _ Y
  obtain ⟨fd, c, pt, h1, h2, h3, hb, hF⟩ := F w mg mb _ fa _ KX G.T hmg
  exact lawGT KX G.T.g G.T.b G.T.builtins G.T.nolimit hgen h1 h2 h3 G.T.bmain hobj hints (Nat.le_trans hlen hn2) hr hF hb fun H hP hS => hsp _ _ H a ns hlen hP hS
end My
set_option maxHeartbeats 2000000
set_option autoImplicit false
/-! a machine's ends: the states that rows of each length lead to, with their numbers -/
namespace Cn
def succ (ws : List (List (Option Nat))) (s : Nat) : List Nat := (ws.getD s []).filterMap id
def ends (ws : List (List (Option Nat))) (f : Nat) : Nat → List Nat
  | 0 => [f]
  | t + 1 => (ends ws f t).flatMap (succ ws)
theorem sum_add {α : Type} {a b : α → Nat} : ∀ l : List α, (l.map fun s => a s + b s).sum = (l.map a).sum + (l.map b).sum
  | [] => rfl
  | x :: l => by
    rw [List.map_cons, List.sum_cons, sum_add l, List.map_cons, List.sum_cons, List.map_cons, List.sum_cons]
    omega
theorem sum_zero {α : Type} {a : α → Nat} : ∀ {l : List α}, (∀ s ∈ l, a s = 0) → (l.map a).sum = 0
  | [], _ => rfl
  | x :: l, h => by
    rw [List.map_cons, List.sum_cons, h x List.mem_cons_self, sum_zero fun s hs => h s (List.mem_cons_of_mem _ hs)]
theorem sum_pick {h : Nat → Nat} {x : Nat} : ∀ {ks : List Nat}, ks.Nodup → x ∈ ks → (ks.map fun s => if s = x then h s else 0).sum = h x
  | [], _, m => by cases m
  | k :: ks, nd, m => by
    obtain ⟨n1, n2⟩ := List.nodup_cons.mp nd
    rw [List.map_cons, List.sum_cons]
    by_cases e : k = x
    · subst e
      rw [if_pos rfl, sum_zero fun s hs => if_neg fun z => n1 (by rw [← z]; exact hs)]
      rfl
    · rw [if_neg e, sum_pick n2 (by rcases List.mem_cons.mp m with z | z; exact (e z.symm).elim; exact z)]
      omega
theorem sum_count {h : Nat → Nat} {ks : List Nat} (nd : ks.Nodup) : ∀ l : List Nat, (∀ x ∈ l, x ∈ ks) → (ks.map fun s => l.count s * h s).sum = (l.map h).sum
  | [], _ => by
    rw [sum_zero fun s _ => by simp]
    rfl
  | x :: l, m => by
    have e : (fun s => (x :: l).count s * h s) = fun s => l.count s * h s + (if s = x then h s else 0) := by
      funext s
      rw [List.count_cons]
      by_cases z : s = x
      · subst z
        simp [Nat.add_mul]
      · have z' : (x == s) = false := by simpa using fun q => z q.symm
        rw [z', if_neg z]
        simp
    rw [e, sum_add, sum_count nd l fun y hy => m y (List.mem_cons_of_mem _ hy), sum_pick nd (m x List.mem_cons_self), List.map_cons, List.sum_cons]
    omega
/-- m of each of some -/
def reps (m : Nat) (ts : List Nat) : List Nat := ts.flatMap fun t => List.replicate m t
theorem count_reps {m y : Nat} : ∀ ts : List Nat, (reps m ts).count y = m * ts.count y
  | [] => by simp [reps]
  | t :: ts => by
    have e : reps m (t :: ts) = List.replicate m t ++ reps m ts := rfl
    rw [e, List.count_append, count_reps ts, List.count_replicate, List.count_cons]
    by_cases z : (t == y) = true
    · rw [if_pos z, if_pos z, Nat.mul_add]
      omega
    · rw [if_neg z, if_neg z, Nat.add_zero]
      omega
theorem reps_app {m : Nat} {a b : List Nat} : reps m (a ++ b) = reps m a ++ reps m b := List.flatMap_append
theorem reps_one {m t : Nat} : reps m [t] = List.replicate m t := by simp [reps]
/-- what the states of a bag lead to, by its keys -/
theorem bag_perm {ws : List (List (Option Nat))} {l ks : List Nat} (nd : ks.Nodup) (hk : ∀ x ∈ l, x ∈ ks) : (ks.flatMap fun s => reps (l.count s) (succ ws s)).Perm (l.flatMap (succ ws)) := by
  rw [List.perm_iff_count]
  intro y
  rw [List.count_flatMap, List.count_flatMap]
  have e : (List.count y ∘ fun s => reps (l.count s) (succ ws s)) = fun s => l.count s * (succ ws s).count y := by
    funext s
    exact count_reps _
  rw [e]
  exact sum_count (h := fun s => (succ ws s).count y) nd l hk
theorem sum_ones {α : Type} : ∀ l : List α, (l.map fun _ => 1).sum = l.length
  | [] => rfl
  | x :: l => by
    rw [List.map_cons, List.sum_cons, sum_ones l, List.length_cons]
    omega
theorem len_count {l ks : List Nat} (nd : ks.Nodup) (hk : ∀ x ∈ l, x ∈ ks) : (ks.map fun s => l.count s).sum = l.length := by
  have e := sum_count (h := fun _ => 1) nd l hk
  have e2 : (fun s => l.count s * 1) = fun s => l.count s := by
    funext s
    rw [Nat.mul_one]
  rw [e2] at e
  rw [e]
  exact sum_ones l
theorem ends_lt {ws : List (List (Option Nat))} {f n : Nat} (hf : f < n) (hw : ∀ r ∈ ws, ∀ s, some s ∈ r → s < n) : ∀ t, ∀ s ∈ ends ws f t, s < n
  | 0, s, h => by
    have e : s = f := by simpa [ends] using h
    rw [e]
    exact hf
  | t + 1, s, h => by
    obtain ⟨x, _, hx⟩ := List.mem_flatMap.mp h
    obtain ⟨o, ho, e⟩ := List.mem_filterMap.mp hx
    have e : o = some s := e
    subst e
    rcases Nat.lt_or_ge x ws.length with hl | hl
    · rw [List.getD_eq_getElem?_getD, List.getElem?_eq_getElem hl] at ho
      exact hw _ (List.getElem_mem hl) s ho
    · rw [List.getD_eq_getElem?_getD, List.getElem?_eq_none hl] at ho
      cases ho
theorem nodup_le {n : Nat} {ks : List Nat} (nd : ks.Nodup) (h : ∀ s ∈ ks, s < n) : ks.length ≤ n := by
  have e := len_count (l := ks) (ks := List.range n) List.nodup_range fun x hx => List.mem_range.mpr (h x hx)
  rw [← e]
  have e2 : ∀ m : Nat, ((List.range m).map fun s => ks.count s).sum ≤ m := fun m => by
    induction m with
    | zero => exact Nat.le_refl _
    | succ m ih =>
      rw [List.range_succ, List.map_append, List.sum_append]
      have := List.nodup_iff_count.mp nd m
      simp
      omega
  exact e2 n
end Cn
set_option maxHeartbeats 2000000
set_option Elab.async false
set_option linter.all false
set_option autoImplicit false
set_option maxRecDepth 100000
set_option maxHeartbeats 2000000
/-! the values of a dict whose keys are ints or texts: the view, its list -/
namespace My
open PySem PySem.Spec PyProof.Rows L2
theorem pairs_vals {prog : Program} {w : World} {κ : Type} [DecidableEq κ] {knd : KeyKind prog w κ} : ∀ {es : List DictEntry} {kvs : List (κ × Value)}, Pairs knd es kvs → es.map (·.val) = kvs.map (·.2)
  | _, _, .nil => rfl
  | _, _, .cons _ e t => by rw [List.map_cons, List.map_cons, e, pairs_vals t]
theorem kv_vals {κ : Type} : ∀ {kvs : List (κ × V)} {vs : List (κ × Value)}, KV kvs vs → Vals (kvs.map (·.2)) (vs.map (·.2))
  | _, _, Paired.nil => .nil
  | _, _, Paired.cons h t => .cons h.2 (kv_vals t)
section
variable {X : Cx}
def rValsK : V → List V → Hp → VK → Prop := fun x xs H Q => ∃ (a : Addr) (kvs : List (L2.Key × V)), x = .ref a ∧ xs = [] ∧ H a = some (.dK kvs) ∧ ∀ p, H p = none → Q (.ref p) (upd H p (valsO p a))
theorem mt_valsK : MtR X "dict.values" rValsK := by
  rintro pins s σ H x xs v us Q I rx rxs ⟨a, kvs, rfl, rfl, ha, q⟩
  cases rx
  cases rxs
  obtain ⟨_, hd, vs, _, o, es, ep, ho, hx, hdat, _⟩ := dk_of I.hok ha
  refine callVals (es := es) (ep := ep) hd ⟨o, ho, hx, hdat⟩ ?_
  have fr : H s.heap.objs.size = none := I.hok.fresh (Nat.le_refl _)
  exact ⟨.ref s.heap.objs.size, _, I.laid (t' := s.toks) (o := valsO s.heap.objs.size a) (fun b u e => Heap.get?_push_of_some _ e) (Nat.le_refl _) (valsO_ok (Heap.get?_push_size _ rfl)), rfl, q _ fr⟩
def rListValsK : List V → Hp → VK → Prop := fun xs H Q => ∃ (p a : Addr) (kvs : List (L2.Key × V)), xs = [.ref p] ∧ H p = some (valsO p a) ∧ H a = some (.dK kvs) ∧ ∀ q, H q = none → Q (.ref q) (upd H q (.lst (kvs.map (·.2))))
theorem cr_listValsK (hc : X.calm = true) : CallR X (.type "list") rListValsK := by
  rintro pins s σ H xs us Q I r ⟨p, a, kvs, rfl, hp, ha, q⟩
  obtain ⟨u, rfl, rx⟩ := r.one
  cases rx
  obtain ⟨hs, _, vs, pr, o, es, ep, ho, hx, hdt, _, hP, _⟩ := dk_of I.hok ha
  have hv : s.heap.IsValuesView p a := (show ObjOk X.prog X.w H s.heap p (valsO p a) from I.hok p _ hp).1
  have l1 : es.size = vs.length := by rw [← hP.length, Array.length_toList]
  have l2 : kvs.length = vs.length := Paired.length pr
  refine PySem.W.kdl_call (KdlSrc.rawValues (es := es) (ep := ep)) (I.ok.hd hc) ⟨hv, o, ho, hx, hdt⟩ (by omega) fun h' tk acc' c' kp e it => ?_
  have ea : acc'.toList = vs.map (·.2) := by
    rw [← pairs_vals hP]
    have hl : acc'.toList.length = es.toList.length := by rw [Array.length_toList, Array.length_toList, it.1]
    refine List.ext_getElem? fun j => ?_
    rw [List.getElem?_map]
    cases hj : acc'.toList[j]? with
    | none =>
      have := List.getElem?_eq_none_iff.mp hj
      rw [List.getElem?_eq_none (by omega)]
      rfl
    | some v =>
      obtain ⟨hi, hv⟩ := it.2 j v (by rw [← Array.getElem?_toList]; exact hj)
      rw [hv, Array.getElem?_toList, Array.getElem?_eq_getElem hi]
      rfl
  have rv : Vals (kvs.map (·.2)) acc'.toList := by
    rw [ea]
    exact kv_vals pr
  have hz : (kvs.map (·.2)).length ≤ sizeLine := by
    rw [List.length_map]
    exact hs
  refine ⟨.ref s.heap.objs.size, _, I.laid (t' := tk) (o := .lst (kvs.map (·.2))) kp (Nat.le_refl _) ?_, rfl, q _ (I.hok.fresh (Nat.le_refl _))⟩
  exact ⟨hz, acc'.toList, c', rv, by rw [Array.toArray_toList]; exact e⟩
end
theorem crSum {X : Cx} (K : PySem.W.Frag) (hc : X.calm = true := by rfl) (hK : X.K = K := by rfl) : CallR X (.builtin "sum") (rSum K) := by
  subst hK
  exact cr_sum hc
end My
set_option maxHeartbeats 2000000
set_option Elab.async false
set_option linter.all false
set_option autoImplicit false
set_option maxRecDepth 100000
set_option maxHeartbeats 2000000
/-! enumerate over a text -/
namespace My
open PySem PySem.Spec PyProof.Rows L2
/-- a text's signs, each in a new pair with its number -/
def IteS (z : Str) : It :=
  ⟨fun i _ => i < z.cps.size,
   fun i H v H' => ∃ T c, v = .ref T ∧ H T = none ∧ H' = upd H T (.tup [.int (i : Nat), .str ⟨#[c]⟩]) ∧ z.cps[i]? = some c,
   fun i _ => z.cps.size ≤ i⟩
theorem turnEnumS {P : Program} {w : World} {K : PySem.W.Frag} {elts : List Expr} {kk : Nat} {tpos : Pos} (z : Str) (t : Tok) (e it : Addr) :
    Turn P w K (.Tuple elts kk tpos) (IteS z) [e, it] e (fun i h => (∃ old, IsEnum h e it ((i : Nat) : Int) old) ∧ h.IsStrIter it (strIterType z) z t i ∧ e ≠ it ∧ i ≤ z.cps.size) where
  mem := by simp
  obj := fun i h st b hb => by
    obtain ⟨⟨old, he⟩, ⟨o, ho, _, hd⟩, _⟩ := st
    rcases (by simpa using hb : b = e ∨ b = it) with q | q
    · rw [q]
      exact ⟨_, he, fun v y => nomatch y⟩
    · rw [q]
      exact ⟨o, ho, fun v y => by rw [hd] at y; cases y⟩
  keep := fun i h h' st k => by
    obtain ⟨⟨old, he⟩, ⟨o, ho, r⟩, n1, n2⟩ := st
    exact ⟨⟨old, k e (by simp) _ he⟩, ⟨o, k it (by simp) o ho, r⟩, n1, n2⟩
  item := by
    intro X hP hw hK hc i pins s σ H E I hf st hg
    subst hP hw hK
    obtain ⟨⟨old, he⟩, hit, hne, hle⟩ := st
    have hlt : i < z.cps.size := hg
    have lt1 : e < s.heap.objs.size := Heap.lt_size he
    have lt2 : it < s.heap.objs.size := by
      obtain ⟨_, q, _⟩ := hit
      exact Heap.lt_size q
    refine wpAny_pyNext_enum_itemD (Draws.text (A := X.A.in1) (I.ok.hd hc) it z t) he hit hlt hne (by simp [hne]) fun u' h' tk hu' ho st' hT sz hk => ?_
    obtain ⟨c, u, hcx, rfl⟩ := hu'
    refine ⟨_, rfl, wpAny_letOwnedTupleGo_enum (s := { s with heap := h', toks := tk + 1 }) ho fun h'' he' sb => ?_⟩
    have hT2 : h''.get? s.heap.objs.size = some { cls := .type "tuple", data := .seq #[.int i tk, .str ⟨#[c]⟩ u] } := (sb.2 _ (Nat.ne_of_gt lt1)).trans hT
    have new : ObjOk X.prog X.w (upd H s.heap.objs.size (.tup [.int (i : Nat), .str ⟨#[c]⟩])) h'' s.heap.objs.size (.tup [.int (i : Nat), .str ⟨#[c]⟩]) :=
      ⟨by show 2 ≤ sizeLine; decide, [.int i tk, .str ⟨#[c]⟩ u], .cons ⟨_, rfl⟩ (.cons ⟨_, rfl⟩ .nil), ⟨_, hT2, rfl, _, rfl⟩⟩
    have I1 : Inv X pins σ (upd H s.heap.objs.size (.tup [.int (i : Nat), .str ⟨#[c]⟩])) { s with heap := h'', toks := tk + 1 } :=
      I.turnedNew (ch := [e, it]) (fun b ob hb q => (sb.2 b (fun y => hb (by simp [y]))).trans (hk b ob (fun y => hb (by simp [y])) (fun y => hb (by simp [y])) q)) hf (Nat.le_refl _) new
    have st'' : h''.IsStrIter it (strIterType z) z t (i + 1) := by
      obtain ⟨o, q1, q2⟩ := st'
      exact ⟨o, (sb.2 it (Ne.symm hne)).trans q1, q2⟩
    refine ⟨.ref s.heap.objs.size, _, I1, rfl, ⟨_, c, rfl, I.hok.fresh (Nat.le_refl _), rfl, hcx⟩, ⟨⟨.str ⟨#[c]⟩ u, ?_⟩, st'', hne, hlt⟩, fun b hb => ?_⟩
    · have e1 : ((i + 1 : Nat) : Int) = (i : Int) + 1 := by omega
      rw [e1]
      exact he'
    · have lt3 : b < s.heap.objs.size := by
        rcases (by simpa using hb : b = e ∨ b = it) with q | q
        · rw [q]; exact lt1
        · rw [q]; exact lt2
      rw [upd_ne (Nat.ne_of_lt lt3)]
      exact (hf b hb).1
  done := by
    intro X hP hw hK hc i pins s σ H E I hf st hg
    subst hP hw hK
    obtain ⟨⟨old, he⟩, hit, hne, hle⟩ := st
    have hi : i = z.cps.size := Nat.le_antisymm hle hg
    subst hi
    obtain ⟨f0, f1, f2, f3, f4, f5⟩ := hf it (by simp)
    exact wpAny_pyNext_enum_endD (Draws.text (A := X.A.in1) (I.ok.hd hc) it z t) he hit fun h' he' => ⟨rfl, I.turned (t' := s.toks) (fun b o hb q => he' b o hb q) f0 f1 f3 f4 f5⟩
  self := fun A i s Q E st h => by
    obtain ⟨⟨_, he⟩, _⟩ := st
    exact wpAny_pyIter_enum he h
def iEnumS (ta : TA) : TI := fun σ H R => ta σ H fun vs H1 => ∃ z, vs = [.str z] ∧ R (IteS z) H1
theorem pi_enumS {X : Cx} {e : Expr} {ta : TA} {p pos tpos : Pos} {elts : List Expr} {kk : Nat} (hg : Gl X "enumerate") (hm : X.mg "enumerate" = none) (ha : PA X [e] ta) (hs : starEach [e] X.env = [(false, eval e X.env)] := by rfl) :
    PI X (.Tuple elts kk tpos) (.Call (.Name "enumerate" p) [e] [] pos) (iEnumS ta) := by
  refine ⟨fun pins s σ H R I h => ?_⟩
  refine Call_ (ld_blt I hg hm boot_enumerate (PyProof.Rows.callWith_type1 (thn (ha.run pos pins s σ H _ I h) fun us s1 ⟨vs, H1, I1, r1, q1⟩ => ?_) hs rfl))
  obtain ⟨z, ex, q⟩ := q1
  subst ex
  cases r1 with
  | cons r rr =>
    cases rr
    obtain ⟨t, rfl⟩ := r
    refine callEnumT (begins_text z t) trivial fun h' he hit hk => wpAny_pyIter_enum he ?_
    have I2 : Inv X pins σ H1 { s1 with heap := h' } := I1.kept (t' := s1.toks) hk
    refine ⟨s1.heap.objs.size + 1, [s1.heap.objs.size + 1, s1.heap.objs.size], _, _, H1, rfl, I2, turnEnumS z t (s1.heap.objs.size + 1) s1.heap.objs.size, ⟨⟨.none, he⟩, ⟨_, hit, rfl, rfl⟩, Nat.succ_ne_self _, Nat.zero_le _⟩, fun b hb => ?_, q⟩
    have hle : s1.heap.objs.size ≤ b := by
      rcases (by simpa using hb : b = s1.heap.objs.size + 1 ∨ b = s1.heap.objs.size) with y | y
      · rw [y]; exact Nat.le_add_right _ _
      · rw [y]; exact Nat.le_refl _
    exact I1.fpOk hle (I1.hok.fresh hle)
theorem walk_enumS {z : Str} : Walk (IteS z) z.cps.size (fun _ => True) (fun i H v H' => ∃ T c, v = .ref T ∧ H T = none ∧ H' = upd H T (.tup [.int (i : Nat), .str ⟨#[c]⟩]) ∧ z.cps[i]? = some c) :=
  ⟨fun i H hi _ => hi, fun H _ => Nat.le_refl _, fun i H x H' _ _ y => y⟩
end My
set_option maxHeartbeats 2000000
set_option Elab.async false
set_option linter.all false
set_option autoImplicit false
set_option maxRecDepth 100000
set_option maxHeartbeats 2000000
namespace My
open PySem PySem.Spec PyProof.Rows L2 Evl
/-! ### the text by places -/
def top (i : Nat) : Stmt := PySem.Challenge.pw_rueless_k35_rows_counted.main.body.getD i (.Pass ⟨0, 0, 0, 0⟩)
abbrev sIsInt : Stmt := top 7
abbrev sIsNum : Stmt := top 8
abbrev sIsBelow : Stmt := top 9
abbrev sIsSeq : Stmt := top 10
abbrev sBehind : Stmt := top 17
abbrev sTotals : Stmt := top 18
abbrev sNeedLen : Stmt := top 19
abbrev sCountRows : Stmt := top 20
abbrev sCountUpto : Stmt := top 21
abbrev sMI : Stmt := inClass (top 24) 0
abbrev sDealt : Stmt := top 27
abbrev sAny : Stmt := top 28
abbrev sOf : Stmt := top 29
abbrev sMach : Stmt := top 30
abbrev sTried : Stmt := top 31
abbrev sRefused : Stmt := top 32
abbrev sLed : Stmt := top 33
abbrev sLaw : Stmt := top 34
/-! ### the built-ins are the built-ins, the constants -/
structure Txt (K : PySem.W.Frag) (mg : Str → Option Value) : Prop where
  b_int : mg "int" = none
  b_bool : mg "bool" = none
  b_str : mg "str" = none
  b_len : mg "len" = none
  b_abs : mg "abs" = none
  b_tuple : mg "tuple" = none
  b_list : mg "list" = none
  b_range : mg "range" = none
  b_enumerate : mg "enumerate" = none
  b_repr : mg "repr" = none
  b_all : mg "all" = none
  b_sum : mg "sum" = none
  b_isinstance : mg "isinstance" = none
  g_LETTERS : ∃ u, mg "LETTERS" = some u ∧ RelV (.str "abcd01") u
  g_MOST_LETTERS : ∃ u, mg "MOST_LETTERS" = some u ∧ RelV (.int 200) u
  g_MOST_STATES : ∃ u, mg "MOST_STATES" = some u ∧ RelV (.int 2000) u
/-- a def of the text: where it stands, what it promises -/
structure Own (P : Program) (w : World) (K : PySem.W.Frag) (mg : Str → Option Value) (base : Heap) (x : Str) (k : Nat) (ps : List Str) (sp : Sp) where
  f : Addr
  fd : FuncData
  G : FnOk P w K mg base CX0 k f fd ps sp
  m : mg x = some (.ref f)
  kp : PySem.W.keepIn K (.ref f) = true
  b : Binds K fd ps []
section
variable {X : Cx}
theorem crIsi (K : PySem.W.Frag) (hK : X.K = K := by rfl) : CallR X (.builtin "isinstance") (rIsi K) := by
  subst hK
  exact call_isi
theorem crIsiT (K : PySem.W.Frag) (hK : X.K = K := by rfl) : CallR X (.builtin "isinstance") (rIsiT K) := by
  subst hK
  exact call_isiT
end
section
variable {P : Program} {w : World} {K : PySem.W.Frag} {mg : Str → Option Value} {base : Heap}
/-! ### what is a number -/
inductive Kd (H : Hp) : V → Prop where
  | int (i : Int) : Kd H (.int i)
  | bl (b : Bool) : Kd H (.bl b)
  | str (z : Str) : Kd H (.str z)
  | non : Kd H .non
  | tup {a : Addr} {xs : List V} (h : H a = some (.tup xs)) : Kd H (.ref a)
def isIntV : V → Bool
  | .int _ => true
  | _ => false
def isNumV : V → Bool
  | .int i => decide (0 ≤ i)
  | _ => false
def belowV : V → Int → Bool
  | .int i, m => decide (0 ≤ i) && decide (i < m)
  | _, _ => false
def spIsInt : Sp := fun vs H Q _ => ∃ v, vs = [v] ∧ Kd H v ∧ Q (.bl (isIntV v)) H
abbrev nIsInt : List Str := ["value"]
theorem scIsInt : FnScope nIsInt ["value"] (defScope sIsInt) := ⟨rfl, rfl, rfl, by decide +kernel, rfl, by decide +kernel, by decide +kernel⟩
theorem ok_IsInt {f : Addr} {fd : FuncData} (Fn : Fun K "is_integer" "is_integer" sIsInt f fd) (T : Txt K mg) : FnOk P w K mg base CX0 1 f fd ["value"] spIsInt := by
  refine Fn.ok scIsInt (fun vs H Q E h => ?_) (fun cdv A outer s H vs Q E hr h => ?_)
  · obtain ⟨v, rfl, _⟩ := h
    rfl
  · obtain ⟨v, rfl, hk, k⟩ := h
    refine ⟨_, (pss_one (ps_ret (pe_and (pe_callB (crIsi K) (by rfl) T.b_isinstance (by decide +kernel) (pa_cons (pv 0) (pa_cons (pe_bltn (v := .ty "int") (by rfl) T.b_int (by decide +kernel) rfl) pa_nil))) (pe_one (pe_not (pe_callB (crIsi K) (by rfl) T.b_isinstance (by decide +kernel) (pa_cons (pv 0) (pa_cons (pe_bltn (v := .ty "bool") (by rfl) T.b_bool (by decide +kernel) rfl) pa_nil)))))))), ?_⟩
    cases hk with
    | int i => exact ⟨_, rfl, _, _, _, _, _, rfl, .ty "int", .base (.int i), kit_ty (by decide +kernel), true, rfl, iteT ⟨_, rfl, _, _, _, _, _, rfl, .ty "bool", .base (.int i), kit_ty (by decide +kernel), false, rfl, k⟩⟩
    | bl b => exact ⟨_, rfl, _, _, _, _, _, rfl, .ty "int", .base (.bl b), kit_ty (by decide +kernel), true, rfl, iteT ⟨_, rfl, _, _, _, _, _, rfl, .ty "bool", .base (.bl b), kit_ty (by decide +kernel), true, rfl, k⟩⟩
    | str z => exact ⟨_, rfl, _, _, _, _, _, rfl, .ty "int", .base (.str z), kit_ty (by decide +kernel), false, rfl, iteF k⟩
    | non => exact ⟨_, rfl, _, _, _, _, _, rfl, .ty "int", .base .non, kit_ty (by decide +kernel), false, rfl, iteF k⟩
    | tup h => exact ⟨_, rfl, _, _, _, _, _, rfl, .ty "int", .base (.tup h), kit_ty (by decide +kernel), false, rfl, iteF k⟩
def spIsNum : Sp := fun vs H Q _ => ∃ v, vs = [v] ∧ Kd H v ∧ Q (.bl (isNumV v)) H
theorem scIsNum : FnScope nIsInt ["value"] (defScope sIsNum) := ⟨rfl, rfl, rfl, by decide +kernel, rfl, by decide +kernel, by decide +kernel⟩
theorem ok_IsNum {f : Addr} {fd : FuncData} (Fn : Fun K "is_number" "is_number" sIsNum f fd) (T : Txt K mg) (Oi : Own P w K mg base "is_integer" 1 ["value"] spIsInt) : FnOk P w K mg base CX0 2 f fd ["value"] spIsNum := by
  refine Fn.ok scIsNum (fun vs H Q E h => ?_) (fun cdv A outer s H vs Q E hr h => ?_)
  · obtain ⟨v, rfl, _⟩ := h
    rfl
  · obtain ⟨v, rfl, hk, k⟩ := h
    refine ⟨_, (pss_one (ps_ret (pe_and (pe_call Oi.G (hr.mono (by decide)) rfl Oi.m Oi.kp Oi.b .nil pass0 (pa_cons (pv 0) pa_nil)) (pe_one (pe_cmpR op_ge (pv 0) pe_int (nomark _)))))), ?_⟩
    refine ⟨_, rfl, _, rfl, hk, _, rfl, ?_⟩
    cases hk with
    | int i => exact iteT ⟨_, rfl, _, _, rfl, rfl, k⟩
    | bl b => exact iteF k
    | str z => exact iteF k
    | non => exact iteF k
    | tup h => exact iteF k
def spIsBelow : Sp := fun vs H Q _ => ∃ v m, vs = [v, .int m] ∧ Kd H v ∧ Q (.bl (belowV v m)) H
abbrev nIsBelow : List Str := ["value", "bound"]
theorem scIsBelow : FnScope nIsBelow ["value", "bound"] (defScope sIsBelow) := ⟨rfl, rfl, rfl, by decide +kernel, rfl, by decide +kernel, by decide +kernel⟩
theorem ok_IsBelow {f : Addr} {fd : FuncData} (Fn : Fun K "is_number_below" "is_number_below" sIsBelow f fd) (T : Txt K mg) (On : Own P w K mg base "is_number" 2 ["value"] spIsNum) : FnOk P w K mg base CX0 3 f fd ["value", "bound"] spIsBelow := by
  refine Fn.ok scIsBelow (fun vs H Q E h => ?_) (fun cdv A outer s H vs Q E hr h => ?_)
  · obtain ⟨v, m, rfl, _⟩ := h
    rfl
  · obtain ⟨v, m, rfl, hk, k⟩ := h
    refine ⟨_, (pss_one (ps_ret (pe_and (pe_call On.G (hr.mono (by decide)) rfl On.m On.kp On.b .nil pass0 (pa_cons (pv 0) pa_nil)) (pe_one (pe_cmpR opLt (pv 0) (pv 1) (nomark _)))))), ?_⟩
    refine ⟨_, rfl, _, rfl, hk, _, rfl, ?_⟩
    cases hk with
    | int i =>
      refine ite2 (fun h => ?_) (fun h => ?_)
      · have h' : decide (0 ≤ i) = true := h
        refine ⟨_, rfl, _, rfl, _, _, rfl, rfl, ?_⟩
        have k : Q (.bl (decide (0 ≤ i) && decide (i < m))) H := k
        rw [h', Bool.true_and] at k
        exact k
      · have h' : decide (0 ≤ i) = false := by
          cases e : decide (0 ≤ i) with
          | false => rfl
          | true => exact absurd e h
        have k : Q (.bl (decide (0 ≤ i) && decide (i < m))) H := k
        rw [h', Bool.false_and] at k
        exact k
    | bl b => exact iteF k
    | str z => exact iteF k
    | non => exact iteF k
    | tup h => exact iteF k
theorem tyL {H : Hp} {a : Addr} {xs : List V} (h : SqL K H a xs) : TyX K H (.ref a) (.type "list") := by
  rcases h with (h | ⟨o, h⟩) | ⟨o, its, n, h1, h2, _⟩
  · exact .base (.lst h)
  · exact .base (.frz h)
  · exact .kList h1 h2
def spIsSeq (K : PySem.W.Frag) : Sp := fun vs H Q _ => ∃ a xs, vs = [.ref a] ∧ SqL K H a xs ∧ ∀ H', Ex H H' → Q (.bl true) H'
theorem scIsSeq : FnScope nIsInt ["value"] (defScope sIsSeq) := ⟨rfl, rfl, rfl, by decide +kernel, rfl, by decide +kernel, by decide +kernel⟩
theorem ok_IsSeq {f : Addr} {fd : FuncData} (Fn : Fun K "is_sequence" "is_sequence" sIsSeq f fd) (T : Txt K mg) : FnOk P w K mg base CX0 1 f fd ["value"] (spIsSeq K) := by
  refine Fn.ok scIsSeq (fun vs H Q E h => ?_) (fun cdv A outer s H vs Q E hr h => ?_)
  · obtain ⟨a, xs, rfl, _⟩ := h
    rfl
  · obtain ⟨a, xs, rfl, ha, k⟩ := h
    refine ⟨_, (pss_one (ps_ret (pe_callB (crIsiT K) (by rfl) T.b_isinstance (by decide +kernel) (pa_cons (pv 0) (pa_cons (pe_tup (pa_cons (pe_bltn (v := .ty "list") (by rfl) T.b_list (by decide +kernel) rfl) (pa_cons (pe_bltn (v := .ty "tuple") (by rfl) T.b_tuple (by decide +kernel) rfl) pa_nil))) pa_nil))))), ?_⟩
    refine ⟨_, rfl, (by show 2 ≤ sizeLine; decide), fun t ht => ?_⟩
    refine ⟨_, t, _, _, _, _, rfl, upd_same, .cons (.ty "list") (.cons (.ty "tuple") .nil), tyL (ex_l (Ex.new ht) ha), (by rfl), k _ (Ex.new ht)⟩
end
end My
set_option maxHeartbeats 2000000
set_option Elab.async false
set_option linter.all false
set_option autoImplicit false
set_option maxRecDepth 100000
set_option maxHeartbeats 4000000
namespace My
open PySem PySem.Spec PyProof.Rows L2 Evl
/-- all but the deal's two lists stay -/
def ExD (a b : Addr) (H H' : Hp) : Prop := ∀ c o, H c = some o → c ≠ a → c ≠ b → H' c = some o
theorem ExD.refl {a b : Addr} {H : Hp} : ExD a b H H := fun _ _ h _ _ => h
theorem ExD.trans {a b : Addr} {H H1 H2 : Hp} (e : ExD a b H H1) (f : ExD a b H1 H2) : ExD a b H H2 := fun c o h n m => f c o (e c o h n m) n m
theorem exD_of {a b : Addr} {H H' : Hp} (e : Ex H H') : ExD a b H H' := fun c o h _ _ => e c o h
theorem ExD.ex {a b : Addr} {H0 H H' : Hp} (e : ExD a b H H') (e0 : Ex H0 H) (ha : H0 a = none) (hb : H0 b = none) : Ex H0 H' := fun c o h => e c o (e0 c o h) (ne_of_none h ha) (ne_of_none h hb)
theorem exD_put {a b : Addr} {H : Hp} {o : HO} : ExD a b H (upd H a o) := fun c u h n _ => by
  rw [upd_ne n]
  exact h
theorem exD_put2 {a b : Addr} {H : Hp} {o : HO} : ExD a b H (upd H b o) := fun c u h _ n => by
  rw [upd_ne n]
  exact h
/-- a deal: great cells, a blend -/
structure Deal (H : Hp) (a b : Addr) : Prop where
  ob : ∃ (cs : List Int) (z : Int), H a = some (.lst [.ref b, .int z]) ∧ H b = some (.lst (cs.map V.int)) ∧ (∀ c ∈ cs, 0 ≤ c) ∧ cs.length ≤ 48 ∧ 0 ≤ z ∧ z < 2147483647
  ne : a ≠ b
theorem Deal.ex {H H' : Hp} {a b : Addr} (h : Deal H a b) (e : Ex H H') : Deal H' a b := by
  obtain ⟨⟨cs, z, h1, h2, r⟩, ne⟩ := h
  exact ⟨⟨cs, z, e _ _ h1, e _ _ h2, r⟩, ne⟩
theorem Deal.lst {H : Hp} {a b : Addr} (h : Deal H a b) : (∃ xs, H a = some (.lst xs)) ∧ ∃ xs, H b = some (.lst xs) := by
  obtain ⟨⟨cs, z, h1, h2, r⟩, ne⟩ := h
  exact ⟨⟨_, h1⟩, ⟨_, h2⟩⟩
theorem Deal.fresh {H : Hp} {a b c : Addr} (h : Deal H a b) (hc : H c = none) : a ≠ c ∧ b ≠ c := by
  obtain ⟨⟨xs, h1⟩, ⟨ys, h2⟩⟩ := h.lst
  exact ⟨ne_of_none h1 hc, ne_of_none h2 hc⟩
theorem ExD.tex {a b : Addr} {H H' : Hp} (e : ExD a b H H') (d : Deal H a b) : TEx H H' := by
  obtain ⟨⟨xs, h1⟩, ⟨ys, h2⟩⟩ := d.lst
  refine ⟨fun c zs h => e c _ h ?_ ?_, fun c o u h => e c _ h ?_ ?_⟩
  · rintro rfl
    rw [h1] at h
    cases h
  · rintro rfl
    rw [h2] at h
    cases h
  · rintro rfl
    rw [h1] at h
    cases h
  · rintro rfl
    rw [h2] at h
    cases h
theorem ints_only (cs : List Int) : tupAll (cs.map PyData.int) = true := by
  rw [tupAll_iff]
  intro d hd
  obtain ⟨c, _, rfl⟩ := List.mem_map.mp hd
  rfl
/-- data that may be compared: lists of ints are -/
theorem shInts (cs : List Int) : SeqAt.shaped (.list (cs.map PyData.int)) = true := by
  have h1 : PyData.canLayAll0 (cs.map PyData.int) = true := by
    induction cs with
    | nil => rfl
    | cons c cs ih =>
      show (PyData.canLay0 (.int c) && PyData.canLayAll0 (cs.map PyData.int)) = true
      rw [ih]
      rfl
  have h2 : PyData.depthAll (cs.map PyData.int) ≤ 0 := by
    induction cs with
    | nil => exact Nat.le_refl _
    | cons c cs ih => exact Nat.max_le.mpr ⟨Nat.le_refl _, ih (by
        have e : (PyData.canLay0 (.int c) && PyData.canLayAll0 (cs.map PyData.int)) = true := h1
        rw [Bool.and_eq_true] at e
        exact e.2)⟩
  unfold SeqAt.shaped
  have e1 : PyData.canLay0 (.list (cs.map PyData.int)) = true := h1
  have e2 : PyData.depth (.list (cs.map PyData.int)) ≤ 64 := by
    show PyData.depthAll (cs.map PyData.int) + 1 ≤ 64
    omega
  rw [e1, decide_eq_true e2]
  rfl
theorem sh_nil : SeqAt.shaped (.list []) = true := shInts []
theorem eqv_nil' {ds : List PyData} : PyData.eqv (.list ds) (.list []) = ds.isEmpty := by
  cases ds with
  | nil => rfl
  | cons _ _ => rfl
theorem hu64 {A : Around} {k : Nat} (hr : Room k A) : A.units + 64 < cLine := by
  have := hr.un
  omega
theorem atI_last {xs : List V} {v : V} : atI (xs ++ [v]) (-1) = some v := by
  have h : ixN (xs ++ [v]).length (-1) = some xs.length := by
    unfold ixN
    rw [List.length_append, List.length_singleton, if_neg (by decide), if_pos (by omega)]
    congr 1
    omega
  unfold atI
  rw [h]
  simp
theorem iteT' {c : Bool} {A B : Prop} (hc : c = true) (h : A) : if c = true then A else B := by
  rw [if_pos hc]
  exact h
section
variable {P : Program} {w : World} {K : PySem.W.Frag} {mg : Str → Option Value} {base : Heap}
def spAny : Sp := fun vs H Q _ => ∃ (a b : Addr) (m : Int), vs = [.ref a, .int m] ∧ Deal H a b ∧ 1 ≤ m ∧ m ≤ 1000 ∧
  ∀ (d : Nat) H', (d : Int) < m → ExD a b H H' → Deal H' a b → Q (.int (d : Int)) H'
abbrev nAny : List Str := ["deal", "bound", "rest"]
theorem scAny : FnScope nAny ["deal", "bound"] (defScope sAny) := ⟨rfl, rfl, rfl, by decide +kernel, rfl, by decide +kernel, by decide +kernel⟩
theorem ok_Any {f : Addr} {fd : FuncData} (Fn : Fun K "_law_any" "_law_any" sAny f fd) (T : Txt K mg) : FnOk P w K mg base CX0 1 f fd ["deal", "bound"] spAny := by
  refine Fn.ok scAny (fun vs H Q E h => ?_) (fun cdv A outer s H vs Q E hr h => ?_)
  · obtain ⟨a, b, m, rfl, _⟩ := h
    rfl
  · obtain ⟨a, b, m, rfl, hD, m1, m2, k⟩ := h
    refine ⟨_, (pss_cut (ps_while PassesOwn.never (PW.pt (pw_and (pt_cmpR (opNeD K (hu64 hr)) (pe_ix (ixL K) (pv 0) pe_int (fun _ _ => rfl)) (pe_lst pa_nil) (nomark _)) (pw_and1 (pt_cmpR op_eq (pe_ix (ixL K) (pe_ix (ixL K) (pv 0) pe_int (fun _ _ => rfl)) (pe_un un_neg pe_int) (fun _ _ => rfl)) pe_int (nomark _))))) (pss_one (ps_expr (peBm0 K PySem.F.plainAttrs_list PySem.F.slot_list_pop PySem.F.type_list_pop mt_pop (pe_ix (ixL K) (pv 0) pe_int (fun _ _ => rfl))))))
  (pss_cons (ps_if (pt_cmpR (opNeD K (hu64 hr)) (pe_ix (ixL K) (pv 0) pe_int (fun _ _ => rfl)) (pe_lst pa_nil) (nomark _)) (pss_cons (ps_set (i := 2) scAny.nd rfl (by first | exact Or.inl rfl | exact Or.inr rfl) (pe_callTy crInt (by rfl) T.b_int (by decide +kernel) (pa_cons (peBm0 K PySem.F.plainAttrs_list PySem.F.slot_list_pop PySem.F.type_list_pop mt_pop (pe_ix (ixL K) (pv 0) pe_int (fun _ _ => rfl))) pa_nil)))
  (pss_cons (ps_expr (peBm K PySem.F.plainAttrs_list PySem.F.slot_list_append PySem.F.type_list_append mt_append (pe_ix (ixL K) (pv 0) pe_int (fun _ _ => rfl)) (pa_cons (pe_op op_fdiv (pv 2) (pv 1)) pa_nil)))
  (pss_one (ps_ret (pe_op op_mod (pe_callTy crInt (by rfl) T.b_int (by decide +kernel) (pa_cons (pv 2) pa_nil)) (pv 1)))))) pss_nil)
  (pss_cons (ps_asg (pe_op op_mod (pe_callTy crInt (by rfl) T.b_int (by decide +kernel) (pa_cons (pe_op op_add (pe_op op_mul (pe_ix (ixL K) (pv 0) pe_int (fun _ _ => rfl)) pe_int) pe_int) pa_nil)) pe_int) (pg_sub (pv 0) pe_int set_list))
  (pss_one (ps_ret (pe_op op_mod (pe_callTy crInt (by rfl) T.b_int (by decide +kernel) (pa_cons (pe_op op_fdiv (pe_ix (ixL K) (pv 0) pe_int (fun _ _ => rfl)) pe_int) pa_nil)) (pv 1))))))), ?_⟩
    obtain ⟨⟨cs0, z, ha, hb, hc, hl, z0, z1⟩, ne⟩ := hD
    refine ⟨fun σ' G => σ' = [some (.ref a), some (.int m), none] ∧ ∃ cs : List Int, ExD a b H G ∧ G a = some (.lst [.ref b, .int z]) ∧ G b = some (.lst (cs.map V.int)) ∧ (∀ c ∈ cs, 0 ≤ c) ∧ cs.length ≤ 48, ?_, ?_⟩
    · refine ⟨fun n σ G => ∃ cs : List Int, n = cs.length ∧ σ = [some (.ref a), some (.int m), none] ∧ ExD a b H G ∧ G a = some (.lst [.ref b, .int z]) ∧ G b = some (.lst (cs.map V.int)) ∧ (∀ c ∈ cs, 0 ≤ c) ∧ cs.length ≤ 48,
        ⟨_, cs0, rfl, rfl, ExD.refl, ha, hb, hc, hl⟩, ?_⟩
      rintro n σ G ⟨cs, rfl, rfl, eG, ga, gb, hc, hl⟩
      refine ⟨_, rfl, a, _, 0, .ref b, rfl, rfl, SqL.of ga, rfl, (by show 0 ≤ sizeLine; decide), fun p0 hp0 => ?_⟩
      have e1 : Ex G (upd G p0 (.lst [])) := Ex.new hp0
      have ga1 := e1 _ _ ga
      have gb1 := e1 _ _ gb
      refine ⟨.list (cs.map PyData.int), .list [], .lst (SqL.of gb1) (dpInts cs), .lst (SqL.of upd_same) .nil, shInts cs, sh_nil, ?_⟩
      have eG1 := eG.trans (exD_of e1)
      generalize upd G p0 (.lst []) = G1 at e1 ga1 gb1 eG1 ⊢
      rw [eqv_nil']
      refine ⟨_, rfl, ?_⟩
      rcases List.eq_nil_or_concat cs with rfl | ⟨c0, c, hcc⟩
      · exact iteF (iteF ⟨rfl, [], eG1, ga1, gb1, by simp, by simp⟩)
      · rw [List.concat_eq_append] at hcc
        subst hcc
        refine iteT' (by simp) ?_
        rw [List.map_append] at gb1
        refine ⟨_, rfl, a, _, 0, .ref b, rfl, rfl, SqL.of ga1, rfl, 1, rfl, b, _, -1, .int c, rfl, rfl, SqL.of gb1, atI_last, rfl, _, rfl, ?_⟩
        by_cases e : c = 0
        · subst e
          refine iteT ?_
          refine ⟨fun σ' G' => ∃ m', m' < (c0 ++ [(0 : Int)]).length ∧ ∃ cs : List Int, m' = cs.length ∧ σ' = [some (.ref a), some (.int m), none] ∧ ExD a b H G' ∧ G' a = some (.lst [.ref b, .int z]) ∧ G' b = some (.lst (cs.map V.int)) ∧ (∀ c ∈ cs, 0 ≤ c) ∧ cs.length ≤ 48, fun _ _ h => h, ?_⟩
          refine ⟨_, rfl, a, _, 0, .ref b, rfl, rfl, SqL.of ga1, rfl, .inl ⟨rfl, _, SqL.of gb1⟩, b, _, .int 0, rfl, rfl, gb1, (by simp), ?_⟩
          have edl : (c0.map V.int ++ [(0 : Int)].map V.int).dropLast = c0.map V.int := by simp
          rw [edl]
          refine ⟨_, (by simp), c0, rfl, rfl, eG1.trans exD_put2, ?_, upd_same, fun x hx => hc x (List.mem_append_left _ hx), ?_⟩
          · rw [upd_ne ne]
            exact ga1
          · rw [List.length_append] at hl
            omega
        · have hb' : decide (V.int c = V.int 0) = false := decide_eq_false fun z => e (by injection z)
          rw [hb']
          refine iteF ⟨rfl, c0 ++ [c], eG1, ga1, ?_, hc, hl⟩
          rw [List.map_append]
          exact gb1
    · rintro σ' G2 ⟨rfl, cs, e2, ga2, gb2, hc, hl⟩
      refine ⟨_, rfl, a, _, 0, .ref b, rfl, rfl, SqL.of ga2, rfl, (by show 0 ≤ sizeLine; decide), fun p3 hp3 => ?_⟩
      have e3 : Ex G2 (upd G2 p3 (.lst [])) := Ex.new hp3
      have ga3 := e3 _ _ ga2
      have gb3 := e3 _ _ gb2
      refine ⟨.list (cs.map PyData.int), .list [], .lst (SqL.of gb3) (dpInts cs), .lst (SqL.of upd_same) .nil, shInts cs, sh_nil, ?_⟩
      have eG3 := e2.trans (exD_of e3)
      generalize upd G2 p3 (.lst []) = G3 at e3 ga3 gb3 eG3 ⊢
      rw [eqv_nil']
      refine ⟨_, rfl, ?_⟩
      rcases List.eq_nil_or_concat cs with rfl | ⟨c0, c, hcc⟩
      · refine iteF ?_
        refine ⟨_, rfl, a, _, 1, .int z, rfl, rfl, SqL.of ga3, rfl, _, _, rfl, rfl, .inl ⟨by omega, by omega⟩, _, _, rfl, rfl, .inl ⟨_, rfl, _, _, rfl, rfl, (by show (0 : Int) < 2147483647; decide), _, rfl, a, _, 1, 1, rfl, rfl, ga3, rfl, _, rfl, ?_⟩⟩
        have w0 := Int.emod_nonneg (z * 69621 + 29) (show (2147483647 : Int) ≠ 0 by decide)
        have w1 := Int.emod_lt_of_pos (z * 69621 + 29) (show (0 : Int) < 2147483647 by decide)
        refine ⟨a, _, 1, .int ((z * 69621 + 29) % 2147483647), rfl, rfl, SqL.of upd_same, rfl, _, _, rfl, rfl, ⟨by decide, by decide⟩, .inl ⟨_, rfl, _, rfl, _, _, rfl, rfl, (by omega), ?_⟩⟩
        obtain ⟨d, hd⟩ := Int.eq_ofNat_of_zero_le (Int.emod_nonneg ((z * 69621 + 29) % 2147483647 / 64) (show m ≠ 0 by omega))
        have hlt := Int.emod_lt_of_pos ((z * 69621 + 29) % 2147483647 / 64) (show 0 < m by omega)
        rw [hd] at hlt
        show Q (.int ((z * 69621 + 29) % 2147483647 / 64 % m)) _
        rw [hd]
        exact k d _ hlt (eG3.trans exD_put) ⟨⟨[], _, upd_same, by rw [upd_ne ne.symm]; exact gb3, by simp, by simp, w0, w1⟩, ne⟩
      · rw [List.concat_eq_append] at hcc
        subst hcc
        refine iteT' (by simp) ?_
        rw [List.map_append] at gb3
        have hc0 := hc c (by simp)
        refine ⟨_, rfl, a, _, 0, .ref b, rfl, rfl, SqL.of ga3, rfl, .inl ⟨rfl, _, SqL.of gb3⟩, b, _, .int c, rfl, rfl, gb3, (by simp), .inl ⟨c, rfl, ?_⟩⟩
        have edl : (c0.map V.int ++ [c].map V.int).dropLast = c0.map V.int := by simp
        rw [edl]
        have ga4 : upd G3 b (.lst (c0.map V.int)) a = some (.lst [.ref b, .int z]) := by
          rw [upd_ne ne]
          exact ga3
        refine ⟨_, rfl, a, _, 0, .ref b, rfl, rfl, SqL.of ga4, rfl, .inl ⟨rfl, _, SqL.of upd_same⟩, _, rfl, _, rfl, c, m, rfl, rfl, ⟨by omega, by omega⟩, b, _, .int (c / m), rfl, rfl, upd_same, ?_, ?_⟩
        · rw [List.length_map, sizeLine_eq]
          rw [List.length_append] at hl
          omega
        refine ⟨_, rfl, .inl ⟨_, rfl, _, rfl, _, _, rfl, rfl, (by omega), ?_⟩⟩
        obtain ⟨d, hd⟩ := Int.eq_ofNat_of_zero_le (Int.emod_nonneg c (show m ≠ 0 by omega))
        have hlt := Int.emod_lt_of_pos c (show 0 < m by omega)
        rw [hd] at hlt
        show Q (.int (c % m)) _
        rw [hd]
        refine k d _ hlt ((eG3.trans exD_put2).trans exD_put2) ⟨⟨c0 ++ [c / m], z, ?_, ?_, fun x hx => ?_, ?_, z0, z1⟩, ne⟩
        · rw [upd_ne ne]
          exact ga4
        · rw [upd_same, List.map_append]
          rfl
        · rcases List.mem_append.mp hx with hx | hx
          · exact hc x (List.mem_append_left _ hx)
          · simp at hx
            subst hx
            exact Int.ediv_nonneg hc0 (by omega)
        · rw [List.length_append] at hl ⊢
          exact hl
end
end My
set_option maxHeartbeats 2000000
set_option Elab.async false
set_option linter.all false
set_option autoImplicit false
set_option maxRecDepth 100000
set_option maxHeartbeats 4000000
namespace My
open PySem PySem.Spec PyProof.Rows L2 Evl
theorem slL {X : Cx} (K : PySem.W.Frag) (hK : X.K = K := by rfl) : SlR X (rSlL K) := by
  subst hK
  exact sl_list
theorem dpInts_eq {K : PySem.W.Frag} {H : Hp} : ∀ {ys : List V} {ns : List Int}, DpAll K H ys (ns.map PyData.int) → ys = ns.map V.int
  | [], [], _ => rfl
  | [], _ :: _, h => by cases h
  | _ :: _, [], h => by cases h
  | y :: ys, n :: ns, h => by
    cases h with
    | cons h t =>
      have e := dp_int h
      subst e
      rw [dpInts_eq t]
      rfl
theorem iteF' {c : Bool} {A B : Prop} (hc : c = false) (h : B) : if c = true then A else B := by
  rw [hc]
  exact iteF h
theorem intAt {ns : List Int} {j : Nat} (h : j < ns.length) : (ns.map V.int)[j]? = some (.int (ns[j])) := by
  rw [List.getElem?_map, List.getElem?_eq_getElem h]
  rfl
theorem fresh_back {H H' : Hp} {p : Addr} (e : Ex H H') (h : H' p = none) : H p = none := by
  cases q : H p with
  | none => rfl
  | some o =>
    rw [e p o q] at h
    cases h
theorem cut48 {ns : List Int} : ∃ ms : List Int, cutV (ns.map V.int) none (some 48) = ms.map V.int ∧ ms.length ≤ 48 := by
  unfold cutV
  refine ⟨_, by rw [← List.map_drop, ← List.map_take], ?_⟩
  rw [List.length_take]
  have h : HT.sIx (ns.map V.int).length (ns.map V.int).length (some 48) ≤ 48 := by
    show (if (48 : Int) < 0 then ((48 : Int) + ((ns.map V.int).length : Int)).toNat else min (48 : Int).toNat (ns.map V.int).length) ≤ 48
    rw [if_neg (by decide)]
    exact Nat.min_le_left _ _
  omega
section
variable {P : Program} {w : World} {K : PySem.W.Frag} {mg : Str → Option Value} {base : Heap}
def spDealt (K : PySem.W.Frag) : Sp := fun vs H Q _ => ∃ (s : Addr) (ns : List Int) (j : Nat), vs = [.ref s, .int (j : Int)] ∧ SqL K H s (ns.map V.int) ∧ ns.length ≤ 63 ∧ j ≤ 100 ∧
  ∀ a b H', Ex H H' → H a = none → H b = none → Deal H' a b → Q (.ref a) H'
abbrev nDealt : List Str := ["script", "base", "cells", "blend", "cell"]
theorem scDealt : FnScope nDealt ["script", "base"] (defScope sDealt) := ⟨rfl, rfl, rfl, by decide +kernel, rfl, by decide +kernel, by decide +kernel⟩
theorem ok_Dealt {f : Addr} {fd : FuncData} (Fn : Fun K "_law_dealt" "_law_dealt" sDealt f fd) (T : Txt K mg) : FnOk P w K mg base CX0 1 f fd ["script", "base"] (spDealt K) := by
  refine Fn.ok scDealt (fun vs H Q E h => ?_) (fun cdv A outer s H vs Q E hr h => ?_)
  · obtain ⟨a, ns, j, rfl, _⟩ := h
    rfl
  · obtain ⟨sc, ns, j, rfl, hS, hl, hj, k⟩ := h
    refine ⟨_, (pss_cons (ps_setLc (i := 2) (own := [("cell", 4)]) rfl scDealt.nd rfl rfl (sw_true rfl rfl rfl (by decide +kernel)) (piL K (pe_slice (slL K) (pv 0) po_none (po_some pe_int))) (blkOk_by (N := nDealt) (sc := defScope sDealt) (by decide +kernel)) (fun _ _ _ _ _ => (pg_name (i := 4) scDealt.nd rfl (by first | exact Or.inl rfl | exact Or.inr rfl))) (fun _ _ _ _ _ => pts_nil) (fun _ _ _ _ _ => (pe_callB call_abs (by rfl) T.b_abs (by decide +kernel) (pa_cons (pe_callTy crInt (by rfl) T.b_int (by decide +kernel) (pa_cons (pv 4) pa_nil)) pa_nil))))
  (pss_cons (ps_set (i := 3) scDealt.nd rfl (by first | exact Or.inl rfl | exact Or.inr rfl) (pe_op op_add pe_int (pe_op op_mul pe_int (pv 1))))
  (pss_cons (ps_for PassesOwn.never rfl (piL K (pv 2)) (pg_name (i := 4) scDealt.nd rfl (by first | exact Or.inl rfl | exact Or.inr rfl)) (pss_one (ps_set (i := 3) scDealt.nd rfl (by first | exact Or.inl rfl | exact Or.inr rfl) (pe_op op_mod (pe_callTy crInt (by rfl) T.b_int (by decide +kernel) (pa_cons (pe_op op_add (pe_op op_add (pe_op op_mul (pv 3) pe_int) (pe_op op_mod (pv 4) pe_int)) pe_int) pa_nil)) pe_int))))
  (pss_one (ps_ret (pe_lst (pa_cons (pe_revL (pe_lc (own := [("cell", 4)]) rfl scDealt.nd (piL K (pv 2)) (blkOk_by (N := nDealt) (sc := defScope sDealt) (by decide +kernel)) (fun _ _ _ _ _ => (pg_name (i := 4) scDealt.nd rfl (by first | exact Or.inl rfl | exact Or.inr rfl))) (fun _ _ _ _ _ => (pts_one (pt_cmpR op_ge (pv 4) (pe_op op_pow pe_int pe_int) (nomark _)))) (fun _ _ _ _ _ => (pv 4)))) (pa_cons (pv 3) pa_nil)))))))), ?_⟩
    obtain ⟨ms, hms, lms⟩ := cut48 (ns := ns)
    refine ⟨_, rfl, 48, rfl, sc, _, rfl, hS, fun p hp => ?_⟩
    rw [hms]
    have e1 : Ex H (upd H p (.lst (ms.map V.int))) := Ex.new hp
    have hp1 : upd H p (.lst (ms.map V.int)) p = some (.lst (ms.map V.int)) := upd_same
    generalize upd H p (.lst (ms.map V.int)) = H1 at e1 hp1 ⊢
    refine ⟨p, rfl, ⟨_, SqL.of hp1⟩, fun D hD => ?_⟩
    have lm : (ms.map V.int).length = ms.length := List.length_map _
    refine lcDA (K := K) (walk_list (K := K) (a := p) (xs := ms.map V.int)) (fun i => .int (if ms.getD i 0 < 0 then -(ms.getD i 0) else ms.getD i 0)) (by rw [lm]; omega) hD (fun _ e => ex_l e (SqL.of hp1)) ?_ ?_
    · rintro i u G2 G1 hi e2 ⟨rfl, hu⟩ A2 hA2
      rw [lm] at hi
      rw [intAt hi] at hu
      cases hu
      have g0 : ms.getD i 0 = ms[i] := by
        rw [List.getD_eq_getElem?_getD, List.getElem?_eq_getElem hi]
        rfl
      rw [g0] at hA2
      exact ⟨by rfl, _, rfl, .inl ⟨_, rfl, _, rfl, hA2 _ _ (Ex.refl _) (.int _)⟩⟩
    intro H2 ys e2 hD2 hys
    rw [lm] at hys
    obtain ⟨cs, hcs⟩ : ∃ cs : List Int, cs = (List.range ms.length).map fun i => if ms.getD i 0 < 0 then -(ms.getD i 0) else ms.getD i 0 := ⟨_, rfl⟩
    have hys' : ys = cs.map V.int := dpInts_eq (by
      rw [hcs, List.map_map]
      exact hys)
    subst hys'
    have c0 : ∀ c ∈ cs, 0 ≤ c := fun c hc => by
      rw [hcs] at hc
      obtain ⟨i, _, rfl⟩ := List.mem_map.mp hc
      split <;> omega
    have lcs : cs.length ≤ 48 := by
      rw [hcs, List.length_map, List.length_range]
      exact lms
    clear hcs hys
    have e02 := e1.trans e2
    refine ⟨_, rfl, _, _, rfl, rfl, .inl ⟨by omega, by omega⟩, ?_⟩
    refine ⟨_, _, rfl, rfl, ?_⟩
    have lc : (cs.map V.int).length = cs.length := List.length_map _
    refine ⟨_, rfl, D, rfl, ⟨_, SqL.of hD2⟩, for_it (walk_list (K := K) (a := D) (xs := cs.map V.int)) (fun i σ G => G = H2 ∧ ∃ (z : Int) (v4 : Option V), σ = [some (.ref sc), some (.int (j : Int)), some (.ref D), some (.int z), v4] ∧ 0 ≤ z ∧ z < 2147483647)
      ⟨rfl, _, _, rfl, by omega, by omega⟩ (fun i σ G _ h => by rw [h.1]; exact SqL.of hD2) ?_ ?_⟩
    · rintro i u σ G G' hi ⟨rfl, z, v4, rfl, z0, z1⟩ ⟨rfl, hu⟩
      rw [lc] at hi
      rw [intAt hi] at hu
      cases hu
      have a0 := Int.emod_nonneg (cs[i]) (show (2147483629 : Int) ≠ 0 by decide)
      have a1 := Int.emod_lt_of_pos (cs[i]) (show (0 : Int) < 2147483629 by decide)
      have b0 := Int.emod_nonneg (z * 69621 + cs[i] % 2147483629 + 29) (show (2147483647 : Int) ≠ 0 by decide)
      have b1 := Int.emod_lt_of_pos (z * 69621 + cs[i] % 2147483629 + 29) (show (0 : Int) < 2147483647 by decide)
      exact ⟨_, rfl, _, _, rfl, rfl, .inl ⟨by omega, by omega⟩, _, rfl, _, _, rfl, rfl, (by show (0 : Int) < 2147483629; decide), _, _, rfl, rfl, _, _, rfl, rfl, .inl ⟨_, rfl, _, _, rfl, rfl, (by show (0 : Int) < 2147483647; decide), ⟨rfl, _, _, rfl, b0, b1⟩⟩⟩
    · rintro σ G ⟨rfl, z, v4, rfl, z0, z1⟩
      refine ⟨_, rfl, D, rfl, ⟨_, SqL.of hD2⟩, fun D2 hD3 => ?_⟩
      refine lcD (K := K) (walk_list (K := K) (a := D) (xs := cs.map V.int)) (fun i => decide (10 ^ 18 ≤ cs.getD i 0)) (fun i => .int (cs.getD i 0)) (by rw [lc]; omega) hD3 (fun _ e => ex_l e (SqL.of hD2)) ?_ ?_
      · rintro i u G2 G1 hi e3 ⟨rfl, hu⟩ N A2 ⟨itN, itA⟩
        rw [lc] at hi
        rw [intAt hi] at hu
        cases hu
        have g0 : cs.getD i 0 = cs[i] := by
          rw [List.getD_eq_getElem?_getD, List.getElem?_eq_getElem hi]
          rfl
        rw [g0] at itN itA
        refine ⟨by rfl, _, rfl, _, _, rfl, rfl, ⟨by decide, by decide, by decide⟩, _, _, rfl, rfl, _, rfl, ?_⟩
        cases wv : decide ((10 : Int) ^ 18 ≤ cs[i]) with
        | true =>
          refine iteT' wv ?_
          exact ⟨_, rfl, itA wv _ _ (Ex.refl _) (.int _)⟩
        | false =>
          refine iteF' wv ?_
          exact itN wv _ (Ex.refl _)
      · intro H4 zs e4 hD4 hzs
        obtain ⟨gs, hgs⟩ : ∃ gs : List Int, gs = ((List.range (cs.map V.int).length).filter fun i => decide (10 ^ 18 ≤ cs.getD i 0)).map fun i => cs.getD i 0 := ⟨_, rfl⟩
        have hz' : zs = gs.map V.int := dpInts_eq (by
          rw [hgs, List.map_map]
          exact hzs)
        subst hz'
        have g0 : ∀ c ∈ gs, 0 ≤ c := fun c hc => by
          rw [hgs] at hc
          obtain ⟨i, hi, rfl⟩ := List.mem_map.mp hc
          have hi := of_decide_eq_true (List.mem_filter.mp hi).2
          omega
        have lgs : gs.length ≤ 48 := by
          rw [hgs, List.length_map]
          exact Nat.le_trans (List.length_filter_le _ _) (by rw [List.length_range, lc]; exact lcs)
        refine ⟨D2, _, rfl, SqL.of hD4, fun q hq => ⟨_, rfl, (by show 2 ≤ sizeLine; decide), fun r hr' => ?_⟩⟩
        have e5 : Ex H4 (upd H4 q (.lst (gs.map V.int).reverse)) := Ex.new hq
        have e6 : Ex (upd H4 q (.lst (gs.map V.int).reverse)) (upd (upd H4 q (.lst (gs.map V.int).reverse)) r (.lst [.ref q, .int z])) := Ex.new hr'
        have e46 := ((e02.trans e4).trans e5).trans e6
        have nrq : r ≠ q := (ne_of_none upd_same hr').symm
        refine k r q _ e46 (fresh_back ((e02.trans e4).trans e5) hr') (fresh_back (e02.trans e4) hq) ⟨⟨gs.reverse, z, upd_same, ?_, fun c hc => g0 c (List.mem_reverse.mp hc), by rw [List.length_reverse]; exact lgs, z0, z1⟩, nrq⟩
        rw [upd_ne nrq.symm, upd_same, List.map_reverse]
end
end My
set_option maxHeartbeats 2000000
set_option Elab.async false
set_option linter.all false
set_option autoImplicit false
set_option maxRecDepth 100000
set_option maxHeartbeats 4000000
namespace My
open PySem PySem.Spec PyProof.Rows L2 Evl
/-- what is new since a heap in which the deal stood stays -/
theorem ExD.nw {a b : Addr} {H0 H H' : Hp} (e : ExD a b H H') (ha : ∃ o, H0 a = some o) (hb : ∃ o, H0 b = some o) : Ex (nw H0 H) (nw H0 H') := fun c o hc => by
  obtain ⟨h1, h2⟩ := nw_get hc
  obtain ⟨oa, ha⟩ := ha
  obtain ⟨ob, hb⟩ := hb
  rw [nw_none h1]
  exact e c o h2 (fun z => by rw [z, ha] at h1; cases h1) (fun z => by rw [z, hb] at h1; cases h1)
def oN : Option Nat → PyData
  | none => .none
  | some k => .int (k : Int)
def oW : Option Nat → V
  | none => .non
  | some k => .int (k : Int)
theorem dp_oN {K : PySem.W.Frag} {H : Hp} {o : Option Nat} : Dp K H (oW o) (oN o) := by
  cases o with
  | none => exact .non
  | some k => exact .int _
theorem dpAll_oN {K : PySem.W.Frag} {H : Hp} (l : List (Option Nat)) : DpAll K H (l.map oW) (l.map oN) := dpAll_map l fun _ _ => dp_oN
theorem dpAll_oN_eq {K : PySem.W.Frag} {H : Hp} : ∀ {ys : List V} {l : List (Option Nat)}, DpAll K H ys (l.map oN) → ys = l.map oW
  | [], [], _ => rfl
  | [], _ :: _, h => by cases h
  | _ :: _, [], h => by cases h
  | y :: ys, o :: l, h => by
    cases h with
    | cons h t =>
      rw [dpAll_oN_eq t]
      cases o with
      | none =>
        have e := dp_non h
        subst e
        rfl
      | some k =>
        have e := dp_int h
        subst e
        rfl
def rowN (r : List (Option Nat)) : PyData := .list (r.map oN)
def waysN (ws : List (List (Option Nat))) : PyData := .list (ws.map rowN)
structure WaysOk (k : Nat) (ws : List (List (Option Nat))) : Prop where
  len : ∀ r ∈ ws, r.length = k
  lt : ∀ r ∈ ws, ∀ s, some s ∈ r → s < ws.length
def L8 : List Str := ["ab", "a0", "abc", "0", "bd1", "a", "", "01"]
section
variable {P : Program} {w : World} {K : PySem.W.Frag} {mg : Str → Option Value} {base : Heap}
def spOf : Sp := fun vs H Q _ => ∃ (a b s : Addr) (xs : List V), vs = [.ref a, .ref s] ∧ Deal H a b ∧ H s = some (.lst xs) ∧ s ≠ a ∧ s ≠ b ∧ 1 ≤ xs.length ∧ xs.length ≤ 100 ∧
  ∀ (i : Nat) v H', xs[i]? = some v → ExD a b H H' → Deal H' a b → Q v H'
abbrev nOf : List Str := ["deal", "some"]
theorem scOf : FnScope nOf ["deal", "some"] (defScope sOf) := ⟨rfl, rfl, rfl, by decide +kernel, rfl, by decide +kernel, by decide +kernel⟩
theorem ok_Of {f : Addr} {fd : FuncData} (Fn : Fun K "_law_of" "_law_of" sOf f fd) (T : Txt K mg) (Oa : Own P w K mg base "_law_any" 1 ["deal", "bound"] spAny) : FnOk P w K mg base CX0 2 f fd ["deal", "some"] spOf := by
  refine Fn.ok scOf (fun vs H Q E h => ?_) (fun cdv A outer s H vs Q E hr h => ?_)
  · obtain ⟨a, b, s, xs, rfl, _⟩ := h
    rfl
  · obtain ⟨a, b, so, xs, rfl, hD, hs, n1, n2, l1, l2, k⟩ := h
    refine ⟨_, (pss_one (ps_ret (pe_ix (ixL K) (pv 1) (pe_call Oa.G (hr.mono (by decide)) rfl Oa.m Oa.kp Oa.b .nil pass0 (pa_cons (pv 0) (pa_cons (pe_callB (crLen K) (by rfl) T.b_len PySem.boot_len (pa_cons (pv 1) pa_nil)) pa_nil))) (fun _ _ => rfl)))), ?_⟩
    refine ⟨_, rfl, _, rfl, _, rfl, so, _, rfl, .inl (SqL.of hs), a, b, _, rfl, hD, (by omega), (by omega), fun d H' hd e hD' => ?_⟩
    have hd : d < xs.length := by omega
    exact ⟨so, xs, _, _, rfl, rfl, SqL.of (e _ _ hs n1 n2), atI_nat (List.getElem?_eq_getElem hd), k d _ H' (List.getElem?_eq_getElem hd) e hD'⟩
end
section
variable {K : PySem.W.Frag} {J : It} {n : Nat} {G : Hp → Prop} {Y : Nat → Hp → V → Hp → Prop}
/-- values that are collected while the deal is drawn from -/
theorem lcDl {a b : Addr} (w : Walk J n G Y) {g : TG} {te : TE} {vs : List Nat} {σ : L2.St} {H1 : Hp} {D : Addr} {Qd : Hp → Prop} (C : V → Prop) (hn : n ≤ 1000) (hD : H1 D = none) (hB : Deal H1 a b) (hG : ∀ H, G H)
    (hs : ∀ i x H H', i < n → ExD a b H1 H → Deal H a b → Y i H x H' → ∀ (A : V → Hp → Prop), (∀ v H4, C v → ExD a b H H4 → Deal H4 a b → A v H4) →
      g x (wipe σ vs) H' fun σ2 H2 => wipe σ2 vs = wipe σ vs ∧ te σ2 H2 A)
    (hd : ∀ (H : Hp) (ys : List V), ExD a b H1 H → Deal H a b → H D = some (.lst ys) → (∀ v ∈ ys, C v) → ys.length = n → Qd H) :
    ∃ W : Nat → Nat → Hp → Prop, (∃ m, W 0 m (upd H1 D (.lst []))) ∧ ∀ i m H, W i m H →
      (J.stop i H ∧ Qd H) ∨ (J.go i H ∧ ∃ Nx : Hp → Prop, (∀ H', Nx H' → ∃ m', m' < m ∧ W (i + 1) m' H') ∧ ∀ x H', J.yld i H x H' → g x (wipe σ vs) H' fun σ2 H2 => wipe σ2 vs = wipe σ vs ∧ tYes σ2 H2 fun b H3 =>
        if b = true then te σ2 H3 fun y H4 => ∃ acc, H4 D = some (.lst acc) ∧ acc.length < sizeLine ∧ Nx (upd H4 D (.lst (acc ++ [y]))) else Nx H3) := by
  obtain ⟨nA, nB⟩ := hB.fresh hD
  have mtD : ∀ {H : Hp} {o : HO}, ExD a b H1 H → ExD a b H1 (upd H D o) := fun e c u hc m1 m2 => by
    rw [upd_ne (ne_of_none hc hD)]
    exact e c u hc m1 m2
  have still : ∀ {H : Hp} {o : HO}, Deal H a b → Deal (upd H D o) a b := fun d => by
    obtain ⟨⟨cs, z, h1, h2, r⟩, ne⟩ := d
    exact ⟨⟨cs, z, by rw [upd_ne nA]; exact h1, by rw [upd_ne nB]; exact h2, r⟩, ne⟩
  refine lcA w (fun i H => ExD a b H1 H ∧ Deal H a b ∧ ∃ ys, H D = some (.lst ys) ∧ (∀ v ∈ ys, C v) ∧ ys.length = i)
    ⟨mtD ExD.refl, still hB, [], upd_same, by simp, rfl⟩ (fun _ H _ _ => hG H) ?_ ?_
  · rintro i x H H' hi ⟨e1, hB1, ys, hy, hC, hl⟩ y
    refine hs i x H H' hi e1 hB1 y _ fun v H4 hv e4 hB4 => ⟨ys, e4 _ _ hy nA.symm nB.symm, sz_lt (by omega), mtD (e1.trans e4), still hB4, ys ++ [v], upd_same, fun u hu => ?_, by rw [List.length_append, List.length_singleton, hl]⟩
    rcases List.mem_append.mp hu with hu | hu
    · exact hC u hu
    · simp at hu
      subst hu
      exact hv
  · rintro H ⟨e1, hB1, ys, hy, hC, hl⟩
    exact hd H ys e1 hB1 hy hC hl
end
end My
set_option maxHeartbeats 2000000
set_option Elab.async false
set_option linter.all false
set_option autoImplicit false
set_option maxRecDepth 100000
set_option maxHeartbeats 8000000
namespace My
open PySem PySem.Spec PyProof.Rows L2 Evl
theorem walk_r0 {n : Nat} : Walk (Itr 0 n) n (fun _ => True) (YFn fun i => V.int ((i : Nat) : Int)) := by
  have e : (fun i : Nat => V.int ((i : Nat) : Int)) = fun i : Nat => V.int (0 + (i : Int)) := by
    funext i
    rw [Int.zero_add]
  rw [e]
  exact walk_range
/-- what leads no further falls away -/
def cutW (i : Nat) : Option Nat → Option Nat
  | none => none
  | some t => if t ≤ i then none else some t
theorem l8_len {z : Str} (h : z ∈ L8) : z.cps.size ≤ 3 := by
  have : ∀ z ∈ L8, z.cps.size ≤ 3 := by decide +kernel
  exact this z h
theorem all_oW {n : Nat} : ∀ {ys : List V}, (∀ v ∈ ys, ∃ o : Option Nat, v = oW o ∧ ∀ s, o = some s → s < n) → ∃ r : List (Option Nat), ys = r.map oW ∧ ∀ s, some s ∈ r → s < n
  | [], _ => ⟨[], rfl, by simp⟩
  | y :: ys, h => by
    obtain ⟨o, e, ho⟩ := h y List.mem_cons_self
    obtain ⟨r, e2, hr⟩ := all_oW fun v hv => h v (List.mem_cons_of_mem _ hv)
    refine ⟨o :: r, by rw [e, e2]; rfl, fun s hs => ?_⟩
    rcases List.mem_cons.mp hs with q | q
    · exact ho s q.symm
    · exact hr s q
section
variable {P : Program} {w : World} {K : PySem.W.Frag} {mg : Str → Option Value} {base : Heap}
/-- a drawn machine, new since H -/
structure Drawn (K : PySem.W.Frag) (H H' : Hp) (p : Addr) (z : Str) (ws : List (List (Option Nat))) (f : Nat) : Prop where
  new : H p = none
  ob : ∃ wa, H' p = some (.lst [.str z, .ref wa, .int (f : Int)]) ∧ Dp K (nw H H') (.ref wa) (waysN ws)
  z8 : z ∈ L8
  ok : WaysOk z.cps.size ws
  n1 : 1 ≤ ws.length
  n7 : ws.length ≤ 7
  hf : f < ws.length
def spMach (K : PySem.W.Frag) : Sp := fun vs H Q _ => ∃ (a b : Addr), vs = [.ref a, .int 7] ∧ Deal H a b ∧
  ∀ p z ws f H', ExD a b H H' → Deal H' a b → Drawn K H H' p z ws f → Q (.ref p) H'
abbrev nMach : List Str := ["deal", "most", "letters", "states", "holes", "ways", "state", "row", "letter", "after"]
theorem scMach : FnScope nMach ["deal", "most"] (defScope sMach) := ⟨rfl, rfl, rfl, by decide +kernel, rfl, by decide +kernel, by decide +kernel⟩
theorem ok_Mach {f : Addr} {fd : FuncData} (Fn : Fun K "_law_machine" "_law_machine" sMach f fd) (T : Txt K mg) (Oa : Own P w K mg base "_law_any" 1 ["deal", "bound"] spAny) (Oo : Own P w K mg base "_law_of" 2 ["deal", "some"] spOf) : FnOk P w K mg base CX0 3 f fd ["deal", "most"] (spMach K) := by
  refine Fn.ok scMach (fun vs H Q E h => ?_) (fun cdv A outer s H vs Q E hr h => ?_)
  · obtain ⟨a, b, rfl, _⟩ := h
    rfl
  · obtain ⟨a, b, rfl, hD, k⟩ := h
    refine ⟨_, (pss_cut (ps_set (i := 2) scMach.nd rfl (by first | exact Or.inl rfl | exact Or.inr rfl) (pe_call Oo.G (hr.mono (by decide)) rfl Oo.m Oo.kp Oo.b .nil pass0 (pa_cons (pv 0) (pa_cons (pe_lst (pa_cons pe_str (pa_cons pe_str (pa_cons pe_str (pa_cons pe_str (pa_cons pe_str (pa_cons pe_str (pa_cons pe_str (pa_cons pe_str pa_nil))))))))) pa_nil))))
  (pss_cut (ps_asg (pe_tup (pa_cons (pe_op op_add pe_int (pe_call Oa.G (hr.mono (by decide)) rfl Oa.m Oa.kp Oa.b .nil pass0 (pa_cons (pv 0) (pa_cons (pv 1) pa_nil)))) (pa_cons (pe_call Oo.G (hr.mono (by decide)) rfl Oo.m Oo.kp Oo.b .nil pass0 (pa_cons (pv 0) (pa_cons (pe_lst (pa_cons pe_int (pa_cons pe_int (pa_cons pe_int (pa_cons pe_int pa_nil))))) pa_nil))) pa_nil))) (pgT K (n := 2) (by rfl) (pgs_cons (pg_name (i := 3) scMach.nd rfl (by first | exact Or.inl rfl | exact Or.inr rfl)) (pgs_cons (pg_name (i := 4) scMach.nd rfl (by first | exact Or.inl rfl | exact Or.inr rfl)) pgs_nil))))
  (pss_cons (ps_set (i := 5) scMach.nd rfl (by first | exact Or.inl rfl | exact Or.inr rfl) (pe_lst pa_nil))
  (pss_cons (ps_for PassesOwn.never rfl (pi_range1 (by rfl) T.b_range (pa_cons (pv 3) pa_nil)) (pg_name (i := 6) scMach.nd rfl (by first | exact Or.inl rfl | exact Or.inr rfl)) (pss_cut (ps_setLc (i := 7) (own := [("letter", 8)]) rfl scMach.nd rfl rfl (sw_true rfl rfl rfl (by decide +kernel)) (pi_str (pv 2)) (blkOk_by (N := nMach) (sc := defScope sMach) (by decide +kernel)) (fun _ _ _ _ _ => (pg_name (i := 8) scMach.nd rfl (by first | exact Or.inl rfl | exact Or.inr rfl))) (fun _ _ _ _ _ => pts_nil) (fun _ _ _ _ _ => (pe_ifExp (pt_cmpR op_eq (pe_call Oa.G (hr.mono (by decide)) rfl Oa.m Oa.kp Oa.b .nil pass0 (pa_cons (pv 0) (pa_cons (pv 4) pa_nil))) pe_int (nomark _)) pe_non (pe_call Oa.G (hr.mono (by decide)) rfl Oa.m Oa.kp Oa.b .nil pass0 (pa_cons (pv 0) (pa_cons (pv 3) pa_nil))))))
  (pss_cut (ps_if (pt_cmpR op_eq (pe_call Oa.G (hr.mono (by decide)) rfl Oa.m Oa.kp Oa.b .nil pass0 (pa_cons (pv 0) (pa_cons pe_int pa_nil))) pe_int (nomark _)) (pss_one (ps_setLc (i := 7) (own := [("after", 9)]) rfl scMach.nd rfl rfl (sw_true rfl rfl rfl (by decide +kernel)) (piL K (pv 7)) (blkOk_by (N := nMach) (sc := defScope sMach) (by decide +kernel)) (fun _ _ _ _ _ => (pg_name (i := 9) scMach.nd rfl (by first | exact Or.inl rfl | exact Or.inr rfl))) (fun _ _ _ _ _ => pts_nil) (fun _ _ _ _ _ => (pe_ifExp (PW.pt (pw_or (pt_cmpR opIsN (pv 9) pe_non (nomark _)) (pw_or1 (pt_cmpR op_le (pv 9) (pv 6) (nomark _))))) pe_non (pv 9))))) pss_nil)
  (pss_one (ps_expr (peBm K PySem.F.plainAttrs_list PySem.F.slot_list_append PySem.F.type_list_append mt_append (pv 5) (pa_cons (pv 7) pa_nil)))))))
  (pss_one (ps_ret (pe_lst (pa_cons (pv 2) (pa_cons (pv 5) (pa_cons (pe_ifExp (pt_cmpR op_eq (pe_call Oa.G (hr.mono (by decide)) rfl Oa.m Oa.kp Oa.b .nil pass0 (pa_cons (pv 0) (pa_cons pe_int pa_nil))) pe_int (nomark _)) (pe_call Oa.G (hr.mono (by decide)) rfl Oa.m Oa.kp Oa.b .nil pass0 (pa_cons (pv 0) (pa_cons (pv 3) pa_nil))) pe_int) pa_nil)))))))))), ?_⟩
    obtain ⟨⟨xa0, hta⟩, ⟨xb0, htb⟩⟩ := hD.lst
    -- letters
    refine ⟨fun σ' G => ∃ z, z ∈ L8 ∧ σ' = [some (.ref a), some (.int 7), some (.str z), none, none, none, none, none, none, none] ∧ ExD a b H G ∧ Deal G a b, ?_, ?_⟩
    · refine ⟨_, rfl, (by show 8 ≤ sizeLine; decide), fun l hl => ?_⟩
      obtain ⟨nA, nB⟩ := hD.fresh hl
      refine ⟨a, b, l, _, rfl, hD.ex (Ex.new hl), upd_same, nA.symm, nB.symm, (by decide), (by decide), fun i v H' hi e hD' => ?_⟩
      obtain ⟨z, hz, rfl⟩ : ∃ z, z ∈ L8 ∧ v = .str z := by
        have : v ∈ L8.map V.str := List.mem_of_getElem? hi
        obtain ⟨z, hz, rfl⟩ := List.mem_map.mp this
        exact ⟨z, hz, rfl⟩
      exact ⟨z, hz, rfl, (exD_of (Ex.new hl)).trans e, hD'⟩
    rintro σ H1 ⟨z, hz8, rfl, e1, hD1⟩
    -- states, holes
    refine ⟨fun σ' G => ∃ (n : Nat) (h : Int), 1 ≤ n ∧ n ≤ 7 ∧ 1 ≤ h ∧ h ≤ 1000 ∧ σ' = [some (.ref a), some (.int 7), some (.str z), some (.int (n : Int)), some (.int h), none, none, none, none, none] ∧ ExD a b H G ∧ Deal G a b, ?_, ?_⟩
    · refine ⟨_, rfl, _, rfl, a, b, 7, rfl, hD1, (by decide), (by decide), fun d H2 hd e2 hD2 => ⟨_, _, rfl, rfl, _, rfl, (by show 4 ≤ sizeLine; decide), fun l hl => ?_⟩⟩
      obtain ⟨nA, nB⟩ := hD2.fresh hl
      refine ⟨a, b, l, _, rfl, hD2.ex (Ex.new hl), upd_same, nA.symm, nB.symm, (by decide), (by decide), fun i v H3 hi e3 hD3 => ?_⟩
      obtain ⟨h, h1, h2, rfl⟩ : ∃ h : Int, 1 ≤ h ∧ h ≤ 1000 ∧ v = .int h := by
        have : v ∈ ([2, 3, 5, 3] : List Int).map V.int := List.mem_of_getElem? hi
        obtain ⟨h, hh, rfl⟩ := List.mem_map.mp this
        refine ⟨h, ?_, ?_, rfl⟩ <;>
        · simp at hh
          omega
      refine ⟨(by show 2 ≤ sizeLine; decide), fun q hq => ⟨q, _, rfl, SqT.of upd_same, rfl, _, _, rfl, _, _, rfl, rfl, d + 1, h, by omega, by omega, h1, h2, ?_, ?_, hD3.ex (Ex.new hq)⟩⟩
      · have e : (1 + (d : Int)) = ((d + 1 : Nat) : Int) := by omega
        rw [← e]
        rfl
      · exact (e1.trans (e2.trans (exD_of (Ex.new hl)))).trans (e3.trans (exD_of (Ex.new hq)))
    rintro σ H3 ⟨n, h, n1, n7, h1, h2, rfl, e3, hD3⟩
    -- ways
    refine ⟨(by show 0 ≤ sizeLine; decide), fun wa hwa => ?_⟩
    obtain ⟨nA, nB⟩ := hD3.fresh hwa
    have e4 : Ex H3 (upd H3 wa (.lst [])) := Ex.new hwa
    have hwa4 : upd H3 wa (.lst []) wa = some (.lst []) := upd_same
    have hD4 := hD3.ex e4
    have nwa : H wa = none := by
      cases q : H wa with
      | none => rfl
      | some o =>
        rw [e3 wa o q nA.symm nB.symm] at hwa
        cases hwa
    generalize upd H3 wa (.lst []) = Hw at e4 hwa4 hD4 ⊢
    obtain ⟨⟨xa4, hta4⟩, ⟨xb4, htb4⟩⟩ := hD4.lst
    have eHw : ∀ c o, H c = some o → c ≠ a → c ≠ b → Hw c = some o := fun c o q m1 m2 => e4 _ _ (e3 c o q m1 m2)
    have ez : ((n : Nat) : Int).toNat = n := by omega
    refine ⟨_, rfl, _, rfl, (by omega), (by omega), for_it walk_r0 (fun i σ G => (∀ c o, Hw c = some o → c ≠ a → c ≠ b → c ≠ wa → G c = some o) ∧ Deal G a b ∧ ∃ (v6 v7 : Option V) (acc : List V) (ws : List (List (Option Nat))), σ = [some (.ref a), some (.int 7), some (.str z), some (.int (n : Int)), some (.int h), some (.ref wa), v6, v7, none, none] ∧ G wa = some (.lst acc) ∧ DpAll K (nw Hw G) acc (ws.map rowN) ∧ ws.length = i ∧ (∀ r ∈ ws, r.length = z.cps.size) ∧ ∀ r ∈ ws, ∀ s, some s ∈ r → s < n)
      ⟨fun c o q _ _ _ => q, hD4, none, none, [], [], rfl, hwa4, .nil, rfl, by simp, by simp⟩ (fun _ _ _ _ _ => trivial) ?_ ?_⟩
    · rintro i x σ G0 G1 hi ⟨eG, hDG, v6, v7, acc, ws, rfl, gwa, hacc, hwl, hr1, hr2⟩ ⟨rfl, rfl⟩
      have hi : i < n := by omega
      -- row
      refine ⟨fun σ' G => (∀ c o, Hw c = some o → c ≠ a → c ≠ b → c ≠ wa → G c = some o) ∧ Deal G a b ∧ ∃ (ra : Addr) (r : List (Option Nat)), σ' = [some (.ref a), some (.int 7), some (.str z), some (.int (n : Int)), some (.int h), some (.ref wa), some (.int (i : Int)), some (.ref ra), none, none] ∧ G wa = some (.lst acc) ∧ DpAll K (nw Hw G) acc (ws.map rowN) ∧ Hw ra = none ∧ G ra = some (.lst (r.map oW)) ∧ r.length = z.cps.size ∧ ∀ s, some s ∈ r → s < n, ?_, ?_⟩
      · refine ⟨_, rfl, z, rfl, fun D hD0 => ?_⟩
        refine lcDl (a := a) (b := b) (walk_str (z := z)) (fun v => ∃ o : Option Nat, v = oW o ∧ ∀ s, o = some s → s < n) (by have := l8_len hz8; omega) hD0 hDG (fun _ => trivial) ?_ ?_
        · rintro j y G3 G2 hj e5 hD5 ⟨rfl, c, hc, rfl⟩ A2 hA2
          refine ⟨by rfl, _, rfl, _, rfl, a, b, h, rfl, hD5, h1, h2, fun d H5 hd e6 hD6 => ⟨rfl, _, rfl, ?_⟩⟩
          refine ite2 (fun hc => ?_) (fun hc => ?_)
          · exact hA2 _ _ ⟨none, rfl, by simp⟩ e6 hD6
          · exact ⟨_, rfl, _, rfl, a, b, n, rfl, hD6, (by omega), (by omega), fun d2 H6 hd2 e7 hD7 => hA2 _ _ ⟨some d2, rfl, fun s hs => by cases hs; omega⟩ (e6.trans e7) hD7⟩
        · intro G2 ys e5 hD5 hD5' hC hl
          obtain ⟨r, rfl, hr⟩ := all_oW hC
          have nD := (hDG.fresh hD0)
          refine ⟨fun c o q m1 m2 m3 => e5 c o (eG c o q m1 m2 m3) m1 m2, hD5, D, r, rfl, e5 _ _ gwa nA.symm nB.symm, dpAll_ex (e5.nw ⟨_, hta4⟩ ⟨_, htb4⟩) hacc, ?_, hD5', by rw [List.length_map] at hl; exact hl, hr⟩
          cases q : Hw D with
          | none => rfl
          | some o =>
            by_cases m3 : D = wa
            · rw [m3, gwa] at hD0
              cases hD0
            · rw [eG D o q nD.1.symm nD.2.symm m3] at hD0
              cases hD0
      rintro σ G2 ⟨eG2, hDG2, ra, r, rfl, gwa2, hacc2, nra, gra, lr, hrn⟩
      -- some ways fall away
      refine ⟨fun σ' G => (∀ c o, Hw c = some o → c ≠ a → c ≠ b → c ≠ wa → G c = some o) ∧ Deal G a b ∧ ∃ (ra : Addr) (r : List (Option Nat)), σ' = [some (.ref a), some (.int 7), some (.str z), some (.int (n : Int)), some (.int h), some (.ref wa), some (.int (i : Int)), some (.ref ra), none, none] ∧ G wa = some (.lst acc) ∧ DpAll K (nw Hw G) acc (ws.map rowN) ∧ Hw ra = none ∧ G ra = some (.lst (r.map oW)) ∧ r.length = z.cps.size ∧ ∀ s, some s ∈ r → s < n, ?_, ?_⟩
      · refine ⟨_, rfl, a, b, 3, rfl, hDG2, (by decide), (by decide), fun d H5 hd e6 hD6 => ⟨rfl, _, rfl, ?_⟩⟩
        have nra2 : ra ≠ a ∧ ra ≠ b := ⟨(fun q => by rw [q, hta4] at nra; cases nra), (fun q => by rw [q, htb4] at nra; cases nra)⟩
        have gra5 := e6 _ _ gra nra2.1 nra2.2
        have gwa5 := e6 _ _ gwa2 nA.symm nB.symm
        have hacc5 := dpAll_ex (e6.nw ⟨_, hta4⟩ ⟨_, htb4⟩) hacc2
        have eG5 : ∀ c o, Hw c = some o → c ≠ a → c ≠ b → c ≠ wa → H5 c = some o := fun c o q m1 m2 m3 => e6 c o (eG2 c o q m1 m2 m3) m1 m2
        refine ite2 (fun hc => ?_) (fun hc => ?_)
        · refine ⟨_, rfl, ra, rfl, ⟨_, SqL.of gra5⟩, fun D hD0 => ?_⟩
          have lrm : (r.map oW).length = r.length := List.length_map _
          refine lcDA (K := K) (walk_list (K := K) (a := ra) (xs := r.map oW)) (fun j => oN (cutW i (r.getD j none))) (by rw [lrm]; have := l8_len hz8; omega) hD0 (fun _ e => ex_l e (SqL.of gra5)) ?_ ?_
          · rintro j y G3 G2 hj e7 ⟨rfl, hy⟩ A2 hA2
            rw [lrm] at hj
            rw [List.getElem?_map, List.getElem?_eq_getElem hj] at hy
            cases hy
            have g0 : r.getD j none = r[j] := by
              rw [List.getD_eq_getElem?_getD, List.getElem?_eq_getElem hj]
              rfl
            rw [g0] at hA2
            refine ⟨by rfl, _, rfl, rfl, _, rfl, ?_⟩
            cases hrj : r[j] with
            | none =>
              rw [hrj] at hA2
              exact iteT (iteT (hA2 _ _ (Ex.refl _) .non))
            | some t =>
              rw [hrj] at hA2
              refine iteF ?_
              refine ⟨_, rfl, _, rfl, _, _, rfl, rfl, _, rfl, ?_⟩
              refine ite2 (fun hc => ?_) (fun hc => ?_)
              · have hc := of_decide_eq_true hc
                refine hA2 _ _ (Ex.refl _) ?_
                rw [show cutW i (some t) = none from if_pos (by omega)]
                exact .non
              · have hc : ¬ ((t : Int) ≤ (i : Int)) := fun q => hc (decide_eq_true q)
                refine ⟨_, rfl, hA2 _ _ (Ex.refl _) ?_⟩
                rw [show cutW i (some t) = some t from if_neg (by omega)]
                exact .int _
          · intro G3 ys e7 hD7 hys
            rw [lrm] at hys
            have hys2 : ys = ((List.range r.length).map fun j => cutW i (r.getD j none)).map oW := dpAll_oN_eq (by
              rw [List.map_map]
              exact hys)
            subst hys2
            refine ⟨fun c o q m1 m2 m3 => e7 c o (eG5 c o q m1 m2 m3), hD6.ex e7, D, _, rfl, e7 _ _ gwa5, dpAll_ex (nw_grow e7) hacc5, ?_, hD7, by rw [List.length_map, List.length_range]; exact lr, fun s hs => ?_⟩
            · have nD := hD6.fresh hD0
              cases q : Hw D with
              | none => rfl
              | some o =>
                by_cases m3 : D = wa
                · rw [m3, gwa5] at hD0
                  cases hD0
                · rw [eG5 D o q nD.1.symm nD.2.symm m3] at hD0
                  cases hD0
            · obtain ⟨j, hj, hjs⟩ := List.mem_map.mp hs
              have hj := List.mem_range.mp hj
              have g0 : r.getD j none = r[j] := by
                rw [List.getD_eq_getElem?_getD, List.getElem?_eq_getElem hj]
                rfl
              rw [g0] at hjs
              refine hrn s ?_
              cases hrj : r[j] with
              | none =>
                rw [hrj] at hjs
                cases hjs
              | some t =>
                rw [hrj] at hjs
                have hjs : (if t ≤ i then none else some t) = some s := hjs
                by_cases q : t ≤ i
                · rw [if_pos q] at hjs
                  cases hjs
                · rw [if_neg q] at hjs
                  cases hjs
                  rw [← hrj]
                  exact List.getElem_mem hj
        · exact ⟨eG5, hD6, ra, r, rfl, gwa5, hacc5, nra, gra5, lr, hrn⟩
      rintro σ G5 ⟨eG5, hDG5, ra, r, rfl, gwa5, hacc5, nra, gra, lr, hrn⟩
      have lacc : acc.length ≤ 7 := by
        rw [dpAll_len hacc5, List.length_map]
        omega
      refine ⟨_, rfl, .inl ⟨rfl, _, SqL.of gwa5⟩, _, rfl, wa, acc, .ref ra, rfl, rfl, gwa5, by rw [sizeLine_eq]; omega, ?_⟩
      refine ⟨fun c o q m1 m2 m3 => by rw [upd_ne m3]; exact eG5 c o q m1 m2 m3, ?_, _, _, acc ++ [.ref ra], ws ++ [r], rfl, upd_same, ?_, by rw [List.length_append, List.length_singleton, hwl], fun r' hr' => ?_, fun r' hr' => ?_⟩
      · obtain ⟨⟨cs, y, q1, q2, q3⟩, ne⟩ := hDG5
        exact ⟨⟨cs, y, by rw [upd_ne nA]; exact q1, by rw [upd_ne nB]; exact q2, q3⟩, ne⟩
      · rw [List.map_append]
        refine dpAll_app (dpAll_ex (nw_old hwa4) hacc5) (dpAll_one (dp_ex (nw_old hwa4) (.lst (SqL.of ?_) (dpAll_oN r))))
        rw [nw_none nra]
        exact gra
      · rcases List.mem_append.mp hr' with q | q
        · exact hr1 r' q
        · simp at q
          subst q
          exact lr
      · rcases List.mem_append.mp hr' with q | q
        · exact hr2 r' q
        · simp at q
          subst q
          exact hrn
    rintro σ G ⟨eG, hDG, v6, v7, acc, ws, rfl, gwa, hacc, hwl, hr1, hr2⟩
    rw [ez] at hwl
    have fin : ∀ (f : Nat) (G2 : Hp) (p : Addr), f < n → ExD a b G G2 → Deal G2 a b → G2 p = none → Q (.ref p) (upd G2 p (.lst [.str z, .ref wa, .int (f : Int)])) := fun f G2 p hf e5 hD5 hp => by
      have e6 : Ex G2 (upd G2 p (.lst [.str z, .ref wa, .int (f : Int)])) := Ex.new hp
      have np := hD5.fresh hp
      have all : ∀ c o, H c = some o → c ≠ a → c ≠ b → G2 c = some o := fun c o q m1 m2 => e5 c o (eG c o (eHw c o q m1 m2) m1 m2 (fun m3 => by rw [m3, nwa] at q; cases q)) m1 m2
      have gwa2 := e5 _ _ gwa nA.symm nB.symm
      refine k p z ws f _ (fun c o q m1 m2 => e6 _ _ (all c o q m1 m2)) (hD5.ex e6) ⟨?_, ⟨wa, upd_same, .lst (xs := acc) (SqL.of ?_) ?_⟩, hz8, ⟨hr1, fun r hr s hs => by rw [hwl]; exact hr2 r hr s hs⟩, by omega, by omega, by omega⟩
      · cases q : H p with
        | none => rfl
        | some o =>
          rw [all p o q np.1.symm np.2.symm] at hp
          cases hp
      · rw [nw_none nwa]
        exact e6 _ _ gwa2
      · refine dpAll_ex (fun c o q => ?_) (dpAll_ex (e5.nw ⟨_, hta4⟩ ⟨_, htb4⟩) hacc)
        obtain ⟨q1, q2⟩ := nw_get q
        have hc : H c = none := by
          cases w : H c with
          | none => rfl
          | some o2 =>
            by_cases m1 : c = a
            · rw [m1, hta4] at q1
              cases q1
            · by_cases m2 : c = b
              · rw [m2, htb4] at q1
                cases q1
              · rw [eHw c o2 w m1 m2] at q1
                cases q1
        rw [nw_none hc]
        exact e6 _ _ q2
    refine ⟨_, rfl, _, rfl, _, rfl, a, b, 3, rfl, hDG, (by decide), (by decide), fun d H5 hd e6 hD6 => ⟨rfl, _, rfl, ?_⟩⟩
    refine ite2 (fun hc => ?_) (fun hc => ?_)
    · exact ⟨_, rfl, _, rfl, a, b, n, rfl, hD6, (by omega), (by omega), fun f H6 hf e7 hD7 => ⟨(by show 3 ≤ sizeLine; decide), fun p hp => fin f H6 p (by omega) (e6.trans e7) hD7 hp⟩⟩
    · exact ⟨(by show 3 ≤ sizeLine; decide), fun p hp => fin 0 H5 p (by omega) e6 hD6 hp⟩
end
end My
set_option maxHeartbeats 2000000
set_option Elab.async false
set_option linter.all false
set_option autoImplicit false
set_option maxRecDepth 100000
set_option maxHeartbeats 8000000
namespace My
open PySem PySem.Spec PyProof.Rows L2 Evl
/-- all but one stay -/
def ExB (b : Addr) (H H' : Hp) : Prop := ∀ c o, H c = some o → c ≠ b → H' c = some o
theorem ExB.refl {b : Addr} {H : Hp} : ExB b H H := fun _ _ h _ => h
theorem ExB.trans {b : Addr} {H H1 H2 : Hp} (e : ExB b H H1) (f : ExB b H1 H2) : ExB b H H2 := fun c o h n => f c o (e c o h n) n
theorem exB_of {b : Addr} {H H' : Hp} (e : Ex H H') : ExB b H H' := fun c o h _ => e c o h
theorem ExB.put {b : Addr} {H : Hp} {o : HO} : ExB b H (upd H b o) := fun c u h n => by
  rw [upd_ne n]
  exact h
theorem ex_lB {K : PySem.W.Frag} {b : Addr} {H H' : Hp} {c : Addr} {ys : List V} {C dx : Addr} {fs : List (Str × V)} (e : ExB b H H') (h : SqL K H c ys) (hb : H b = some (.ins C dx fs)) : SqL K H' c ys := by
  have ne : ∀ {o : HO}, H c = some o → (∀ C dx fs, o ≠ .ins C dx fs) → c ≠ b := fun {o} h n z => by
    rw [z, hb] at h
    exact n _ _ _ (Option.some.inj h).symm
  rcases h with (h | ⟨o, h⟩) | h
  · exact .inl (.inl (e c _ h (ne h fun _ _ _ z => by cases z)))
  · exact .inl (.inr ⟨o, e c _ h (ne h fun _ _ _ z => by cases z)⟩)
  · exact .inr h
theorem tex_ins {H : Hp} {p C dx : Addr} {fs : List (Str × V)} {o : HO} (h : H p = some (.ins C dx fs)) : TEx H (upd H p o) := by
  refine ⟨fun b xs hb => ?_, fun b u w hb => ?_⟩ <;>
  · rw [upd_ne]
    · exact hb
    · rintro rfl
      rw [h] at hb
      cases hb
def sgn (i : Nat) : Str := ⟨#[("abcd01" : Str).cps.getD i 0]⟩
def pz (z : Str) (i : Nat) : Bool := decide (("abcd01" : Str).cps.getD i 0 ∈ z.cps.toList)
def strsOf (z : Str) : List Str := ((List.range ("abcd01" : Str).cps.size).filter (pz z)).map sgn
theorem join_l8 {z : Str} (h : z ∈ L8) : Txt.join "" (strsOf z) = z ∧ ((strsOf z).map (·.length)).sum + (strsOf z).length * ("" : Str).length ≤ 16777216 := by
  have all : ∀ z ∈ L8, Txt.join "" (strsOf z) = z ∧ ((strsOf z).map (·.length)).sum + (strsOf z).length * ("" : Str).length ≤ 16777216 := by decide +kernel
  exact all z h
theorem dpStrs_eq {K : PySem.W.Frag} {H : Hp} : ∀ {ys : List V} {ns : List Str}, DpAll K H ys (ns.map PyData.str) → ys = ns.map V.str
  | [], [], _ => rfl
  | [], _ :: _, h => by cases h
  | _ :: _, [], h => by cases h
  | y :: ys, n :: ns, h => by
    cases h with
    | cons h t =>
      cases h
      rw [dpStrs_eq t]
      rfl
theorem dpBls_eq {K : PySem.W.Frag} {H : Hp} : ∀ {ys : List V} {ns : List Bool}, DpAll K H ys (ns.map PyData.bool) → ys = ns.map V.bl
  | [], [], _ => rfl
  | [], _ :: _, h => by cases h
  | _ :: _, [], h => by cases h
  | y :: ys, n :: ns, h => by
    cases h with
    | cons h t =>
      cases h
      rw [dpBls_eq t]
      rfl
theorem range_get {α : Type} {f : α → PyData} {d : α} (l : List α) : ((List.range l.length).map fun i => f (l.getD i d)) = l.map f := by
  apply List.ext_getElem
  · simp
  · intro i h1 h2
    rw [List.length_map] at h2
    simp [List.getD_eq_getElem?_getD, List.getElem?_eq_getElem h2]
structure McT (K : PySem.W.Frag) (C : Addr) : Prop where
  cl : Cls K C
  n1 : NoAttr K C "letters"
  n2 : NoAttr K C "ways"
  n3 : NoAttr K C "first"
def mfs (z : Str) (wt : Addr) (f : Nat) : List (Str × V) := putF "first" (.int (f : Int)) (putF "ways" (.ref wt) (putF "letters" (.str z) []))
theorem mfs_ways {z : Str} {wt : Addr} {f : Nat} : (mfs z wt f).lookup ("ways" : Str) = some (.ref wt) := by
  unfold mfs
  rw [lookup_putF, if_neg (by decide +kernel), lookup_putF, if_pos rfl]
theorem mfs_first {z : Str} {wt : Addr} {f : Nat} : (mfs z wt f).lookup ("first" : Str) = some (.int (f : Int)) := by
  unfold mfs
  rw [lookup_putF, if_pos rfl]
def rowT (r : List (Option Nat)) : PyData := .tuple (r.map oN)
def waysT (ws : List (List (Option Nat))) : PyData := .tuple (ws.map rowT)
theorem rowsT_only (ws : List (List (Option Nat))) : tupAll (ws.map rowT) = true := by
  rw [tupAll_iff]
  intro d hd
  obtain ⟨r, _, rfl⟩ := List.mem_map.mp hd
  show tupAll (r.map oN) = true
  rw [tupAll_iff]
  intro d hd
  obtain ⟨o, _, rfl⟩ := List.mem_map.mp hd
  cases o <;> rfl
/-- a machine that is made -/
structure MachAt (K : PySem.W.Frag) (C : Addr) (H : Hp) (p : Addr) (z : Str) (ws : List (List (Option Nat))) (f : Nat) : Prop where
  ob : ∃ dx wt, H p = some (.ins C dx (mfs z wt f)) ∧ Dp K H (.ref wt) (waysT ws)
theorem MachAt.ex {K : PySem.W.Frag} {C : Addr} {H H' : Hp} {p : Addr} {z : Str} {ws : List (List (Option Nat))} {f : Nat} (h : MachAt K C H p z ws f) (e : Ex H H') : MachAt K C H' p z ws f := by
  obtain ⟨dx, wt, h1, h2⟩ := h.ob
  exact ⟨dx, wt, e _ _ h1, dp_ex e h2⟩
section
variable {P : Program} {w : World} {K : PySem.W.Frag} {mg : Str → Option Value} {base : Heap}
def spMI (K : PySem.W.Frag) (C : Addr) : Sp := fun vs H Q _ => ∃ (p dx wa : Addr) (z : Str) (ws : List (List (Option Nat))) (f : Nat), vs = [.ref p, .str z, .ref wa, .int (f : Int)] ∧ H p = some (.ins C dx []) ∧
  Dp K H (.ref wa) (waysN ws) ∧ z ∈ L8 ∧ WaysOk z.cps.size ws ∧ 1 ≤ ws.length ∧ ws.length ≤ 7 ∧ f < ws.length ∧ ∀ H', ExB p H H' → MachAt K C H' p z ws f → Q .non H'
abbrev nMI : List Str := ["self", "letters", "ways", "first", "state", "steps", "sign", "behind"]
theorem scMI : FnScope nMI ["self", "letters", "ways", "first"] (defScope sMI) := ⟨rfl, rfl, rfl, by decide +kernel, rfl, by decide +kernel, by decide +kernel⟩
theorem ok_MI {f C : Addr} {fd : FuncData} (Fn : Fun K "__init__" "Machine.__init__" sMI f fd) (T : Txt K mg) (Mt : McT K C) (Os : Own P w K mg base "is_sequence" 1 ["value"] (spIsSeq K)) (Ob : Own P w K mg base "is_number_below" 3 ["value", "bound"] spIsBelow) : FnOk P w K mg base CX0 4 f fd ["self", "letters", "ways", "first"] (spMI K C) := by
  refine Fn.ok scMI (fun vs H Q E h => ?_) (fun cdv A outer s H vs Q E hr h => ?_)
  · obtain ⟨p, dx, wa, z, ws, f, rfl, _⟩ := h
    rfl
  · obtain ⟨p, dx, wa, z, ws, f, rfl, hp, hwa, hz8, hok, n1, n7, hf, k⟩ := h
    refine ⟨_, (pss_cons (ps_if (PW.pt (pw_or (pt_not (pt_val (pe_callB (crIsi K) (by rfl) T.b_isinstance (by decide +kernel) (pa_cons (pv 1) (pa_cons (pe_bltn (v := .ty "str") (by rfl) T.b_str (by decide +kernel) rfl) pa_nil))))) (pw_or1 (pt_cmpR op_ne (pv 1) (pe_join pe_str (pe_lc (own := [("sign", 6)]) rfl scMI.nd (pi_str (C8.pe_gc (by rfl) T.g_LETTERS)) (blkOk_by (N := nMI) (sc := defScope sMI) (by decide +kernel)) (fun _ _ _ _ _ => (pg_name (i := 6) scMI.nd rfl (by first | exact Or.inl rfl | exact Or.inr rfl))) (fun _ _ _ _ _ => (pts_one (pt_cmpR op_inS (pv 6) (pv 1) (by first | exact nobehind _ (by decide) (by decide) | rfl)))) (fun _ _ _ _ _ => (pv 6)))) (nomark _))))) (pss_one ps_no) pss_nil)
  (pss_cons (ps_if (PW.pt (pw_or (pt_not (pt_val (pe_call Os.G (hr.mono (by decide)) rfl Os.m Os.kp Os.b .nil pass0 (pa_cons (pv 2) pa_nil)))) (pw_or1 (pt_not (pt_chain op_le op_le pe_int (pe_callB (crLen K) (by rfl) T.b_len PySem.boot_len (pa_cons (pv 2) pa_nil)) (C8.pe_gc (by rfl) T.g_MOST_STATES)))))) (pss_one ps_no) pss_nil)
  (pss_cons (ps_for PassesOwn.never rfl (piEnum K (by rfl) T.b_enumerate (pa_cons (pv 2) pa_nil)) (pgT K (n := 2) (by rfl) (pgs_cons (pg_name (i := 4) scMI.nd rfl (by first | exact Or.inl rfl | exact Or.inr rfl)) (pgs_cons (pg_name (i := 5) scMI.nd rfl (by first | exact Or.inl rfl | exact Or.inr rfl)) pgs_nil))) (pss_cons (ps_if (PW.pt (pw_or (pt_not (pt_val (pe_call Os.G (hr.mono (by decide)) rfl Os.m Os.kp Os.b .nil pass0 (pa_cons (pv 5) pa_nil)))) (pw_or1 (pt_cmpR op_ne (pe_callB (crLen K) (by rfl) T.b_len PySem.boot_len (pa_cons (pv 5) pa_nil)) (pe_callB call_len_str (by rfl) T.b_len PySem.boot_len (pa_cons (pv 1) pa_nil)) (nomark _))))) (pss_one ps_no) pss_nil)
  (pss_one (ps_if (pt_not (pt_val (pe_callB (crAll K rfl) (by rfl) T.b_all (by decide +kernel) (pa_cons (pe_lc (own := [("behind", 7)]) rfl scMI.nd (piL K (pv 5)) (blkOk_by (N := nMI) (sc := defScope sMI) (by decide +kernel)) (fun _ _ _ _ _ => (pg_name (i := 7) scMI.nd rfl (by first | exact Or.inl rfl | exact Or.inr rfl))) (fun _ _ _ _ _ => pts_nil) (fun _ _ _ _ _ => (pe_or (pe_cmpR opIsN (pv 7) pe_non (nomark _)) (pe_one (pe_call Ob.G (hr.mono (by decide)) rfl Ob.m Ob.kp Ob.b .nil pass0 (pa_cons (pv 7) (pa_cons (pe_callB (crLen K) (by rfl) T.b_len PySem.boot_len (pa_cons (pv 2) pa_nil)) pa_nil))))))) pa_nil)))) (pss_one ps_no) pss_nil))))
  (pss_cons (ps_if (pt_not (pt_val (pe_call Ob.G (hr.mono (by decide)) rfl Ob.m Ob.kp Ob.b .nil pass0 (pa_cons (pv 3) (pa_cons (pe_callB (crLen K) (by rfl) T.b_len PySem.boot_len (pa_cons (pv 2) pa_nil)) pa_nil))))) (pss_one ps_no) pss_nil)
  (pss_cons (ps_fld (pv 0) (pv 1) rfl)
  (pss_cons (ps_fld (pv 0) (pe_callTy (crTup K) (by rfl) T.b_tuple (by decide +kernel) (pa_cons (pe_lc (own := [("steps", 5)]) rfl scMI.nd (piL K (pv 2)) (blkOk_by (N := nMI) (sc := defScope sMI) (by decide +kernel)) (fun _ _ _ _ _ => (pg_name (i := 5) scMI.nd rfl (by first | exact Or.inl rfl | exact Or.inr rfl))) (fun _ _ _ _ _ => pts_nil) (fun _ _ _ _ _ => (pe_callTy (crTup K) (by rfl) T.b_tuple (by decide +kernel) (pa_cons (pv 5) pa_nil)))) pa_nil)) rfl)
  (pss_one (ps_fld (pv 0) (pv 3) rfl)))))))), ?_⟩
    obtain ⟨wa', xs, ewa, hxs, hdx⟩ := dp_lst hwa
    cases ewa
    have lxs : xs.length = ws.length := by rw [dpAll_len hdx, List.length_map]
    have lz := l8_len hz8
    -- letters
    refine ⟨_, rfl, _, _, _, _, _, rfl, .ty "str", .base (.str z), kit_ty (by decide +kernel), true, rfl, iteF ?_⟩
    refine ⟨_, rfl, ⟨_, rfl⟩, _, rfl, fun D hD => ?_⟩
    refine lcD (K := K) (walk_str (z := "abcd01")) (fun i => pz z i) (fun i => .str (sgn i)) (by decide) hD (fun _ _ => trivial) ?_ ?_
    · rintro i u G2 G1 hi e1 ⟨rfl, c, hc, rfl⟩ N A2 ⟨itN, itA⟩
      have ec : ("abcd01" : Str).cps.getD i 0 = c := by
        rw [Array.getD_eq_getD_getElem?, hc]
        rfl
      refine ⟨by rfl, _, rfl, _, rfl, c, z, rfl, rfl, _, rfl, ?_⟩
      unfold pz sgn at *
      rw [ec] at itN itA
      cases wv : decide (c ∈ z.cps.toList) with
      | true => exact iteT ⟨_, rfl, itA wv _ _ (Ex.refl _) (.str _)⟩
      | false => exact iteF (itN wv _ (Ex.refl _))
    intro H1 ys e1 hD1 hys
    have hys2 : ys = (strsOf z).map V.str := dpStrs_eq (by
      unfold strsOf
      rw [List.map_map]
      exact hys)
    subst hys2
    obtain ⟨j1, j2⟩ := join_l8 hz8
    refine ⟨_, D, strsOf z, rfl, rfl, .inl (SqL.of hD1), j2, ?_⟩
    rw [j1]
    refine ⟨rfl, _, rfl, iteNS rfl ?_⟩
    have hxs1 := ex_l e1 hxs
    have hdx1 := dpAll_ex e1 hdx
    have hp1 := e1 _ _ hp
    clear hys hD1
    -- ways
    refine ⟨_, rfl, wa, xs, rfl, hxs1, fun H2 e2 => ⟨true, rfl, iteF ?_⟩⟩
    have e02 := e1.trans e2
    have hxs2 := ex_l e2 hxs1
    refine ⟨_, rfl, wa, xs, rfl, .inl hxs2, _, _, rfl, rfl, _, rfl, ?_⟩
    refine iteT' (decide_eq_true (by omega)) ⟨_, _, rfl, rfl, _, rfl, ?_⟩
    refine iteF' (by rw [decide_eq_true (show (xs.length : Int) ≤ 2000 by omega)]; rfl) ?_
    -- each way
    refine ⟨_, rfl, wa, xs, rfl, hxs2, for_it (walk_enum (K := K) (a := wa) (xs := xs)) (fun i σ G => Ex H G ∧ ∃ v4 v5 : Option V, σ = [some (.ref p), some (.str z), some (.ref wa), some (.int (f : Int)), v4, v5, none, none])
      ⟨e02, none, none, rfl⟩ (fun i σ G _ h => ex_l h.1 hxs) ?_ ?_⟩
    · rintro i x σ G G1 hi ⟨eG, v4, v5, rfl⟩ ⟨tt, y1, y2, rfl, htt, rfl, hy1, hy2⟩
      cases hy1
      have hi2 : i < ws.length := by omega
      obtain ⟨v', hv', hd'⟩ := dpAll_get (i := i) (d := rowN ws[i]) hdx (by rw [List.getElem?_map, List.getElem?_eq_getElem hi2]; rfl)
      have hy2 : xs[i]? = some y2 := hy2
      rw [hy2] at hv'
      cases hv'
      obtain ⟨ra, rs, rfl, hrs, hrd⟩ := dp_lst hd'
      have hrs' := dpAll_oN_eq hrd
      subst hrs'
      have hmem : ws[i] ∈ ws := List.getElem_mem hi2
      have lr := hok.len _ hmem
      have et : Ex G (upd G tt (.tup [.int (i : Int), .ref ra])) := Ex.new htt
      refine ⟨tt, _, rfl, SqT.of upd_same, rfl, _, _, rfl, _, _, rfl, rfl, ?_⟩
      have eG1 := eG.trans et
      generalize upd G tt (.tup [.int (i : Int), .ref ra]) = G1 at et eG1 ⊢
      refine ⟨_, rfl, ra, _, rfl, ex_l eG1 hrs, fun G2 e3 => ⟨true, rfl, iteF ?_⟩⟩
      have eG2 := eG1.trans e3
      have lr2 : (ws[i].map oW).length = z.cps.size := by rw [List.length_map, lr]
      refine ⟨_, rfl, ra, _, rfl, .inl (ex_l eG2 hrs), _, rfl, z, rfl, (by show z.cps.size ≤ sizeLine; rw [sizeLine_eq]; omega), rfl, _, rfl, ?_⟩
      refine iteF' ?_ ?_
      · show (!decide (V.int ((ws[i].map oW).length : Int) = V.int (z.cps.size : Int))) = false
        rw [lr2, decide_eq_true rfl]
        rfl
      refine ⟨_, rfl, ra, rfl, ⟨_, ex_l eG2 hrs⟩, fun D2 hD2 => ?_⟩
      refine lcDA (K := K) (walk_list (K := K) (a := ra) (xs := ws[i].map oW)) (fun _ => .bool true) (by rw [lr2]; omega) hD2 (fun _ e => ex_l (eG2.trans e) hrs) ?_ ?_
      · rintro c u G4 G3 hc e4 ⟨rfl, hu⟩ A2 hA2
        rw [List.length_map] at hc
        rw [List.getElem?_map, List.getElem?_eq_getElem hc] at hu
        cases hu
        refine ⟨by rfl, _, rfl, rfl, _, rfl, ?_⟩
        cases hrc : ws[i][c] with
        | none => exact iteT (hA2 _ _ (Ex.refl _) (.bl _))
        | some t =>
          have ht : t < ws.length := hok.lt _ hmem t (by rw [← hrc]; exact List.getElem_mem hc)
          refine iteF ⟨_, rfl, _, rfl, wa, xs, rfl, .inl (ex_l ((eG2.trans e4)) hxs), _, _, rfl, .int _, ?_⟩
          have hb : belowV (.int (t : Int)) ((xs.length : Nat) : Int) = true := by
            show (decide ((0 : Int) ≤ (t : Int)) && decide ((t : Int) < (xs.length : Int))) = true
            rw [decide_eq_true (by omega), decide_eq_true (by omega)]
            rfl
          have q := hA2 (.bl true) _ (Ex.refl _) (.bl _)
          rw [show belowV (oW (some t)) ((xs.length : Nat) : Int) = true from hb]
          exact q
      · intro G3 ys e4 hD3 hys
        have hb2 : ys = ((List.range (ws[i].map oW).length).map fun _ => true).map V.bl := dpBls_eq (by
          rw [List.map_map]
          exact hys)
        subst hb2
        refine ⟨D2, _, rfl, SqL.of hD3, true, ?_, iteF ?_⟩
        · congr 1
          rw [List.all_eq_true]
          intro b hb
          obtain ⟨_, _, rfl⟩ := List.mem_map.mp hb
          rfl
        exact ⟨eG2.trans e4, _, _, rfl⟩
    rintro σ G ⟨eG, v4, v5, rfl⟩
    -- first
    refine ⟨_, rfl, _, rfl, wa, xs, rfl, .inl (ex_l eG hxs), _, _, rfl, .int _, true, ?_, iteF ?_⟩
    · congr 1
      show (decide ((0 : Int) ≤ (f : Int)) && decide ((f : Int) < (xs.length : Int))) = true
      rw [decide_eq_true (by omega), decide_eq_true (by omega)]
      rfl
    -- self.letters
    have hpG := eG _ _ hp
    refine ⟨_, rfl, _, rfl, p, C, dx, [], rfl, hpG, Mt.cl, Mt.n1, (by show 0 < 1000; decide), ?_⟩
    have cA : ExB p G (upd G p (.ins C dx (putF "letters" (.str z) []))) := ExB.put
    have pA : upd G p (.ins C dx (putF "letters" (.str z) [])) p = some (.ins C dx (putF "letters" (.str z) [])) := upd_same
    have rdA : ∀ {c : Addr} {ys : List V}, SqL K H c ys → SqL K (upd G p (.ins C dx (putF "letters" (.str z) []))) c ys := fun {c ys} h => ex_lB (cA) (ex_l eG h) hpG
    generalize upd G p (.ins C dx (putF "letters" (.str z) [])) = Ga at cA pA rdA ⊢
    -- self.ways
    refine ⟨_, rfl, wa, rfl, ⟨_, rdA hxs⟩, fun D3 hD3 => ?_⟩
    refine lcDA (K := K) (walk_list (K := K) (a := wa) (xs := xs)) (fun i => rowT (ws.getD i [])) (by omega) hD3 (fun _ e => ex_l e (rdA hxs)) ?_ ?_
    · rintro i u G3 G2 hi e4 ⟨rfl, hu⟩ A2 hA2
      have hi2 : i < ws.length := by omega
      obtain ⟨v', hv', hd'⟩ := dpAll_get (i := i) (d := rowN ws[i]) hdx (by rw [List.getElem?_map, List.getElem?_eq_getElem hi2]; rfl)
      rw [hu] at hv'
      cases hv'
      obtain ⟨ra, rs, rfl, hrs, hrd⟩ := dp_lst hd'
      have hrs' := dpAll_oN_eq hrd
      subst hrs'
      have g0 : ws.getD i [] = ws[i] := by
        rw [List.getD_eq_getElem?_getD, List.getElem?_eq_getElem hi2]
        rfl
      rw [g0] at hA2
      refine ⟨by rfl, _, rfl, ra, _, rfl, .inl ⟨ex_l e4 (rdA hrs), fun t ht => hA2 _ _ (Ex.new ht) (.tup (SqT.of ?_) (dpAll_oN _))⟩⟩
      rw [nw_upd ht]
    intro G3 ys e4 hD4 hys
    rw [lxs, range_get (f := rowT) (d := []) ws] at hys
    refine ⟨D3, _, rfl, .inl ⟨SqL.of hD4, fun wt hwt => ?_⟩⟩
    have e5 : Ex G3 (upd G3 wt (.tup ys)) := Ex.new hwt
    have hwt' : upd G3 wt (.tup ys) wt = some (.tup ys) := upd_same
    have pB := e5 _ _ (e4 _ _ pA)
    have hys2 := dpAll_ex e5 (dpAll_ex (show Ex (nw Ga G3) G3 from nw_ex) hys)
    have cB : ExB p H (upd G3 wt (.tup ys)) := (exB_of eG).trans (cA.trans (exB_of (e4.trans e5)))
    generalize upd G3 wt (.tup ys) = Gb at e5 hwt' pB hys2 cB ⊢
    refine ⟨_, rfl, p, C, dx, _, rfl, pB, Mt.cl, Mt.n2, (by show 1 < 1000; decide), ?_⟩
    have tB : TEx Gb (upd Gb p (.ins C dx (putF "ways" (.ref wt) (putF "letters" (.str z) [])))) := tex_ins pB
    have hwtC := tB.1 _ _ hwt'
    have hysC := dpAll_tex tB hys2 (rowsT_only ws)
    have pC : upd Gb p (.ins C dx (putF "ways" (.ref wt) (putF "letters" (.str z) []))) p = some (.ins C dx (putF "ways" (.ref wt) (putF "letters" (.str z) []))) := upd_same
    have cC : ExB p H (upd Gb p (.ins C dx (putF "ways" (.ref wt) (putF "letters" (.str z) [])))) := cB.trans ExB.put
    generalize upd Gb p (.ins C dx (putF "ways" (.ref wt) (putF "letters" (.str z) []))) = Gc at tB hwtC hysC pC cC ⊢
    -- self.first
    refine ⟨_, rfl, _, rfl, p, C, dx, _, rfl, pC, Mt.cl, Mt.n3, (by show 2 < 1000; decide), ?_⟩
    have tD : TEx Gc (upd Gc p (.ins C dx (mfs z wt f))) := tex_ins pC
    refine k _ (cC.trans ExB.put) ⟨dx, wt, upd_same, .tup (SqT.of (tD.1 _ _ hwtC)) (dpAll_tex tD hysC (rowsT_only ws))⟩
end
end My
set_option maxHeartbeats 2000000
set_option Elab.async false
set_option linter.all false
set_option autoImplicit false
set_option maxRecDepth 100000
set_option maxHeartbeats 8000000
namespace My
open PySem PySem.Spec PyProof.Rows L2 Evl
/-- a dict tells how often each number is in a bag -/
def kvN (l : List Nat) (s : Nat) : Key × V := (.inl (s : Int), .int (l.count s : Int))
def Rep (kvs : List (Key × V)) (l : List Nat) : Prop := ∃ ks : List Nat, kvs = ks.map (kvN l) ∧ ks.Nodup ∧ ∀ s, s ∈ ks ↔ s ∈ l
theorem Rep.perm {kvs : List (Key × V)} {l l' : List Nat} (h : Rep kvs l) (p : l.Perm l') : Rep kvs l' := by
  obtain ⟨ks, e, nd, m⟩ := h
  refine ⟨ks, ?_, nd, fun s => (m s).trans p.mem_iff⟩
  rw [e]
  refine List.map_congr_left fun s _ => ?_
  unfold kvN
  rw [List.perm_iff_count.mp p s]
theorem inl_inj {s t : Nat} : ((Sum.inl (s : Int) : Key) = .inl (t : Int)) ↔ s = t := by
  constructor
  · intro h
    injection h with h
    omega
  · rintro rfl
    rfl
theorem find_keys {g : Nat → V} {t : Nat} : ∀ ks : List Nat, valV (ks.map fun (s : Nat) => ((.inl (s : Int) : Key), g s)) (.inl (t : Int)) = if t ∈ ks then some (g t) else none
  | [] => rfl
  | k :: ks => by
    rw [List.map_cons]
    by_cases e : k = t
    · subst e
      rw [valV_pos rfl, if_pos List.mem_cons_self]
    · rw [valV_neg fun z => e (inl_inj.mp z), find_keys ks]
      by_cases m : t ∈ ks
      · rw [if_pos m, if_pos (List.mem_cons_of_mem _ m)]
      · rw [if_neg m, if_neg fun z => by rcases List.mem_cons.mp z with q | q; exact e q.symm; exact m q]
theorem Rep.get {kvs : List (Key × V)} {l : List Nat} (h : Rep kvs l) (t : Nat) : valV kvs (.inl (t : Int)) = if t ∈ l then some (.int (l.count t : Int)) else none := by
  obtain ⟨ks, e, nd, m⟩ := h
  have := find_keys (g := fun s => V.int (l.count s : Int)) (t := t) ks
  rw [e]
  unfold kvN
  rw [this]
  by_cases z : t ∈ l
  · rw [if_pos z, if_pos ((m t).mpr z)]
  · rw [if_neg z, if_neg fun q => z ((m t).mp q)]
theorem Rep.getD {kvs : List (Key × V)} {l : List Nat} (h : Rep kvs l) (t : Nat) : (valV kvs (.inl (t : Int))).getD (.int 0) = .int (l.count t : Int) := by
  rw [h.get t]
  by_cases z : t ∈ l
  · rw [if_pos z]
    rfl
  · rw [if_neg z, List.count_eq_zero.mpr z]
    rfl
theorem Rep.put {kvs : List (Key × V)} {l : List Nat} (h : Rep kvs l) {t m : Nat} (hm : 0 < m) : Rep (putK kvs (.inl (t : Int)) (.int ((l.count t : Int) + (m : Int)))) (l ++ List.replicate m t) := by
  obtain ⟨ks, e, nd, mem⟩ := h
  have cnt : ∀ s, (l ++ List.replicate m t).count s = l.count s + if t = s then m else 0 := fun s => by
    rw [List.count_append, List.count_replicate]
    by_cases z : t = s
    · subst z
      simp
    · have z' : (t == s) = false := by simpa using z
      rw [z', if_neg z]
      simp
  have any : (kvs.any fun kv => decide (kv.1 = (.inl (t : Int) : Key))) = decide (t ∈ ks) := by
    rw [e, List.any_map, Bool.eq_iff_iff, List.any_eq_true, decide_eq_true_iff]
    constructor
    · rintro ⟨s, hs, q⟩
      have q := of_decide_eq_true q
      rw [← inl_inj.mp q]
      exact hs
    · intro hs
      exact ⟨t, hs, decide_eq_true rfl⟩
  unfold putK
  rw [any]
  by_cases z : t ∈ ks
  · rw [if_pos (decide_eq_true z)]
    refine ⟨ks, ?_, nd, fun s => ?_⟩
    · rw [e, List.map_map]
      refine List.map_congr_left fun s _ => ?_
      show (if (kvN l s).1 = (.inl (t : Int) : Key) then ((kvN l s).1, V.int ((l.count t : Int) + (m : Int))) else kvN l s) = kvN (l ++ List.replicate m t) s
      unfold kvN
      rw [cnt s]
      by_cases q : s = t
      · subst q
        rw [if_pos rfl, if_pos rfl]
        congr 2
      · rw [if_neg fun w => q (inl_inj.mp w), if_neg fun w => q w.symm]
        rfl
    · rw [mem s, List.mem_append, List.mem_replicate]
      constructor
      · exact .inl
      · rintro (q | ⟨_, q⟩)
        · exact q
        · rw [q]
          exact (mem t).mp z
  · rw [if_neg (by rw [decide_eq_true_iff]; exact z)]
    refine ⟨ks ++ [t], ?_, ?_, fun s => ?_⟩
    · rw [List.map_append, e]
      congr 1
      · refine List.map_congr_left fun s hs => ?_
        unfold kvN
        rw [cnt s, if_neg fun w => z (by rw [w]; exact hs)]
        rfl
      · show [((.inl (t : Int) : Key), V.int ((l.count t : Int) + (m : Int)))] = [kvN (l ++ List.replicate m t) t]
        unfold kvN
        rw [cnt t, if_pos rfl]
        congr 3
    · rw [List.nodup_append]
      refine ⟨nd, by simp, fun x hx y hy q => ?_⟩
      simp at hy
      subst hy
      exact z (q ▸ hx)
    · rw [List.mem_append, List.mem_append, List.mem_replicate, mem s, List.mem_singleton]
      constructor
      · rintro (q | q)
        · exact .inl q
        · exact .inr ⟨by omega, q⟩
      · rintro (q | ⟨_, q⟩)
        · exact .inl q
        · exact .inr q
theorem Rep.nil : Rep [] [] := ⟨[], rfl, List.nodup_nil, by simp⟩
theorem Rep.one {f : Nat} : Rep [(.inl (f : Int), .int 1)] [f] := ⟨[f], by simp [kvN], by simp, by simp⟩
theorem sumZ {g : Nat → Nat} : ∀ ks : List Nat, (ks.map fun s => (g s : Int)).sum = (((ks.map g).sum : Nat) : Int)
  | [] => rfl
  | k :: ks => by
    rw [List.map_cons, List.sum_cons, List.map_cons, List.sum_cons, sumZ ks]
    omega
theorem Rep.vals {kvs : List (Key × V)} {l : List Nat} (h : Rep kvs l) : ∃ ns : List Int, kvs.map (·.2) = ns.map V.int ∧ ns.sum = (l.length : Int) := by
  obtain ⟨ks, e, nd, m⟩ := h
  refine ⟨ks.map fun s => (l.count s : Int), ?_, ?_⟩
  · rw [e, List.map_map, List.map_map]
    rfl
  · have h2 := Cn.len_count (l := l) (ks := ks) nd fun x hx => (m x).mpr hx
    rw [← h2]
    exact sumZ ks
theorem Rep.len {kvs : List (Key × V)} {l : List Nat} {n : Nat} (h : Rep kvs l) (hl : ∀ s ∈ l, s < n) : kvs.length ≤ n := by
  obtain ⟨ks, e, nd, m⟩ := h
  rw [e, List.length_map]
  exact Cn.nodup_le nd fun s hs => hl s ((m s).mp hs)
theorem tex_dK {H : Hp} {p : Addr} {o : HO} {kvs : List (Key × V)} (h : H p = some (.dK kvs)) : TEx H (upd H p o) := by
  refine ⟨fun b xs hb => ?_, fun b u w hb => ?_⟩ <;>
  · rw [upd_ne]
    · exact hb
    · rintro rfl
      rw [h] at hb
      cases hb
theorem MachAt.tex {K : PySem.W.Frag} {C : Addr} {H H' : Hp} {p b : Addr} {z : Str} {ws : List (List (Option Nat))} {f : Nat} (h : MachAt K C H p z ws f) (t : TEx H H') (e : ExB b H H') (ne : ∀ C dx fs, H b ≠ some (.ins C dx fs)) : MachAt K C H' p z ws f := by
  obtain ⟨dx, wt, h1, h2⟩ := h.ob
  exact ⟨dx, wt, e _ _ h1 (fun q => by rw [q] at h1; exact ne _ _ _ h1), dp_tex t h2 (rowsT_only ws)⟩
/-- the tuple of a machine's ways is read -/
theorem waysT_read {K : PySem.W.Frag} {H : Hp} {wt : Addr} {ws : List (List (Option Nat))} (h : Dp K H (.ref wt) (waysT ws)) : ∃ xs, SqT K H wt xs ∧ xs.length = ws.length ∧ ∀ s, s < ws.length → ∃ rt, xs[s]? = some (.ref rt) ∧ SqT K H rt ((ws.getD s []).map oW) := by
  obtain ⟨a, xs, e, h1, h2⟩ := dp_tup h
  cases e
  refine ⟨xs, h1, by rw [dpAll_len h2, List.length_map], fun s hs => ?_⟩
  obtain ⟨v, hv, hd⟩ := dpAll_get (i := s) (d := rowT ws[s]) h2 (by rw [List.getElem?_map, List.getElem?_eq_getElem hs]; rfl)
  obtain ⟨rt, rs, rfl, h3, h4⟩ := dp_tup hd
  have e := dpAll_oN_eq h4
  subst e
  refine ⟨rt, hv, ?_⟩
  rw [List.getD_eq_getElem?_getD, List.getElem?_eq_getElem hs]
  exact h3
theorem succ_lt {k : Nat} {ws : List (List (Option Nat))} (h : WaysOk k ws) {s t : Nat} (ht : t ∈ Cn.succ ws s) : t < ws.length := by
  obtain ⟨o, ho, e⟩ := List.mem_filterMap.mp ht
  have e : o = some t := e
  subst e
  rcases Nat.lt_or_ge s ws.length with hl | hl
  · rw [List.getD_eq_getElem?_getD, List.getElem?_eq_getElem hl] at ho
    exact h.lt _ (List.getElem_mem hl) t ho
  · rw [List.getD_eq_getElem?_getD, List.getElem?_eq_none hl] at ho
    cases ho
theorem take_fm {α β : Type} {g : α → Option β} {l : List α} {j : Nat} {x : α} (h : l[j]? = some x) : (l.take (j + 1)).filterMap g = (l.take j).filterMap g ++ (match g x with | none => [] | some y => [y]) := by
  obtain ⟨hj, e⟩ := List.getElem?_eq_some_iff.mp h
  rw [List.take_succ_eq_append_getElem hj, List.filterMap_append, e]
  cases q : g x with
  | none => simp [q]
  | some y => simp [q]
section
variable {P : Program} {w : World} {K : PySem.W.Frag} {mg : Str → Option Value} {base : Heap}
def spBehind (K : PySem.W.Frag) (C : Addr) : Sp := fun vs H Q _ => ∃ (p c : Addr) (z : Str) (ws : List (List (Option Nat))) (f : Nat) (kvs : List (Key × V)) (l : List Nat), vs = [.ref p, .ref c] ∧ MachAt K C H p z ws f ∧ WaysOk z.cps.size ws ∧ ws.length ≤ 7 ∧ z ∈ L8 ∧
  H c = some (.dK kvs) ∧ Rep kvs l ∧ (∀ s ∈ l, s < ws.length) ∧ ∀ q H' kvs', Ex H H' → H q = none → H' q = some (.dK kvs') → Rep kvs' (l.flatMap (Cn.succ ws)) → Q (.ref q) H'
abbrev nBehind : List Str := ["machine", "counts", "behind_counts", "state", "behind"]
theorem scBehind : FnScope nBehind ["machine", "counts"] (defScope sBehind) := ⟨rfl, rfl, rfl, by decide +kernel, rfl, by decide +kernel, by decide +kernel⟩
theorem ok_Behind {f C : Addr} {fd : FuncData} (Fn : Fun K "_counts_behind" "_counts_behind" sBehind f fd) (T : Txt K mg) (Mt : McT K C) : FnOk P w K mg base CX0 1 f fd ["machine", "counts"] (spBehind K C) := by
  refine Fn.ok scBehind (fun vs H Q E h => ?_) (fun cdv A outer s H vs Q E hr h => ?_)
  · obtain ⟨p, c, z, ws, f, kvs, l, rfl, _⟩ := h
    rfl
  · obtain ⟨p, c, z, ws, f, kvs, l, rfl, hM, hok, n7, hz8, hc, hrep, hlt, k⟩ := h
    have hu := hu_of hr
    refine ⟨_, (pss_cons (ps_set (i := 2) scBehind.nd rfl (by first | exact Or.inl rfl | exact Or.inr rfl) pe_dnewK)
  (pss_cons (ps_lock (ps_for PassesOwn.never rfl (pi_keys (pv 1)) (pg_name (i := 3) scBehind.nd rfl (by first | exact Or.inl rfl | exact Or.inr rfl)) (pss_one (ps_for PassesOwn.never rfl (piT K (pe_ix (ixT K) (peFld K (pv 0)) (pv 3) (fun _ _ => rfl))) (pg_name (i := 4) scBehind.nd rfl (by first | exact Or.inl rfl | exact Or.inr rfl)) (pss_one (ps_if (pt_cmpR opNotN (pv 4) pe_non (nomark _)) (pss_one (ps_dput hu (pv 2) (pv 4) (pe_op op_add (pe_dget2 hu (pv 2) (pv 4) pe_int (by constructor <;> rfl)) (pe_dget hu (pv 1) (pv 3) (fun _ _ => rfl))) rfl)) pss_nil))))))
  (pss_one (ps_ret (pv 2))))), ?_⟩
    obtain ⟨ks, rfl, nd, mem⟩ := hrep
    obtain ⟨dx, wt, hp, hwt⟩ := hM.ob
    refine fun bc hbc => ?_
    have e1 : Ex H (upd H bc (.dK [])) := Ex.new hbc
    have hbc1 : upd H bc (.dK []) bc = some (.dK []) := upd_same
    have hc1 := e1 _ _ hc
    have ncb : c ≠ bc := ne_of_none hc hbc
    generalize upd H bc (.dK []) = H1 at e1 hbc1 hc1 ⊢
    have hp1 := e1 _ _ hp
    have hwt1 := dp_ex e1 hwt
    have npc : p ≠ c := fun q => by
      rw [q, hc] at hp
      cases hp
    have npb : p ≠ bc := ne_of_none hp hbc
    refine ⟨c, .dK (ks.map (kvN l)), hc1, trivial, fun od => ?_⟩
    have tf : TEx H1 (upd H1 c (.frz od (.dK (ks.map (kvN l))))) := tex_dK hc1
    have hcf : upd H1 c (.frz od (.dK (ks.map (kvN l)))) c = some (.frz od (.dK (ks.map (kvN l)))) := upd_same
    have hbf : upd H1 c (.frz od (.dK (ks.map (kvN l)))) bc = some (.dK []) := by
      rw [upd_ne ncb.symm]
      exact hbc1
    have ef : ExB c H1 (upd H1 c (.frz od (.dK (ks.map (kvN l))))) := ExB.put
    generalize upd H1 c (.frz od (.dK (ks.map (kvN l)))) = Hf at tf hcf hbf ef ⊢
    have hpf := ef _ _ hp1 npc
    have hwtf := dp_tex tf hwt1 (rowsT_only ws)
    obtain ⟨xs, hx1, hx2, hx3⟩ := waysT_read hwtf
    have lk : (ks.map (kvN l)).length = ks.length := List.length_map _
    -- a tuple that was there stays
    have tupS : ∀ {G : Hp} {a : Addr} {ys : List V}, ExB bc Hf G → SqT K Hf a ys → SqT K G a ys := fun {G a ys} e h => by
      have ne : ∀ {o : HO}, Hf a = some o → (∀ kvs, o ≠ .dK kvs) → a ≠ bc := fun {o} h n q => by
        rw [q, hbf] at h
        exact n _ (Option.some.inj h).symm
      rcases h with (h | ⟨o, h⟩) | h
      · exact .inl (.inl (e a _ h (ne h fun _ q => by cases q)))
      · exact .inl (.inr ⟨o, e a _ h (ne h fun _ q => by cases q)⟩)
      · exact .inr h
    refine ⟨_, rfl, c, od, rfl, .inl ⟨_, hcf, for_it (walk_keys (d := c) (o := od) (kvs := ks.map (kvN l))) (fun i σ G => ExB bc Hf G ∧ ∃ (v3 v4 : Option V) (kvs' : List (Key × V)), σ = [some (.ref p), some (.ref c), some (.ref bc), v3, v4] ∧ G bc = some (.dK kvs') ∧ Rep kvs' ((ks.take i).flatMap fun s => Cn.reps (l.count s) (Cn.succ ws s)))
      ⟨ExB.refl, none, none, [], rfl, hbf, Rep.nil⟩ (fun i σ G _ h => h.1 _ _ hcf ncb) ?_ ?_⟩⟩
    · rintro i x σ G G1 hi ⟨eG, v3, v4, kvs', rfl, hbG, hrG⟩ ⟨rfl, k0, v0, hkv, rfl⟩
      rw [lk] at hi
      rw [List.getElem?_map, List.getElem?_eq_getElem hi] at hkv
      cases hkv
      obtain ⟨s0, hs0⟩ : ∃ q, q = ks[i] := ⟨_, rfl⟩
      have hsl : s0 ∈ l := (mem s0).mp (by rw [hs0]; exact List.getElem_mem hi)
      have hsw := hlt s0 hsl
      obtain ⟨rt, hrt, hrs⟩ := hx3 s0 hsw
      rw [← hs0]
      obtain ⟨r, hr0⟩ : ∃ q, q = ws.getD s0 [] := ⟨_, rfl⟩
      rw [← hr0] at hrs
      obtain ⟨m, hm⟩ : ∃ q, q = l.count s0 := ⟨_, rfl⟩
      have m0 : 0 < m := by
        rw [hm]
        exact List.count_pos_iff.mpr hsl
      obtain ⟨B, hB⟩ : ∃ q, q = (ks.take i).flatMap fun s => Cn.reps (l.count s) (Cn.succ ws s) := ⟨_, rfl⟩
      rw [← hB] at hrG
      have hBlt : ∀ t ∈ B, t < ws.length := fun t ht => by
        rw [hB] at ht
        obtain ⟨s, _, ht⟩ := List.mem_flatMap.mp ht
        obtain ⟨t2, ht2, ht3⟩ := List.mem_flatMap.mp ht
        rw [(List.mem_replicate.mp ht3).2]
        exact succ_lt hok ht2
      have hrr : ∀ t ∈ r.filterMap id, t < ws.length := fun t ht => succ_lt (s := s0) hok (by unfold Cn.succ; rw [← hr0]; exact ht)
      have lr : (r.map oW).length = r.length := List.length_map _
      refine ⟨_, rfl, p, C, dx, _, _, rfl, eG _ _ hpf npb, Mt.cl, Mt.n2, mfs_ways, _, rfl, wt, _, _, _, rfl, rfl, tupS eG hx1, atI_nat hrt, rt, rfl, ⟨_, tupS eG hrs⟩, for_it (walk_tup (K := K) (a := rt) (xs := r.map oW)) (fun j σ G => ExB bc Hf G ∧ ∃ (v4 : Option V) (kvs' : List (Key × V)), σ = [some (.ref p), some (.ref c), some (.ref bc), some (.int (s0 : Int)), v4] ∧ G bc = some (.dK kvs') ∧ Rep kvs' (B ++ Cn.reps m ((r.take j).filterMap id)))
        ⟨eG, v4, kvs', rfl, hbG, by simpa [Cn.reps] using hrG⟩ (fun j σ G _ h => tupS h.1 hrs) ?_ ?_⟩
      · rintro j y σ G3 G2 hj ⟨eG3, v4', kvs2, rfl, hb2, hr2⟩ ⟨rfl, hy⟩
        rw [lr] at hj
        rw [List.getElem?_map, List.getElem?_eq_getElem hj] at hy
        cases hy
        have tk := take_fm (g := id) (List.getElem?_eq_getElem hj)
        cases hrj : r[j] with
        | none =>
          rw [hrj] at tk
          refine ⟨_, rfl, rfl, _, rfl, iteF ⟨eG3, _, kvs2, rfl, hb2, ?_⟩⟩
          rw [tk]
          simpa using hr2
        | some t =>
          rw [hrj] at tk
          refine ⟨_, rfl, rfl, _, rfl, iteT ?_⟩
          have hcG : G2 c = some (.frz od (.dK (ks.map (kvN l)))) := eG3 _ _ hcf ncb
          have hval : valV (ks.map (kvN l)) (.inl (s0 : Int)) = some (.int (m : Int)) := by
            have q := (show Rep (ks.map (kvN l)) l from ⟨ks, rfl, nd, mem⟩).get s0
            rw [if_pos hsl] at q
            rw [q, hm]
          have l2 : kvs2.length ≤ ws.length := hr2.len fun s hs => by
            rcases List.mem_append.mp hs with q | q
            · exact hBlt s q
            · obtain ⟨t2, ht2, ht3⟩ := List.mem_flatMap.mp q
              rw [(List.mem_replicate.mp ht3).2]
              refine hrr t2 ?_
              obtain ⟨o, ho, e⟩ := List.mem_filterMap.mp ht2
              exact List.mem_filterMap.mpr ⟨o, List.mem_of_mem_take ho, e⟩
          refine ⟨_, rfl, bc, rfl, .inl ⟨kvs2, .inl hb2⟩, _, rfl, _, DGet.k (k := .inl (t : Int)) hb2, _, rfl, _, rfl, c, .int (m : Int), rfl, .inl ⟨_, .inl (s0 : Int), .inr ⟨od, hcG⟩, rfl, hval.symm⟩, _, _, hr2.getD t, rfl, _, rfl, _, rfl, bc, _, rfl, DPut.k (k := .inl (t : Int)) hb2 (by rw [sizeLine_eq]; omega), ?_⟩
          refine ⟨eG3.trans ExB.put, _, _, rfl, upd_same, ?_⟩
          rw [tk]
          show Rep _ (B ++ Cn.reps m ((r.take j).filterMap id ++ [t]))
          rw [Cn.reps_app, Cn.reps_one, ← List.append_assoc]
          exact hr2.put m0
      · rintro σ G2 ⟨eG2, v4', kvs2, rfl, hb2, hr2⟩
        refine ⟨eG2, _, _, kvs2, rfl, hb2, ?_⟩
        rw [lr, List.take_of_length_le (Nat.le_refl _)] at hr2
        rw [List.take_succ_eq_append_getElem hi, List.flatMap_append, ← hB, ← hs0]
        have e : ([s0].flatMap fun s => Cn.reps (l.count s) (Cn.succ ws s)) = Cn.reps m (r.filterMap id) := by
          unfold Cn.succ
          rw [hm, hr0]
          simp
        rw [e]
        exact hr2
    · rintro σ G ⟨eG, v3, v4, kvs', rfl, hbG, hrG⟩
      rw [lk, List.take_of_length_le (Nat.le_refl _)] at hrG
      have hcG := eG _ _ hcf ncb
      refine ⟨hcG, _, rfl, k bc _ kvs' (fun x o hx => ?_) hbc (by rw [upd_ne ncb.symm]; exact hbG) (hrG.perm (Cn.bag_perm nd fun x hx => (mem x).mpr hx))⟩
      by_cases q : x = c
      · rw [q, upd_same]
        rw [q, hc] at hx
        exact hx
      · rw [upd_ne q]
        exact eG _ _ (ef _ _ (e1 _ _ hx) q) (ne_of_none hx hbc)
end
end My
set_option maxHeartbeats 2000000
set_option Elab.async false
set_option linter.all false
set_option autoImplicit false
set_option maxRecDepth 100000
set_option maxHeartbeats 8000000
namespace My
open PySem PySem.Spec PyProof.Rows L2 Evl
open PySem.OneX (OneTxt Tail tail_ex exTail)
/-- a def that may raise -/
structure OwnX (P : Program) (w : World) (K : PySem.W.Frag) (mg : Str → Option Value) (base : Heap) (x : Str) (k : Nat) (ps : List Str) (sp : Sp) where
  f : Addr
  fd : FuncData
  G : FnOk P w K mg base (L2.CX P w) k f fd ps sp
  m : mg x = some (.ref f)
  kp : PySem.W.keepIn K (.ref f) = true
  b : Binds K fd ps []
def totsOf (ws : List (List (Option Nat))) (f n : Nat) : List Int := (List.range (n + 1)).map fun t => ((Cn.ends ws f t).length : Int)
section
variable {P : Program} {w : World} {K : PySem.W.Frag} {mg : Str → Option Value} {base : Heap}
def spTotals (K : PySem.W.Frag) (C : Addr) : Sp := fun vs H Q _ => ∃ (p : Addr) (z : Str) (ws : List (List (Option Nat))) (f n : Nat), vs = [.ref p, .int (n : Int)] ∧ MachAt K C H p z ws f ∧ WaysOk z.cps.size ws ∧ ws.length ≤ 7 ∧ z ∈ L8 ∧ f < ws.length ∧ n ≤ 200 ∧
  ∀ q H', Ex H H' → H q = none → H' q = some (.lst ((totsOf ws f n).map V.int)) → Q (.ref q) H'
abbrev nTotals : List Str := ["machine", "length", "counts", "totals", "_"]
theorem scTotals : FnScope nTotals ["machine", "length"] (defScope sTotals) := ⟨rfl, rfl, rfl, by decide +kernel, rfl, by decide +kernel, by decide +kernel⟩
theorem ok_Totals {f C : Addr} {fd : FuncData} (Fn : Fun K "_totals" "_totals" sTotals f fd) (T : Txt K mg) (Mt : McT K C) (Ob : Own P w K mg base "_counts_behind" 1 ["machine", "counts"] (spBehind K C)) : FnOk P w K mg base CX0 2 f fd ["machine", "length"] (spTotals K C) := by
  refine Fn.ok scTotals (fun vs H Q E h => ?_) (fun cdv A outer s H vs Q E hr h => ?_)
  · obtain ⟨p, z, ws, f, n, rfl, _⟩ := h
    rfl
  · obtain ⟨p, z, ws, f, n, rfl, hM, hok, n7, hz8, hf, hn, k⟩ := h
    refine ⟨_, (pss_cons (ps_set (i := 2) scTotals.nd rfl (by first | exact Or.inl rfl | exact Or.inr rfl) (pe_disp (pps_cons (peFld K (pv 0)) pe_int pps_nil) (by rfl) (by rfl) (fun z => by cases z) (by decide)))
  (pss_cons (ps_set (i := 3) scTotals.nd rfl (by first | exact Or.inl rfl | exact Or.inr rfl) (pe_lst (pa_cons pe_int pa_nil)))
  (pss_cons (ps_for PassesOwn.never rfl (pi_range1 (by rfl) T.b_range (pa_cons (pv 1) pa_nil)) (pg_name (i := 4) scTotals.nd rfl (by first | exact Or.inl rfl | exact Or.inr rfl)) (pss_cons (ps_set (i := 2) scTotals.nd rfl (by first | exact Or.inl rfl | exact Or.inr rfl) (pe_call Ob.G (hr.mono (by decide)) rfl Ob.m Ob.kp Ob.b .nil pass0 (pa_cons (pv 0) (pa_cons (pv 2) pa_nil))))
  (pss_one (ps_expr (peBm K PySem.F.plainAttrs_list PySem.F.slot_list_append PySem.F.type_list_append mt_append (pv 3) (pa_cons (pe_callB (crSum K) (by rfl) T.b_sum (by decide +kernel) (pa_cons (pe_callTy (cr_listValsK rfl) (by rfl) T.b_list (by decide +kernel) (pa_cons (peBm0 K PySem.F.plainAttrs_dict PySem.F.slot_dict_values PySem.F.type_dict_values mt_valsK (pv 2)) pa_nil)) pa_nil)) pa_nil))))))
  (pss_one (ps_ret (pv 3)))))), ?_⟩
    obtain ⟨dx, wt, hp, hwt⟩ := hM.ob
    refine fun c0 hc0 => ?_
    have e1 : Ex H (upd H c0 (.dK [])) := Ex.new hc0
    refine ⟨_, rfl, p, C, dx, _, _, rfl, e1 _ _ hp, Mt.cl, Mt.n3, mfs_first, upd_same, [(.inl (f : Int), .int 1)], rfl, (by show 1 ≤ 15; decide), ?_⟩
    have e2 : Ex H (upd (upd H c0 (.dK [])) c0 (.dK (mergeK [] [(.inl (f : Int), .int 1)]))) := fun x o hx => by
      rw [upd_ne (ne_of_none hx hc0)]
      exact e1 _ _ hx
    have hc2 : upd (upd H c0 (.dK [])) c0 (.dK (mergeK [] [(.inl (f : Int), .int 1)])) c0 = some (.dK [(.inl (f : Int), .int 1)]) := upd_same
    generalize upd (upd H c0 (.dK [])) c0 (.dK (mergeK [] [(.inl (f : Int), .int 1)])) = H2 at e2 hc2 ⊢
    refine ⟨(by show 1 ≤ sizeLine; decide), fun tt htt => ?_⟩
    have e3 : Ex H2 (upd H2 tt (.lst [.int 1])) := Ex.new htt
    have htt3 : upd H2 tt (.lst [.int 1]) tt = some (.lst [.int 1]) := upd_same
    have hc3 := e3 _ _ hc2
    have ntc : tt ≠ c0 := (ne_of_none hc2 htt).symm
    have ntt : H tt = none := fresh_back e2 htt
    have e03 := e2.trans e3
    generalize upd H2 tt (.lst [.int 1]) = H3 at e3 htt3 hc3 e03 ⊢
    have ez : ((n : Nat) : Int).toNat = n := by omega
    refine ⟨_, rfl, _, rfl, (by omega), (by omega), for_it walk_r0 (fun i σ G => Ex H G ∧ ∃ (c : Addr) (v4 : Option V) (kvs : List (Key × V)), σ = [some (.ref p), some (.int (n : Int)), some (.ref c), some (.ref tt), v4] ∧ c ≠ tt ∧ G c = some (.dK kvs) ∧ Rep kvs (Cn.ends ws f i) ∧ G tt = some (.lst ((totsOf ws f i).map V.int)))
      ⟨e03, c0, none, _, rfl, ntc.symm, hc3, Rep.one, htt3⟩ (fun _ _ _ _ _ => trivial) ?_ ?_⟩
    · rintro i x σ G G1 hi ⟨eG, c, v4, kvs, rfl, nct, hcG, hrG, htG⟩ ⟨rfl, rfl⟩
      have hi : i < n := by omega
      have hMG := hM.ex eG
      have lt := Cn.ends_lt hf hok.lt i
      refine ⟨_, rfl, _, rfl, p, c, z, ws, f, kvs, _, rfl, hMG, hok, n7, hz8, hcG, hrG, lt, fun q G2 kvs2 e4 hq hq2 hr2 => ?_⟩
      have htG2 := e4 _ _ htG
      have nqt : q ≠ tt := (ne_of_none htG hq).symm
      refine ⟨_, rfl, .inl ⟨rfl, _, SqL.of htG2⟩, ?_⟩
      refine ⟨_, rfl, .inr (.inr (.inl ⟨rfl, .inl ⟨_, hq2⟩⟩)), q, kvs2, rfl, rfl, hq2, fun pv hpv => ?_⟩
      have e5 : Ex G2 (upd G2 pv (valsO pv q)) := Ex.new hpv
      refine ⟨pv, q, kvs2, rfl, upd_same, e5 _ _ hq2, fun ql hql => ?_⟩
      have e6 : Ex (upd G2 pv (valsO pv q)) (upd (upd G2 pv (valsO pv q)) ql (.lst (kvs2.map (·.2)))) := Ex.new hql
      have e56 := e5.trans e6
      obtain ⟨ns, hns, hsum⟩ := hr2.vals
      have hl6 : upd (upd G2 pv (valsO pv q)) ql (.lst (kvs2.map (·.2))) ql = some (.lst (ns.map V.int)) := by rw [upd_same, hns]
      generalize upd (upd G2 pv (valsO pv q)) ql (.lst (kvs2.map (·.2))) = G6 at e56 hl6 ⊢
      have htG6 := e56 _ _ htG2
      refine ⟨ql, ns, rfl, SqL.of hl6, tt, _, _, rfl, rfl, htG6, ?_, ?_⟩
      · rw [List.length_map]
        unfold totsOf
        rw [List.length_map, List.length_range, sizeLine_eq]
        omega
      have eG6 := (eG.trans e4).trans e56
      refine ⟨eG6.mut ntt, q, _, kvs2, rfl, nqt, by rw [upd_ne nqt]; exact e56 _ _ hq2, hr2, ?_⟩
      rw [upd_same]
      unfold totsOf
      rw [List.range_succ (n := i + 1), List.map_append, List.map_append, hsum]
      rfl
    · rintro σ G ⟨eG, c, v4, kvs, rfl, nct, hcG, hrG, htG⟩
      rw [ez] at htG
      exact ⟨_, rfl, k tt G eG ntt htG⟩
/-! ### a length that is none is refused -/
def spNeed (C : Addr) : Sp := fun vs H Q E => ∃ v, vs = [v] ∧ Kd H v ∧ (belowV v 201 = true → Q .non H) ∧ (belowV v 201 = false → ∀ d, H d = none → E (.ref C) (some d) (upd H d (.xd [(("at" : Str), v)])))
theorem scNeed : FnScope nIsInt ["value"] (defScope sNeedLen) := ⟨rfl, rfl, rfl, by decide +kernel, rfl, by decide +kernel, by decide +kernel⟩
theorem ok_Need {f C fI : Addr} {fd : FuncData} (Fn : Fun K "_need_length" "_need_length" sNeedLen f fd) (T : Txt K mg) (TR : OneTxt K mg "Refused" exTail "Exception.__new__" C fI) (Ob : Own P w K mg base "is_number_below" 3 ["value", "bound"] spIsBelow) : FnOk P w K mg base (L2.CX P w) 4 f fd ["value"] (spNeed C) := by
  refine Fn.okX scNeed (fun vs H Q E h => ?_) (fun cdv A outer s H vs Q E hr h => ?_)
  · obtain ⟨v, rfl, _⟩ := h
    rfl
  · obtain ⟨v, rfl, hk, k1, k2⟩ := h
    refine ⟨_, (pss_one (ps_if (pt_not (pt_val (pe_call Ob.G (hr.mono (by decide)) rfl Ob.m Ob.kp Ob.b .nil pass0 (pa_cons (pv 0) (pa_cons (pe_op op_add (C8.pe_gc (by rfl) T.g_MOST_LETTERS) pe_int) pa_nil))))) (pss_one (ps_raiseAt rfl TR tail_ex PySem.F.excBase_Exception hr (takes_of rfl rfl rfl rfl) (pa_cons (pv 0) pa_nil))) pss_nil)), ?_⟩
    refine ⟨_, rfl, _, _, rfl, rfl, v, 201, rfl, hk, _, rfl, ?_⟩
    cases e : belowV v 201 with
    | true => exact iteF (k1 e)
    | false => exact iteT ⟨_, rfl, v, rfl, fun d hd => k2 e d hd⟩
theorem below_nat {v : V} {m : Int} (h : belowV v m = true) : ∃ n : Nat, v = .int (n : Int) ∧ (n : Int) < m := by
  cases v with
  | int i =>
    have h : (decide (0 ≤ i) && decide (i < m)) = true := h
    rw [Bool.and_eq_true, decide_eq_true_iff, decide_eq_true_iff] at h
    obtain ⟨n, rfl⟩ := Int.eq_ofNat_of_zero_le h.1
    exact ⟨n, rfl, h.2⟩
  | non => cases (show false = true from h)
  | bl _ => cases (show false = true from h)
  | str _ => cases (show false = true from h)
  | byt _ => cases (show false = true from h)
  | flt _ => cases (show false = true from h)
  | ref _ => cases (show false = true from h)
  | ty _ => cases (show false = true from h)
def spCount (g : List (List (Option Nat)) → Nat → Nat → Int) (K : PySem.W.Frag) (C CR : Addr) : Sp := fun vs H Q E => ∃ (p : Addr) (v : V) (z : Str) (ws : List (List (Option Nat))) (f : Nat), vs = [.ref p, v] ∧ MachAt K C H p z ws f ∧ WaysOk z.cps.size ws ∧ ws.length ≤ 7 ∧ z ∈ L8 ∧ f < ws.length ∧ Kd H v ∧
  (∀ n : Nat, v = .int (n : Int) → n ≤ 200 → ∀ H', Ex H H' → Q (.int (g ws f n)) H') ∧ (belowV v 201 = false → ∀ d, H d = none → E (.ref CR) (some d) (upd H d (.xd [(("at" : Str), v)])))
def rowsG (ws : List (List (Option Nat))) (f n : Nat) : Int := ((Cn.ends ws f n).length : Int)
def uptoG (ws : List (List (Option Nat))) (f n : Nat) : Int := (totsOf ws f n).sum
abbrev nCountRows : List Str := ["machine", "length"]
theorem scCountRows : FnScope nCountRows ["machine", "length"] (defScope sCountRows) := ⟨rfl, rfl, rfl, by decide +kernel, rfl, by decide +kernel, by decide +kernel⟩
theorem scCountUpto : FnScope nCountRows ["machine", "length"] (defScope sCountUpto) := ⟨rfl, rfl, rfl, by decide +kernel, rfl, by decide +kernel, by decide +kernel⟩
theorem ok_CountRows {f C CR : Addr} {fd : FuncData} (Fn : Fun K "count_rows" "count_rows" sCountRows f fd) (T : Txt K mg) (On : OwnX P w K mg base "_need_length" 4 ["value"] (spNeed CR)) (Ot : Own P w K mg base "_totals" 2 ["machine", "length"] (spTotals K C)) : FnOk P w K mg base (L2.CX P w) 5 f fd ["machine", "length"] (spCount rowsG K C CR) := by
  refine Fn.okX scCountRows (fun vs H Q E h => ?_) (fun cdv A outer s H vs Q E hr h => ?_)
  · obtain ⟨p, v, z, ws, f, rfl, _⟩ := h
    rfl
  · obtain ⟨p, v, z, ws, f, rfl, hM, hok, n7, hz8, hf, hk, k1, k2⟩ := h
    refine ⟨_, (pss_cons (ps_expr (pe_call On.G (hr.mono (by decide)) rfl On.m On.kp On.b .nil (passes_call (takes_of rfl rfl rfl rfl) (fun _ _ _ _ h => h)) (pa_cons (pv 1) pa_nil)))
  (pss_one (ps_ret (pe_ix (ixL K) (pe_call Ot.G (hr.mono (by decide)) rfl Ot.m Ot.kp Ot.b .nil pass0 (pa_cons (pv 0) (pa_cons (pv 1) pa_nil))) (pe_un un_neg pe_int) (fun _ _ => rfl))))), ?_⟩
    refine ⟨_, rfl, v, rfl, hk, fun hb => ?_, k2⟩
    obtain ⟨n, rfl, hn⟩ := below_nat hb
    refine ⟨_, rfl, _, rfl, p, z, ws, f, n, rfl, hM, hok, n7, hz8, hf, (by omega), fun q H' e hq hq2 => ?_⟩
    refine ⟨1, rfl, q, _, -1, .int (rowsG ws f n), rfl, rfl, SqL.of hq2, ?_, k1 n rfl (by omega) H' e⟩
    unfold totsOf
    rw [List.range_succ, List.map_append, List.map_append]
    exact atI_last
theorem ok_CountUpto {f C CR : Addr} {fd : FuncData} (Fn : Fun K "count_upto" "count_upto" sCountUpto f fd) (T : Txt K mg) (On : OwnX P w K mg base "_need_length" 4 ["value"] (spNeed CR)) (Ot : Own P w K mg base "_totals" 2 ["machine", "length"] (spTotals K C)) : FnOk P w K mg base (L2.CX P w) 5 f fd ["machine", "length"] (spCount uptoG K C CR) := by
  refine Fn.okX scCountUpto (fun vs H Q E h => ?_) (fun cdv A outer s H vs Q E hr h => ?_)
  · obtain ⟨p, v, z, ws, f, rfl, _⟩ := h
    rfl
  · obtain ⟨p, v, z, ws, f, rfl, hM, hok, n7, hz8, hf, hk, k1, k2⟩ := h
    refine ⟨_, (pss_cons (ps_expr (pe_call On.G (hr.mono (by decide)) rfl On.m On.kp On.b .nil (passes_call (takes_of rfl rfl rfl rfl) (fun _ _ _ _ h => h)) (pa_cons (pv 1) pa_nil)))
  (pss_one (ps_ret (pe_callB (crSum K) (by rfl) T.b_sum (by decide +kernel) (pa_cons (pe_call Ot.G (hr.mono (by decide)) rfl Ot.m Ot.kp Ot.b .nil pass0 (pa_cons (pv 0) (pa_cons (pv 1) pa_nil))) pa_nil))))), ?_⟩
    refine ⟨_, rfl, v, rfl, hk, fun hb => ?_, k2⟩
    obtain ⟨n, rfl, hn⟩ := below_nat hb
    refine ⟨_, rfl, _, rfl, p, z, ws, f, n, rfl, hM, hok, n7, hz8, hf, (by omega), fun q H' e hq hq2 => ?_⟩
    exact ⟨q, _, rfl, SqL.of hq2, k1 n rfl (by omega) H' e⟩
end
end My
set_option maxHeartbeats 2000000
set_option Elab.async false
set_option linter.all false
set_option autoImplicit false
set_option maxRecDepth 100000
set_option maxHeartbeats 8000000
namespace My
open PySem PySem.Spec PyProof.Rows L2 Evl
def pairS (x : Str × Nat) : PyData := .tuple [.str x.1, .int (x.2 : Int)]
/-- the rows that were found, by their lengths -/
structure FoundOk (ws : List (List (Option Nat))) (f t : Nat) (rows : List Str) : Prop where
  le : ∀ r ∈ rows, r.cps.size ≤ t
  cnt : ∀ l, l ≤ t → (rows.filter fun r => decide (r.cps.size = l)).length = (Cn.ends ws f l).length
theorem fm_eq {g : Nat → Option Nat} : ∀ l : List Nat, l.filterMap g = (l.filter fun i => (g i).isSome).map fun i => (g i).getD 0
  | [] => rfl
  | x :: l => by
    cases e : g x with
    | none => rw [List.filterMap_cons_none e, List.filter_cons_of_neg (by rw [e]; simp), fm_eq l]
    | some y =>
      rw [List.filterMap_cons_some e, List.filter_cons_of_pos (by rw [e]; rfl), List.map_cons, fm_eq l, e]
      rfl
theorem range_self {r : List (Option Nat)} : ((List.range r.length).map fun i => r.getD i none) = r := by
  apply List.ext_getElem
  · simp
  · intro i h1 h2
    simp [List.getD_eq_getElem?_getD, List.getElem?_eq_getElem h2]
theorem row_succ {r : List (Option Nat)} : (((List.range r.length).filter fun i => (r.getD i none).isSome).map fun i => (r.getD i none).getD 0) = r.filterMap id := by
  rw [← fm_eq (g := fun i => r.getD i none)]
  have e : (List.range r.length).filterMap (fun i => r.getD i none) = ((List.range r.length).map fun i => r.getD i none).filterMap id := by
    rw [List.filterMap_map]
    rfl
  rw [e, range_self]
theorem waysN_read {K : PySem.W.Frag} {H : Hp} {wa : Addr} {ws : List (List (Option Nat))} (h : Dp K H (.ref wa) (waysN ws)) : ∃ xs, SqL K H wa xs ∧ xs.length = ws.length ∧ ∀ s, s < ws.length → ∃ ra, xs[s]? = some (.ref ra) ∧ SqL K H ra ((ws.getD s []).map oW) := by
  obtain ⟨a, xs, e, h1, h2⟩ := dp_lst h
  cases e
  refine ⟨xs, h1, by rw [dpAll_len h2, List.length_map], fun s hs => ?_⟩
  obtain ⟨v, hv, hd⟩ := dpAll_get (i := s) (d := rowN ws[s]) h2 (by rw [List.getElem?_map, List.getElem?_eq_getElem hs]; rfl)
  obtain ⟨rt, rs, rfl, h3, h4⟩ := dp_lst hd
  have e := dpAll_oN_eq h4
  subst e
  refine ⟨rt, hv, ?_⟩
  rw [List.getD_eq_getElem?_getD, List.getElem?_eq_getElem hs]
  exact h3
theorem succ_len {k : Nat} {ws : List (List (Option Nat))} (h : WaysOk k ws) (s : Nat) : (Cn.succ ws s).length ≤ k := by
  unfold Cn.succ
  refine Nat.le_trans (List.length_filterMap_le _ _) ?_
  rcases Nat.lt_or_ge s ws.length with hl | hl
  · rw [List.getD_eq_getElem?_getD, List.getElem?_eq_getElem hl]
    exact Nat.le_of_eq (h.len _ (List.getElem_mem hl))
  · rw [List.getD_eq_getElem?_getD, List.getElem?_eq_none hl]
    exact Nat.zero_le _
theorem flat_len {k : Nat} {g : Nat → List Nat} (h : ∀ s, (g s).length ≤ k) : ∀ l : List Nat, (l.flatMap g).length ≤ k * l.length
  | [] => Nat.zero_le _
  | x :: l => by
    rw [List.flatMap_cons, List.length_append, List.length_cons, Nat.mul_succ]
    have := h x
    have := flat_len h l
    omega
theorem ends_len {ws : List (List (Option Nat))} {f k : Nat} (h : WaysOk k ws) (hk : k ≤ 3) : ∀ t, (Cn.ends ws f t).length ≤ 3 ^ t
  | 0 => Nat.le_refl _
  | t + 1 => by
    have := ends_len (f := f) h hk t
    have h2 := flat_len (k := 3) (g := Cn.succ ws) (fun s => Nat.le_trans (succ_len h s) hk) (Cn.ends ws f t)
    show ((Cn.ends ws f t).flatMap (Cn.succ ws)).length ≤ 3 ^ (t + 1)
    rw [Nat.pow_succ]
    omega
theorem snds_only (l : List (Str × Nat)) : tupAll (l.map pairS) = true := by
  rw [tupAll_iff]
  intro d hd
  obtain ⟨x, _, rfl⟩ := List.mem_map.mp hd
  rfl
theorem pairS_read {K : PySem.W.Frag} {H : Hp} {v : V} {x : Str × Nat} (h : Dp K H v (pairS x)) : ∃ q, v = .ref q ∧ SqT K H q [.str x.1, .int (x.2 : Int)] := by
  obtain ⟨q, xs, rfl, h1, h2⟩ := dp_tup h
  cases h2 with
  | cons a t =>
    cases a
    cases t with
    | cons b t =>
      cases b
      cases t
      exact ⟨q, rfl, h1⟩
theorem FoundOk.step {ws : List (List (Option Nat))} {f t : Nat} {rows news : List Str} (h : FoundOk ws f t rows) (hn : ∀ r ∈ news, r.cps.size = t + 1) (hl : news.length = (Cn.ends ws f (t + 1)).length) : FoundOk ws f (t + 1) (rows ++ news) := by
  refine ⟨fun r hr => ?_, fun l hl' => ?_⟩
  · rcases List.mem_append.mp hr with q | q
    · exact Nat.le_succ_of_le (h.le r q)
    · exact Nat.le_of_eq (hn r q)
  · rw [List.filter_append, List.length_append]
    by_cases e : l = t + 1
    · subst e
      have e1 : (rows.filter fun r => decide (r.cps.size = t + 1)) = [] := List.filter_eq_nil_iff.mpr fun r hr => by have := h.le r hr; simp; omega
      have e2 : (news.filter fun r => decide (r.cps.size = t + 1)) = news := List.filter_eq_self.mpr fun r hr => decide_eq_true (hn r hr)
      rw [e1, e2, hl]
      simp
    · have e2 : (news.filter fun r => decide (r.cps.size = l)) = [] := List.filter_eq_nil_iff.mpr fun r hr => by have := hn r hr; simp; omega
      rw [e2, h.cnt l (by omega)]
      simp
theorem str_app {a b : Str} : (a ++ b).cps.size = a.cps.size + b.cps.size := by
  show (a.cps ++ b.cps).size = _
  rw [Array.size_append]
section
variable {P : Program} {w : World} {K : PySem.W.Frag} {mg : Str → Option Value} {base : Heap}
def spTried (K : PySem.W.Frag) : Sp := fun vs H Q _ => ∃ (p wa : Addr) (z : Str) (ws : List (List (Option Nat))) (f : Nat), vs = [.ref p, .int 4] ∧ H p = some (.lst [.str z, .ref wa, .int (f : Int)]) ∧ Dp K H (.ref wa) (waysN ws) ∧ z ∈ L8 ∧ WaysOk z.cps.size ws ∧ f < ws.length ∧ ws.length ≤ 7 ∧
  ∀ q H' rows, Ex H H' → H q = none → H' q = some (.lst (rows.map V.str)) → FoundOk ws f 4 rows → rows.length ≤ 500 → Q (.ref q) H'
abbrev nTried : List Str := ["drawn", "letters", "found", "last", "turn", "later", "row", "state", "at", "letter", "pair"]
theorem scTried : FnScope nTried ["drawn", "letters"] (defScope sTried) := ⟨rfl, rfl, rfl, by decide +kernel, rfl, by decide +kernel, by decide +kernel⟩
theorem ok_Tried {f : Addr} {fd : FuncData} (Fn : Fun K "_law_tried" "_law_tried" sTried f fd) (T : Txt K mg) : FnOk P w K mg base CX0 1 f fd ["drawn", "letters"] (spTried K) := by
  refine Fn.ok scTried (fun vs H Q E h => ?_) (fun cdv A outer s H vs Q E hr h => ?_)
  · obtain ⟨p, wa, z, ws, f, rfl, _⟩ := h
    rfl
  · obtain ⟨p, wa, z, ws, f, rfl, hp, hwa, hz8, hok, hf, n7, k⟩ := h
    refine ⟨_, (pss_cons (ps_par (i := 2) (j := 3) (by rfl) scTried.nd rfl rfl (by decide) rfl rfl (pa_cons (pe_lst (pa_cons pe_str pa_nil)) (pa_cons (pe_lst (pa_cons (pe_tup (pa_cons pe_str (pa_cons (pe_ix (ixL K) (pv 0) pe_int (fun _ _ => rfl)) pa_nil))) pa_nil)) pa_nil)) (by rfl))
  (pss_cons (ps_for PassesOwn.never rfl (pi_range1 (by rfl) T.b_range (pa_cons (pv 1) pa_nil)) (pg_name (i := 4) scTried.nd rfl (by first | exact Or.inl rfl | exact Or.inr rfl)) (pss_cons (ps_set (i := 5) scTried.nd rfl (by first | exact Or.inl rfl | exact Or.inr rfl) (pe_lst pa_nil))
  (pss_cons (ps_for PassesOwn.never rfl (piL K (pv 3)) (pgT K (n := 2) (by rfl) (pgs_cons (pg_name (i := 6) scTried.nd rfl (by first | exact Or.inl rfl | exact Or.inr rfl)) (pgs_cons (pg_name (i := 7) scTried.nd rfl (by first | exact Or.inl rfl | exact Or.inr rfl)) pgs_nil))) (pss_one (ps_set (i := 5) scTried.nd rfl (by first | exact Or.inl rfl | exact Or.inr rfl) (pe_op op_cat (pv 5) (pe_lc (own := [("at", 8), ("letter", 9)]) rfl scTried.nd (pi_enumS (by rfl) T.b_enumerate (pa_cons (pe_ix (ixL K) (pv 0) pe_int (fun _ _ => rfl)) pa_nil)) (blkOk_by (N := nTried) (sc := defScope sTried) (by decide +kernel)) (fun _ _ _ _ _ => (pgT K (n := 2) (by rfl) (pgs_cons (pg_name (i := 8) scTried.nd rfl (by first | exact Or.inl rfl | exact Or.inr rfl)) (pgs_cons (pg_name (i := 9) scTried.nd rfl (by first | exact Or.inl rfl | exact Or.inr rfl)) pgs_nil)))) (fun _ _ _ _ _ => (pts_one (pt_cmpR opNotN (pe_ix (ixL K) (pe_ix (ixL K) (pe_ix (ixL K) (pv 0) pe_int (fun _ _ => rfl)) (pv 7) (fun _ _ => rfl)) (pv 8) (fun _ _ => rfl)) pe_non (nomark _)))) (fun _ _ _ _ _ => (pe_tup (pa_cons (pe_op op_add_str (pv 6) (pv 9)) (pa_cons (pe_ix (ixL K) (pe_ix (ixL K) (pe_ix (ixL K) (pv 0) pe_int (fun _ _ => rfl)) (pv 7) (fun _ _ => rfl)) (pv 8) (fun _ _ => rfl)) pa_nil)))))))))
  (pss_one (ps_par (i := 2) (j := 3) (by rfl) scTried.nd rfl rfl (by decide) rfl rfl (pa_cons (pe_op op_cat (pv 2) (pe_lc (own := [("pair", 10)]) rfl scTried.nd (piL K (pv 5)) (blkOk_by (N := nTried) (sc := defScope sTried) (by decide +kernel)) (fun _ _ _ _ _ => (pg_name (i := 10) scTried.nd rfl (by first | exact Or.inl rfl | exact Or.inr rfl))) (fun _ _ _ _ _ => pts_nil) (fun _ _ _ _ _ => (pe_ix (ixT K) (pv 10) pe_int (fun _ _ => rfl))))) (pa_cons (pv 5) pa_nil)) (by rfl))))))
  (pss_one (ps_ret (pv 2))))), ?_⟩
    obtain ⟨xs, hx1, hx2, hx3⟩ := waysN_read hwa
    have lz := l8_len hz8
    refine ⟨(by show 1 ≤ sizeLine; decide), fun fo hfo => ⟨_, rfl, p, _, 2, .int (f : Int), rfl, rfl, SqL.of (Ex.new hfo _ _ hp), rfl, (by show 2 ≤ sizeLine; decide), fun t0 ht0 => ⟨(by show 1 ≤ sizeLine; decide), fun la hla => ⟨_, _, rfl, ?_⟩⟩⟩⟩
    have e1 : Ex H (upd H fo (.lst [.str ""])) := Ex.new hfo
    have hfo1 : upd H fo (.lst [.str ""]) fo = some (.lst [.str ""]) := upd_same
    generalize upd H fo (.lst [.str ""]) = H1 at e1 hfo1 ht0 hla ⊢
    have e2 : Ex H1 (upd H1 t0 (.tup [.str "", .int (f : Int)])) := Ex.new ht0
    have ht2 : upd H1 t0 (.tup [.str "", .int (f : Int)]) t0 = some (.tup [.str "", .int (f : Int)]) := upd_same
    have hfo2 := e2 _ _ hfo1
    generalize upd H1 t0 (.tup [.str "", .int (f : Int)]) = H2 at e2 ht2 hfo2 hla ⊢
    have e3 : Ex H2 (upd H2 la (.lst [.ref t0])) := Ex.new hla
    have hla3 : upd H2 la (.lst [.ref t0]) la = some (.lst [.ref t0]) := upd_same
    have ht3 := e3 _ _ ht2
    have hfo3 := e3 _ _ hfo2
    have e03 := (e1.trans e2).trans e3
    have nfo := hfo
    generalize upd H2 la (.lst [.ref t0]) = H3 at e3 hla3 ht3 hfo3 e03 ⊢
    have start : DpAll K H3 [.ref t0] ([((⟨#[]⟩ : Str), f)].map pairS) := .cons (.tup (SqT.of ht3) (.cons (.str _) (.cons (.int _) .nil))) .nil
    have start2 : ∀ x ∈ [((⟨#[]⟩ : Str), f)], x.1.cps.size = 0 := fun x hx => by
      cases List.mem_singleton.mp hx
      rfl
    have start3 : FoundOk ws f 0 [("" : Str)] := ⟨fun r hr => by
      cases List.mem_singleton.mp hr
      exact Nat.le_refl _, fun l hl => by
      have e : l = 0 := by omega
      cases e
      rfl⟩
    refine ⟨_, rfl, 4, rfl, (by decide), (by decide), for_it walk_r0 (fun t σ G => Ex H G ∧ ∃ (fo la : Addr) (v4 v5 v6 v7 : Option V) (rows : List Str) (ys : List V) (lst : List (Str × Nat)), σ = [some (.ref p), some (.int 4), some (.ref fo), some (.ref la), v4, v5, v6, v7, none, none, none] ∧ H fo = none ∧ G fo = some (.lst (rows.map V.str)) ∧ G la = some (.lst ys) ∧ DpAll K G ys (lst.map pairS) ∧ lst.map (·.2) = Cn.ends ws f t ∧ (∀ x ∈ lst, x.1.cps.size = t) ∧ FoundOk ws f t rows ∧ rows.length ≤ 1 + 100 * t)
      ⟨e03, fo, la, none, none, none, none, [""], [.ref t0], [((⟨#[]⟩ : Str), f)], rfl, nfo, hfo3, hla3, start, rfl, start2, start3, by simp⟩ (fun _ _ _ _ _ => trivial) ?_ ?_⟩
    · rintro t x σ G G1 ht ⟨eG, fo, la, v4, v5, v6, v7, rows, ys, lst, rfl, nfo, hfoG, hlaG, hdG, hsnd, hlen, hF, hrl⟩ ⟨rfl, rfl⟩
      have ht : t < 4 := ht
      have llst : lst.length = (Cn.ends ws f t).length := by rw [← hsnd, List.length_map]
      have l27 : lst.length ≤ 27 := by
        rw [llst]
        refine Nat.le_trans (ends_len hok lz t) ?_
        exact Nat.pow_le_pow_right (by decide) (by omega : t ≤ 3)
      have lys : ys.length = lst.length := by rw [dpAll_len hdG, List.length_map]
      refine ⟨(by show 0 ≤ sizeLine; decide), fun lt0 hlt0 => ?_⟩
      have e4 : Ex G1 (upd G1 lt0 (.lst [])) := Ex.new hlt0
      have hlt4 : upd G1 lt0 (.lst []) lt0 = some (.lst []) := upd_same
      generalize upd G1 lt0 (.lst []) = G2 at e4 hlt4 ⊢
      refine ⟨_, rfl, la, rfl, ⟨_, SqL.of (e4 _ _ hlaG)⟩, for_it (walk_list (K := K) (a := la) (xs := ys)) (fun j σ G => Ex G1 G ∧ ∃ (lt : Addr) (v6 v7 : Option V) (acc : List V) (cur : List (Str × Nat)), σ = [some (.ref p), some (.int 4), some (.ref fo), some (.ref la), some (.int (t : Int)), some (.ref lt), v6, v7, none, none, none] ∧ G lt = some (.lst acc) ∧ DpAll K G acc (cur.map pairS) ∧ cur.map (·.2) = ((Cn.ends ws f t).take j).flatMap (Cn.succ ws) ∧ ∀ x ∈ cur, x.1.cps.size = t + 1)
        ⟨e4, lt0, _, _, [], [], rfl, hlt4, .nil, by simp, by simp⟩ (fun j σ G _ h => SqL.of (h.1 _ _ hlaG)) ?_ ?_⟩
      · rintro j y σ G4 G3 hj ⟨e5, lt, v6, v7, acc, cur, rfl, hltG, hacc, hcs, hcl⟩ ⟨rfl, hy⟩
        have hj2 : j < lst.length := by omega
        obtain ⟨⟨row, s0⟩, hx⟩ : ∃ q, q = lst[j] := ⟨_, rfl⟩
        obtain ⟨v', hv', hd'⟩ := dpAll_get (i := j) (d := pairS lst[j]) hdG (by rw [List.getElem?_map, List.getElem?_eq_getElem hj2]; rfl)
        rw [hy] at hv'
        cases hv'
        rw [← hx] at hd'
        obtain ⟨tt, rfl, htt⟩ := pairS_read hd'
        have hrow : row.cps.size = t := hlen (row, s0) (by rw [hx]; exact List.getElem_mem hj2)
        have hje : j < (Cn.ends ws f t).length := by omega
        have hs0 : (Cn.ends ws f t)[j] = s0 := by
          have q : (lst.map (·.2))[j]'(by rw [List.length_map]; exact hj2) = s0 := by
            rw [List.getElem_map, ← hx]
          rw [← q]
          congr 1
          exact hsnd.symm
        have hsw : s0 < ws.length := Cn.ends_lt hf hok.lt t s0 (by rw [← hs0]; exact List.getElem_mem hje)
        obtain ⟨ra, hra, hrs⟩ := hx3 s0 hsw
        obtain ⟨r, hr0⟩ : ∃ q, q = ws.getD s0 [] := ⟨_, rfl⟩
        rw [← hr0] at hrs
        have lr : r.length = z.cps.size := by
          rw [hr0, List.getD_eq_getElem?_getD, List.getElem?_eq_getElem hsw]
          exact hok.len _ (List.getElem_mem hsw)
        have eG3 := eG.trans e5
        have lcur : cur.length ≤ 81 := by
          have q : cur.length = (((Cn.ends ws f t).take j).flatMap (Cn.succ ws)).length := by rw [← hcs, List.length_map]
          rw [q]
          refine Nat.le_trans (flat_len (k := 3) (fun s => Nat.le_trans (succ_len hok s) lz) _) ?_
          rw [List.length_take]
          omega
        have lacc : acc.length = cur.length := by rw [dpAll_len hacc, List.length_map]
        refine ⟨tt, _, rfl, ex_t e5 htt, rfl, _, _, rfl, _, _, rfl, rfl, ?_⟩
        refine ⟨_, rfl, _, rfl, p, _, 0, .str z, rfl, rfl, SqL.of (eG3 _ _ hp), rfl, z, rfl, fun D hD => ?_⟩
        refine lcD (K := K) (walk_enumS (z := z)) (fun i => (r.getD i none).isSome) (fun i => pairS (row ++ ⟨#[z.cps.getD i 0]⟩, (r.getD i none).getD 0)) (by omega) hD (fun _ _ => trivial) ?_ ?_
        · rintro i u G6 G5 hi e6 ⟨T0, c, rfl, hT0, rfl, hc⟩ N A2 ⟨itN, itA⟩
          have ec : z.cps.getD i 0 = c := by
            rw [Array.getD_eq_getD_getElem?, hc]
            rfl
          rw [ec] at itA
          have hir : i < r.length := by omega
          have g0 : r.getD i none = r[i] := by
            rw [List.getD_eq_getElem?_getD, List.getElem?_eq_getElem hir]
            rfl
          rw [g0] at itN itA
          have e7 : Ex G6 (upd G6 T0 (.tup [.int (i : Int), .str ⟨#[c]⟩])) := Ex.new hT0
          have hT1 : upd G6 T0 (.tup [.int (i : Int), .str ⟨#[c]⟩]) T0 = some (.tup [.int (i : Int), .str ⟨#[c]⟩]) := upd_same
          generalize upd G6 T0 (.tup [.int (i : Int), .str ⟨#[c]⟩]) = G7 at e7 hT1 ⊢
          have e8 := (eG3.trans e6).trans e7
          refine ⟨T0, _, rfl, SqT.of hT1, rfl, _, _, rfl, _, _, rfl, rfl, by rfl, ?_⟩
          refine ⟨_, rfl, p, _, 1, .ref wa, rfl, rfl, SqL.of (e8 _ _ hp), rfl, _, rfl, wa, xs, _, .ref ra, rfl, rfl, ex_l e8 hx1, atI_nat hra, _, rfl, ra, _, _, oW r[i], rfl, rfl, ex_l e8 hrs, atI_nat (by rw [List.getElem?_map, List.getElem?_eq_getElem hir]; rfl), rfl, _, rfl, ?_⟩
          cases hri : r[i] with
          | none =>
            rw [hri] at itN
            exact iteF (itN rfl _ e7)
          | some q =>
            rw [hri] at itA
            refine iteT ?_
            refine ⟨_, rfl, _, rfl, _, _, rfl, rfl, ?_, ?_⟩
            · show row.cps.size + 1 ≤ sizeLine
              rw [sizeLine_eq]
              omega
            refine ⟨_, rfl, p, _, 1, .ref wa, rfl, rfl, SqL.of (e8 _ _ hp), rfl, _, rfl, wa, xs, _, .ref ra, rfl, rfl, ex_l e8 hx1, atI_nat hra, _, rfl, ra, _, _, oW r[i], rfl, rfl, ex_l e8 hrs, atI_nat (by rw [List.getElem?_map, List.getElem?_eq_getElem hir]; rfl), ?_⟩
            rw [hri]
            refine ⟨(by show 2 ≤ sizeLine; decide), fun t4 ht4 => itA rfl _ _ (e7.trans (Ex.new ht4)) (.tup (SqT.of ?_) (.cons (.str _) (.cons (.int _) .nil)))⟩
            have nt4 : G6 t4 = none := fresh_back e7 ht4
            rw [nw_none nt4]
            exact upd_same
        · intro G5 zs e6 hD5 hzs
          obtain ⟨nl, hnl⟩ : ∃ nl : List (Str × Nat), nl = ((List.range z.cps.size).filter fun i => (r.getD i none).isSome).map fun i => (row ++ ⟨#[z.cps.getD i 0]⟩, (r.getD i none).getD 0) := ⟨_, rfl⟩
          have hzs2 : DpAll K G5 zs (nl.map pairS) := by
            rw [hnl, List.map_map]
            exact dpAll_ex (show Ex (nw _ G5) G5 from nw_ex) hzs
          have lzs : zs.length ≤ 3 := by
            rw [dpAll_len hzs2, List.length_map, hnl, List.length_map]
            refine Nat.le_trans (List.length_filter_le _ _) ?_
            rw [List.length_range]
            exact lz
          refine ⟨lt, D, acc, zs, rfl, rfl, e6 _ _ hltG, hD5, by rw [sizeLine_eq]; omega, fun p9 hp9 => ?_⟩
          have e9 : Ex G5 (upd G5 p9 (.lst (acc ++ zs))) := Ex.new hp9
          refine ⟨(e5.trans e6).trans e9, p9, _, _, acc ++ zs, cur ++ nl, rfl, upd_same, ?_, ?_, fun x hx' => ?_⟩
          · rw [List.map_append]
            exact dpAll_app (dpAll_ex (e6.trans e9) hacc) (dpAll_ex e9 hzs2)
          · rw [List.map_append, List.take_succ_eq_append_getElem hje, List.flatMap_append, hcs, hs0]
            congr 1
            rw [hnl, List.map_map]
            have q := row_succ (r := r)
            rw [lr] at q
            have q2 : Cn.succ ws s0 = r.filterMap id := by
              rw [hr0]
              rfl
            rw [List.flatMap_cons, List.flatMap_nil, List.append_nil, q2, ← q]
            rfl
          · rcases List.mem_append.mp hx' with q | q
            · exact hcl x q
            · rw [hnl] at q
              obtain ⟨i, _, rfl⟩ := List.mem_map.mp q
              show (row ++ (⟨#[z.cps.getD i 0]⟩ : Str)).cps.size = t + 1
              rw [str_app, hrow]
              rfl
      · rintro σ G3 ⟨e5, lt, v6, v7, acc, cur, rfl, hltG, hacc, hcs, hcl⟩
        rw [lys, llst, List.take_of_length_le (Nat.le_refl _)] at hcs
        have hcs : cur.map (·.2) = Cn.ends ws f (t + 1) := hcs
        have lcur : cur.length = (Cn.ends ws f (t + 1)).length := by rw [← hcs, List.length_map]
        have l81 : cur.length ≤ 81 := by
          rw [lcur]
          refine Nat.le_trans (ends_len hok lz (t + 1)) ?_
          exact Nat.pow_le_pow_right (by decide) (by omega : t + 1 ≤ 4)
        have lacc : acc.length = cur.length := by rw [dpAll_len hacc, List.length_map]
        have hfo5 := e5 _ _ hfoG
        refine ⟨_, rfl, _, rfl, lt, rfl, ⟨_, SqL.of hltG⟩, fun D hD => ?_⟩
        refine lcDA (K := K) (walk_list (K := K) (a := lt) (xs := acc)) (fun i => .str (cur.getD i ((⟨#[]⟩ : Str), 0)).1) (by omega) hD (fun _ e => ex_l e (SqL.of hltG)) ?_ ?_
        · rintro i u G6 G5 hi e6 ⟨rfl, hu⟩ A2 hA2
          have hi2 : i < cur.length := by omega
          obtain ⟨v', hv', hd'⟩ := dpAll_get (i := i) (d := pairS cur[i]) hacc (by rw [List.getElem?_map, List.getElem?_eq_getElem hi2]; rfl)
          rw [hu] at hv'
          cases hv'
          obtain ⟨tt, rfl, htt⟩ := pairS_read hd'
          have g0 : cur.getD i ((⟨#[]⟩ : Str), 0) = cur[i] := by
            rw [List.getD_eq_getElem?_getD, List.getElem?_eq_getElem hi2]
            rfl
          rw [g0] at hA2
          exact ⟨by rfl, _, rfl, tt, _, 0, _, rfl, rfl, ex_t e6 htt, rfl, hA2 _ _ (Ex.refl _) (.str _)⟩
        · intro G5 zs e6 hD5 hzs
          have hzs2 : zs = (cur.map (·.1)).map V.str := dpStrs_eq (by
            rw [lacc, range_get (f := fun x : Str × Nat => PyData.str x.1) (d := ((⟨#[]⟩ : Str), 0)) cur] at hzs
            rw [List.map_map]
            exact hzs)
          subst hzs2
          refine ⟨fo, D, _, _, rfl, rfl, e6 _ _ hfo5, hD5, by rw [List.length_map, List.length_map, List.length_map, sizeLine_eq]; omega, fun p9 hp9 => ?_⟩
          have e9 : Ex G5 (upd G5 p9 (.lst (rows.map V.str ++ (cur.map (·.1)).map V.str))) := Ex.new hp9
          have e69 := e6.trans e9
          refine ⟨_, rfl, _, _, rfl, (eG.trans e5).trans e69, p9, lt, _, _, _, _, rows ++ cur.map (·.1), acc, cur, rfl, fresh_back ((eG.trans e5).trans e6) hp9, ?_, e69 _ _ hltG, dpAll_ex e69 hacc, hcs, hcl, hF.step (fun r hr => ?_) (by rw [List.length_map, lcur]), ?_⟩
          · rw [upd_same, List.map_append]
          · obtain ⟨x, hx, rfl⟩ := List.mem_map.mp hr
            exact hcl x hx
          · rw [List.length_append, List.length_map]
            omega
    · rintro σ G ⟨eG, fo, la, v4, v5, v6, v7, rows, ys, lst, rfl, nfo, hfoG, hlaG, hdG, hsnd, hlen, hF, hrl⟩
      exact ⟨_, rfl, k fo G rows eG nfo hfoG hF (by have : ((4 : Int).toNat) = 4 := rfl; omega)⟩
end
end My
set_option maxHeartbeats 2000000
set_option Elab.async false
set_option linter.all false
set_option autoImplicit false
set_option maxRecDepth 100000
set_option maxHeartbeats 8000000
namespace My
open PySem PySem.Spec PyProof.Rows L2 Evl
/-- how many rows of a length end at each state -/
def cnts (n : Nat) (l : List Nat) : List Int := (List.range n).map fun s => (l.count s : Int)
theorem cnts_set {n t m : Nat} {L : List Nat} (ht : t < n) : (cnts n L).set t ((L.count t : Int) + (m : Int)) = cnts n (L ++ List.replicate m t) := by
  unfold cnts
  apply List.ext_getElem
  · simp
  · intro i h1 h2
    rw [List.getElem_set, List.getElem_map, List.getElem_range, List.getElem_map, List.getElem_range, List.count_append, List.count_replicate]
    by_cases e : t = i
    · subst e
      rw [if_pos rfl]
      simp
    · rw [if_neg e]
      have e' : (t == i) = false := by simpa using e
      rw [e']
      simp
theorem cnts_len {n : Nat} {L : List Nat} : (cnts n L).length = n := by
  unfold cnts
  rw [List.length_map, List.length_range]
theorem cnts_at {n s : Nat} {L : List Nat} (hs : s < n) : ((cnts n L).map V.int)[s]? = some (.int (L.count s : Int)) := by
  unfold cnts
  rw [List.getElem?_map, List.getElem?_map, List.getElem?_range hs]
  rfl
theorem cnts_sum {n : Nat} {L : List Nat} (h : ∀ x ∈ L, x < n) : (cnts n L).sum = (L.length : Int) := by
  have h2 := Cn.len_count (l := L) (ks := List.range n) List.nodup_range fun x hx => List.mem_range.mpr (h x hx)
  rw [← h2]
  exact sumZ _
theorem cnts_perm {n : Nat} {L M : List Nat} (p : L.Perm M) : cnts n L = cnts n M := by
  unfold cnts
  refine List.map_congr_left fun s _ => ?_
  rw [List.perm_iff_count.mp p s]
theorem cnts_nil {n : Nat} : (List.replicate n [V.int 0]).flatten = (cnts n []).map V.int := by
  unfold cnts
  induction n with
  | zero => rfl
  | succ n ih =>
    rw [List.range_succ, List.map_append, List.map_append, ← ih, List.replicate_succ', List.flatten_append]
    rfl
theorem cnts_set_ints {n t m : Nat} {L : List Nat} (ht : t < n) : ((cnts n L).map V.int).set t (.int ((L.count t : Int) + (m : Int))) = (cnts n (L ++ List.replicate m t)).map V.int := by
  rw [← cnts_set ht, List.map_set]
section
variable {P : Program} {w : World} {K : PySem.W.Frag} {mg : Str → Option Value} {base : Heap}
def spLed (K : PySem.W.Frag) : Sp := fun vs H Q _ => ∃ (p wa : Addr) (z : Str) (ws : List (List (Option Nat))) (f n : Nat), vs = [.ref p, .int (n : Int)] ∧ H p = some (.lst [.str z, .ref wa, .int (f : Int)]) ∧ Dp K H (.ref wa) (waysN ws) ∧ z ∈ L8 ∧ WaysOk z.cps.size ws ∧ f < ws.length ∧ ws.length ≤ 7 ∧ n ≤ 200 ∧
  ∀ q H', Ex H H' → H q = none → H' q = some (.lst ((totsOf ws f n).map V.int)) → Q (.ref q) H'
abbrev nLed : List Str := ["drawn", "length", "many", "sums", "turn", "later", "state", "row", "after"]
theorem scLed : FnScope nLed ["drawn", "length"] (defScope sLed) := ⟨rfl, rfl, rfl, by decide +kernel, rfl, by decide +kernel, by decide +kernel⟩
theorem ok_Led {f : Addr} {fd : FuncData} (Fn : Fun K "_law_led" "_law_led" sLed f fd) (T : Txt K mg) : FnOk P w K mg base CX0 1 f fd ["drawn", "length"] (spLed K) := by
  refine Fn.ok scLed (fun vs H Q E h => ?_) (fun cdv A outer s H vs Q E hr h => ?_)
  · obtain ⟨p, wa, z, ws, f, n, rfl, _⟩ := h
    rfl
  · obtain ⟨p, wa, z, ws, f, n, rfl, hp, hwa, hz8, hok, hf, n7, hn, k⟩ := h
    refine ⟨_, (pss_cons (ps_setLc (i := 2) (own := [("state", 6)]) rfl scLed.nd rfl rfl (sw_true rfl rfl rfl (by decide +kernel)) (pi_range1 (by rfl) T.b_range (pa_cons (pe_callB (crLen K) (by rfl) T.b_len PySem.boot_len (pa_cons (pe_ix (ixL K) (pv 0) pe_int (fun _ _ => rfl)) pa_nil)) pa_nil)) (blkOk_by (N := nLed) (sc := defScope sLed) (by decide +kernel)) (fun _ _ _ _ _ => (pg_name (i := 6) scLed.nd rfl (by first | exact Or.inl rfl | exact Or.inr rfl))) (fun _ _ _ _ _ => pts_nil) (fun _ _ _ _ _ => (pe_ifExp (pt_cmpR op_eq (pv 6) (pe_ix (ixL K) (pv 0) pe_int (fun _ _ => rfl)) (nomark _)) pe_int pe_int)))
  (pss_cons (ps_set (i := 3) scLed.nd rfl (by first | exact Or.inl rfl | exact Or.inr rfl) (pe_lst (pa_cons pe_int pa_nil)))
  (pss_cons (ps_for PassesOwn.never rfl (pi_range1 (by rfl) T.b_range (pa_cons (pv 1) pa_nil)) (pg_name (i := 4) scLed.nd rfl (by first | exact Or.inl rfl | exact Or.inr rfl)) (pss_cons (ps_set (i := 5) scLed.nd rfl (by first | exact Or.inl rfl | exact Or.inr rfl) (pe_op op_rep (pe_lst (pa_cons pe_int pa_nil)) (pe_callB (crLen K) (by rfl) T.b_len PySem.boot_len (pa_cons (pv 2) pa_nil))))
  (pss_cons (ps_for PassesOwn.never rfl (piEnum K (by rfl) T.b_enumerate (pa_cons (pe_ix (ixL K) (pv 0) pe_int (fun _ _ => rfl)) pa_nil)) (pgT K (n := 2) (by rfl) (pgs_cons (pg_name (i := 6) scLed.nd rfl (by first | exact Or.inl rfl | exact Or.inr rfl)) (pgs_cons (pg_name (i := 7) scLed.nd rfl (by first | exact Or.inl rfl | exact Or.inr rfl)) pgs_nil))) (pss_one (ps_for PassesOwn.never rfl (piL K (pv 7)) (pg_name (i := 8) scLed.nd rfl (by first | exact Or.inl rfl | exact Or.inr rfl)) (pss_one (ps_if (pt_cmpR opNotN (pv 8) pe_non (nomark _)) (pss_one (ps_asg (pe_op op_add (pe_ix (ixL K) (pv 5) (pv 8) (fun _ _ => rfl)) (pe_ix (ixL K) (pv 2) (pv 6) (fun _ _ => rfl))) (pg_sub (pv 5) (pv 8) set_list))) pss_nil)))))
  (pss_cons (ps_set (i := 2) scLed.nd rfl (by first | exact Or.inl rfl | exact Or.inr rfl) (pv 5))
  (pss_one (ps_expr (peBm K PySem.F.plainAttrs_list PySem.F.slot_list_append PySem.F.type_list_append mt_append (pv 3) (pa_cons (pe_callB (crSum K) (by rfl) T.b_sum (by decide +kernel) (pa_cons (pv 2) pa_nil)) pa_nil))))))))
  (pss_one (ps_ret (pv 3)))))), ?_⟩
    obtain ⟨xs, hx1, hx2, hx3⟩ := waysN_read hwa
    have hpL : SqL K H p [.str z, .ref wa, .int (f : Int)] := SqL.of hp
    refine ⟨_, rfl, p, _, 1, .ref wa, rfl, rfl, hpL, rfl, wa, xs, rfl, .inl hx1, (xs.length : Int), rfl, (by omega), (by omega), fun D hD => ?_⟩
    refine lcDA (K := K) walk_r0 (fun s => .int (([f].count s : Nat) : Int)) (by omega) hD (fun _ _ => trivial) ?_ ?_
    · rintro s u G2 G1 hi e1 ⟨rfl, rfl⟩ A2 hA2
      refine ⟨by rfl, _, rfl, _, rfl, p, _, 2, .int (f : Int), rfl, rfl, ex_l e1 hpL, rfl, rfl, _, rfl, ?_⟩
      by_cases e : f = s
      · subst e
        refine iteT' (decide_eq_true rfl) (hA2 _ _ (Ex.refl _) ?_)
        rw [show ([f].count f) = 1 by simp]
        exact .int _
      · refine iteF' (decide_eq_false fun q => e (by injection q; omega)) (hA2 _ _ (Ex.refl _) ?_)
        rw [show ([f].count s) = 0 from List.count_eq_zero.mpr fun q => e (List.mem_singleton.mp q).symm]
        exact .int _
    intro H1 ys e1 hD1 hys
    have hys2 : ys = (cnts ws.length [f]).map V.int := dpInts_eq (by
      unfold cnts
      rw [List.map_map, ← hx2]
      have q : ((xs.length : Int)).toNat = xs.length := by omega
      exact hys)
    subst hys2
    clear hys
    refine ⟨(by show 1 ≤ sizeLine; decide), fun su hsu => ?_⟩
    have e2 : Ex H1 (upd H1 su (.lst [.int 1])) := Ex.new hsu
    have hsu2 : upd H1 su (.lst [.int 1]) su = some (.lst [.int 1]) := upd_same
    have nsD : D ≠ su := ne_of_none hD1 hsu
    have hD2 := e2 _ _ hD1
    have nsu : H su = none := fresh_back e1 hsu
    have e02 := e1.trans e2
    generalize upd H1 su (.lst [.int 1]) = H2 at e2 hsu2 hD2 e02 ⊢
    have ez : ((n : Nat) : Int).toNat = n := by omega
    refine ⟨_, rfl, _, rfl, (by omega), (by omega), for_it walk_r0 (fun i σ G => Ex H G ∧ ∃ (ma : Addr) (v4 v5 v6 v7 v8 : Option V), σ = [some (.ref p), some (.int (n : Int)), some (.ref ma), some (.ref su), v4, v5, v6, v7, v8] ∧ H ma = none ∧ ma ≠ su ∧ G ma = some (.lst ((cnts ws.length (Cn.ends ws f i)).map V.int)) ∧ G su = some (.lst ((totsOf ws f i).map V.int)))
      ⟨e02, D, none, none, none, none, none, rfl, hD, nsD, hD2, hsu2⟩ (fun _ _ _ _ _ => trivial) ?_ ?_⟩
    · rintro i x σ G G1 hi ⟨eG, ma, v4, v5, v6, v7, v8, rfl, nma, nms, hmG, hsG⟩ ⟨rfl, rfl⟩
      have hi : i < n := by omega
      have ltE := Cn.ends_lt hf hok.lt i
      obtain ⟨L, hL⟩ : ∃ q, q = Cn.ends ws f i := ⟨_, rfl⟩
      rw [← hL] at hmG ltE
      refine ⟨(by show 1 ≤ sizeLine; decide), fun z0 hz0 => ?_⟩
      have e3 : Ex G1 (upd G1 z0 (.lst [.int 0])) := Ex.new hz0
      have hz3 : upd G1 z0 (.lst [.int 0]) z0 = some (.lst [.int 0]) := upd_same
      have hm3 := e3 _ _ hmG
      have hs3 := e3 _ _ hsG
      have eG3 := eG.trans e3
      generalize upd G1 z0 (.lst [.int 0]) = G3 at e3 hz3 hm3 hs3 eG3 ⊢
      have lml : ((cnts ws.length L).map V.int).length = ws.length := by rw [List.length_map, cnts_len]
      refine ⟨_, rfl, ma, _, rfl, .inl (SqL.of hm3), z0, _, _, rfl, rfl, hz3, (by omega), (by omega), ?_, fun lt hlt => ?_⟩
      · rw [lml, sizeLine_eq]
        show 1 * ((ws.length : Int)).toNat ≤ _
        omega
      have e4 : Ex G3 (upd G3 lt (.lst (List.replicate (((((cnts ws.length L).map V.int).length : Nat) : Int)).toNat [V.int 0]).flatten)) := Ex.new hlt
      have hl4 : upd G3 lt (.lst (List.replicate (((((cnts ws.length L).map V.int).length : Nat) : Int)).toNat [V.int 0]).flatten) lt = some (.lst ((cnts ws.length []).map V.int)) := by
        rw [upd_same, lml, ← cnts_nil]
        rfl
      have hm4 := e4 _ _ hm3
      have hs4 := e4 _ _ hs3
      have eG4 := eG3.trans e4
      have nlm : lt ≠ ma := (ne_of_none hm3 hlt).symm
      have nls : lt ≠ su := (ne_of_none hs3 hlt).symm
      have nl : H lt = none := fresh_back eG3 hlt
      generalize upd G3 lt (.lst (List.replicate (((((cnts ws.length L).map V.int).length : Nat) : Int)).toNat [V.int 0]).flatten) = G4 at e4 hl4 hm4 hs4 eG4 ⊢
      refine ⟨_, rfl, p, _, 1, .ref wa, rfl, rfl, ex_l eG4 hpL, rfl, wa, xs, rfl, ex_l eG4 hx1, for_it (walk_enum (K := K) (a := wa) (xs := xs)) (fun s σ G => Ex H G ∧ ∃ (v6 v7 v8 : Option V), σ = [some (.ref p), some (.int (n : Int)), some (.ref ma), some (.ref su), some (.int (i : Int)), some (.ref lt), v6, v7, v8] ∧ G ma = some (.lst ((cnts ws.length L).map V.int)) ∧ G su = some (.lst ((totsOf ws f i).map V.int)) ∧ G lt = some (.lst ((cnts ws.length ((List.range s).flatMap fun s => Cn.reps (L.count s) (Cn.succ ws s))).map V.int)))
        ⟨eG4, v6, v7, v8, rfl, hm4, hs4, hl4⟩ (fun s σ G _ h => ex_l h.1 hx1) ?_ ?_⟩
      · rintro s x σ G5 G6 hs ⟨eG5, v6, v7, v8, rfl, hm5, hs5, hl5⟩ ⟨tt, y1, y2, rfl, htt, rfl, hy1, hy2⟩
        cases hy1
        have hsw : s < ws.length := by omega
        obtain ⟨ra, hra, hrs⟩ := hx3 s hsw
        have hy2 : xs[s]? = some y2 := hy2
        rw [hra] at hy2
        cases hy2
        obtain ⟨r, hr0⟩ : ∃ q, q = ws.getD s [] := ⟨_, rfl⟩
        rw [← hr0] at hrs
        obtain ⟨B, hB⟩ : ∃ q, q = (List.range s).flatMap fun s => Cn.reps (L.count s) (Cn.succ ws s) := ⟨_, rfl⟩
        rw [← hB] at hl5
        have hrr : ∀ t ∈ r.filterMap id, t < ws.length := fun t ht => succ_lt (s := s) hok (by unfold Cn.succ; rw [← hr0]; exact ht)
        have e6 : Ex G5 (upd G5 tt (.tup [.int (s : Int), .ref ra])) := Ex.new htt
        refine ⟨tt, _, rfl, SqT.of upd_same, rfl, _, _, rfl, _, _, rfl, rfl, ?_⟩
        have eG6 := eG5.trans e6
        have hm6 := e6 _ _ hm5
        have hs6 := e6 _ _ hs5
        have hl6 := e6 _ _ hl5
        generalize upd G5 tt (.tup [.int (s : Int), .ref ra]) = G6 at e6 eG6 hm6 hs6 hl6 ⊢
        have lr : (r.map oW).length = r.length := List.length_map _
        refine ⟨_, rfl, ra, rfl, ⟨_, ex_l eG6 hrs⟩, for_it (walk_list (K := K) (a := ra) (xs := r.map oW)) (fun j σ G => Ex H G ∧ ∃ (v8 : Option V), σ = [some (.ref p), some (.int (n : Int)), some (.ref ma), some (.ref su), some (.int (i : Int)), some (.ref lt), some (.int (s : Int)), some (.ref ra), v8] ∧ G ma = some (.lst ((cnts ws.length L).map V.int)) ∧ G su = some (.lst ((totsOf ws f i).map V.int)) ∧ G lt = some (.lst ((cnts ws.length (B ++ Cn.reps (L.count s) ((r.take j).filterMap id))).map V.int)))
          ⟨eG6, v8, rfl, hm6, hs6, by simpa [Cn.reps] using hl6⟩ (fun j σ G _ h => ex_l h.1 hrs) ?_ ?_⟩
        · rintro j y σ G7 G8 hj ⟨eG7, v8, rfl, hm7, hs7, hl7⟩ ⟨rfl, hy⟩
          rw [lr] at hj
          rw [List.getElem?_map, List.getElem?_eq_getElem hj] at hy
          cases hy
          have tk := take_fm (g := id) (List.getElem?_eq_getElem hj)
          cases hrj : r[j] with
          | none =>
            rw [hrj] at tk
            refine ⟨_, rfl, rfl, _, rfl, iteF ⟨eG7, _, rfl, hm7, hs7, ?_⟩⟩
            rw [tk]
            simpa using hl7
          | some t =>
            rw [hrj] at tk
            have ht : t < ws.length := hrr t (List.mem_filterMap.mpr ⟨some t, by rw [← hrj]; exact List.getElem_mem hj, rfl⟩)
            refine ⟨_, rfl, rfl, _, rfl, iteT ?_⟩
            refine ⟨_, rfl, _, rfl, lt, _, _, _, rfl, rfl, SqL.of hl7, atI_nat (cnts_at ht), _, rfl, _, rfl, ma, _, _, _, rfl, rfl, SqL.of hm7, atI_nat (cnts_at hsw), _, _, rfl, rfl, _, rfl, _, rfl, lt, _, _, t, rfl, rfl, hl7, ixN_nat (by rw [List.length_map, cnts_len]; exact ht), ?_⟩
            refine ⟨eG7.mut nl, _, rfl, by rw [upd_ne nlm.symm]; exact hm7, by rw [upd_ne nls.symm]; exact hs7, ?_⟩
            rw [upd_same, cnts_set_ints ht, tk]
            show _ = some (HO.lst ((cnts ws.length (B ++ Cn.reps (L.count s) ((r.take j).filterMap id ++ [t]))).map V.int))
            rw [Cn.reps_app, Cn.reps_one, ← List.append_assoc]
        · rintro σ G7 ⟨eG7, v8, rfl, hm7, hs7, hl7⟩
          refine ⟨eG7, _, _, _, rfl, hm7, hs7, ?_⟩
          rw [lr, List.take_of_length_le (Nat.le_refl _)] at hl7
          rw [List.range_succ, List.flatMap_append, ← hB]
          have e : ([s].flatMap fun s => Cn.reps (L.count s) (Cn.succ ws s)) = Cn.reps (L.count s) (r.filterMap id) := by
            unfold Cn.succ
            rw [hr0]
            simp
          rw [e]
          exact hl7
      · rintro σ G5 ⟨eG5, v6, v7, v8, rfl, hm5, hs5, hl5⟩
        rw [hx2] at hl5
        have pm := Cn.bag_perm (ws := ws) (l := L) (ks := List.range ws.length) List.nodup_range fun x hx => List.mem_range.mpr (ltE x hx)
        rw [cnts_perm pm] at hl5
        have eL : L.flatMap (Cn.succ ws) = Cn.ends ws f (i + 1) := by
          rw [hL]
          rfl
        rw [eL] at hl5
        refine ⟨_, rfl, _, rfl, .inl ⟨rfl, _, SqL.of hs5⟩, _, rfl, lt, _, rfl, SqL.of hl5, su, _, _, rfl, rfl, hs5, ?_, ?_⟩
        · unfold totsOf
          rw [List.length_map, List.length_map, List.length_range, sizeLine_eq]
          omega
        refine ⟨eG5.mut nsu, lt, _, _, _, _, _, rfl, nl, nls, by rw [upd_ne nls]; exact hl5, ?_⟩
        rw [upd_same, cnts_sum (Cn.ends_lt hf hok.lt (i + 1))]
        unfold totsOf
        rw [List.range_succ (n := i + 1), List.map_append, List.map_append]
        rfl
    · rintro σ G ⟨eG, ma, v4, v5, v6, v7, v8, rfl, nma, nms, hmG, hsG⟩
      rw [ez] at hsG
      exact ⟨_, rfl, k su G eG nsu hsG⟩
end
end My
set_option maxHeartbeats 2000000
set_option Elab.async false
set_option linter.all false
set_option autoImplicit false
set_option maxRecDepth 100000
set_option maxHeartbeats 8000000
namespace My
open PySem PySem.Spec PyProof.Rows L2 Evl
open PySem.OneX (OneTxt Tail tail_ex exTail)
open LamX
abbrev nRefused : List Str := ["work", "error"]
theorem scRefused : FnScope nRefused ["work"] (defScope sRefused) := ⟨rfl, rfl, rfl, by decide +kernel, rfl, by decide +kernel, by decide +kernel⟩
/-- refused: try: a() / except Refused as error: return (error.at,) / return None -/
def TRef (C : Addr) : (XK → Hp → VK → Prop) → Hp → VK → Prop := fun tl H Q =>
  tl (fun cls d H' => cls = .ref C ∧ ∃ (dd : Addr) (v : V), d = some dd ∧ H' dd = some (.xd [(("at" : Str), v)]) ∧ ∀ t, H' t = none → Q (.ref t) (upd H' t (.tup [v]))) H (fun _ H' => Q .non H')
theorem takes_len {X : Cx} {W : WX} (tk : Takes X W) : Takes X (fun c d σ H => σ.length = X.N.length → W c d σ H) := fun u s' ⟨a, B, sI, pins, σ, H, cls, d, e, I, nb, up, sky, na, os, ag, h⟩ =>
  tk u s' ⟨a, B, sI, pins, σ, H, cls, d, e, I, nb, up, sky, na, os, ag, h I.len⟩
/-! repr of a small number -/
def rReprN : List V → Hp → VK → Prop := fun xs H Q => ∃ k : Nat, xs = [.int (k : Int)] ∧ k < 256 ∧ Q (.str (Str.ofString (toString ((k : Nat) : Int)))) H
theorem log_small : ∀ j : Fin 256, (((j.val : Nat) : Int)).natAbs.log2 < 1920 := by decide +kernel
theorem crReprN {X : Cx} : CallR X (.builtin "repr") rReprN := by
  intro pins s σ H xs us Q I r h
  obtain ⟨k, rfl, hz, q⟩ := h
  obtain ⟨u, rfl, ru⟩ := vals1 r
  obtain ⟨t, rfl⟩ := ru
  exact PySem.P.repr_of_int (log_small ⟨k, hz⟩) ⟨.str _, H, I.tok _, ⟨_, rfl⟩, q⟩
theorem refused_gives {X : Cx} {C fI g : Addr} {cdg : Value} {q : Str} (TR : OneTxt X.K X.mg "Refused" exTail "Exception.__new__" C fI) : GivesTo X nRefused "_law_refused" (defScope sRefused) g cdg (defBody sRefused) "work" q (TRef C) := by
  intro f c' s H Q tl act hc h
  have hgl : Gl (cxOf C8.CX0 X.prog X.w X.K X.mg X.base nRefused "_law_refused" (defScope sRefused) g cdg X.A X.stack s H C8.E0).nox "Refused" := rfl
  refine ⟨_, pss_cons (ps_try_as (X := (cxOf C8.CX0 X.prog X.w X.K X.mg X.base nRefused "_law_refused" (defScope sRefused) g cdg X.A X.stack s H C8.E0).nox) (c := .ref C) (i := 1)
      (tb := fun W D σ H => ∃ Ech : XK, (∀ cls d σ' H', σ'.length = 2 → Ech cls d H' → W cls d σ' H') ∧ σ[0]? = some (some (.ref f)) ∧ H c' = some (CodeO c' q) ∧ tl Ech H (fun _ H' => D.nx σ H'))
      rfl rfl scRefused.nd rfl rfl ⟨hgl, rfl, .inl TR.gC⟩ L2.takes0 (fun W pn xe tk _ => ?_) (fun a oe cls d pn hz hf => pss_one (ps_ret (pe_tup (pa_cons (pe_byAt TR hz hf (pv 1)) pa_nil))))) (pss_one (ps_ret pe_non)), ?_⟩
  · refine ⟨fun pins s' σ H' D I h' => ?_⟩
    obtain ⟨Ech, hW, h1, h2, h3⟩ := h'
    exact (pss_one (ps_expr (act (fun c d σ H => σ.length = 2 → W c d σ H) pn xe Ech _ _ (takes_len tk) (fun cls d σ' H' e hl => hW cls d σ' H' hl e)))).run pins s' σ H' D I ⟨h1, h2, h3⟩
  · refine ⟨fun cls d H' => cls = .ref C ∧ ∃ (dd : Addr) (v : V), d = some dd ∧ H' dd = some (.xd [(("at" : Str), v)]) ∧ ∀ t, H' t = none → Q (.ref t) (upd H' t (.tup [v])), fun cls d σ' H' hl ⟨e, dd, v, ed, hv, k⟩ => ?_, rfl, hc, ?_⟩
    · subst e
      refine ⟨true, TR.te, fun _ a ha => ?_, fun q => Bool.noConfusion q⟩
      match σ', hl with
      | [x, y], _ => exact ⟨_, rfl, rfl, rfl, dd, v, ed, hv, (by show 1 ≤ sizeLine; decide), fun p hp => k p hp⟩
    · exact h
end My
set_option maxHeartbeats 2000000
set_option Elab.async false
set_option linter.all false
set_option autoImplicit false
set_option maxRecDepth 100000
set_option maxHeartbeats 2000000
/-! a law run without guards whose code object is told; f(k = v, ..) -/
namespace My
open PySem PySem.Spec PyProof.Rows L2
section
variable {P : Program} {w : World} {K : PySem.W.Frag} {mg : Str → Option Value} {base : Heap}
theorem okGc {x qual : Str} {st : Stmt} {f : Addr} {N ps : List Str} {k : Nat} {sp : Sp} {oc kV doc pm cdv ct : Value} {od an : Option Addr} {osl : Array (Option Value)}
    (lk : K.lookup f = some ⟨oc, od, .func (PySem.W.fnOf x qual (defArgs st) (defBody st) (defScope st) .none kV doc pm an cdv ct), osl⟩) (hcd : PySem.W.codeIn K cdv qual = true) (S : FnScope N ps (defScope st)) (len : ∀ vs H Q E, sp vs H Q E → vs.length = ps.length)
    (hbody : ∀ (A : Around) (outer : List Env) (s : Shared) (H : Hp) (vs : List V) (Q : VK) (E : XK), A.guards = some [] → Room k (A.deeper (envOfC qual (defScope st) s.heap.objs.size f cdv)) → sp vs H Q E →
      ∃ t, PSs (cxOf CX0 P w K mg base N qual (defScope st) f cdv A outer s H E).nox (defBody st) t ∧ t { nx := fun _ H' => Q .non H', rt := Q } (start N vs) H) : FnG P w K mg base CX0 (k + 1) f (PySem.W.fnOf x qual (defArgs st) (defBody st) (defScope st) .none kV doc pm an cdv ct) ps sp := by
  refine ⟨len, fun A outer s H args us vs Q E gd hr e0 hb r hsp => ?_⟩
  have same := e0.bs
  have KX : K.In s.heap := e0.mod.kin.keeps fun b o e => (same b o e).1
  have lim : s.heap.NoLimit := e0.mod.nolimit.keeps fun b o e => (same b o e).1
  have nl := len _ _ _ _ hsp
  have kinds : ∀ y ∈ ps.zip us, (defScope st).names.lookup y.1 = some .local ∨ ((defScope st).names.lookup y.1 = some .cell ∧ ((cellsFrom (s.heap.objs.size + 1) (defScope st).names []).lookup y.1).isSome = true) := by
    rintro ⟨n, v⟩ hy
    have hn := S.par n (List.of_mem_zip hy).1
    exact hn.imp id fun q => ⟨q, PySem.W.cellsFrom_some _ _ _ (.inl q)⟩
  refine codeAny_call_function hr.depth (KX _ _ lk) rfl S.co S.gen rfl (PySem.W.codeRec_of KX hcd) (hb _ _ _ _ ?_)
  refine wpAny_newFunctionEnv_cells S.kind kinds fun env he s1 x => ?_
  subst he
  refine ⟨lim.keeps x.toInCall.keep, codeAny_func ?_⟩
  obtain ⟨t, ht, hq⟩ := hbody A outer s H vs Q E gd (hr.deeper _) hsp
  have I : Inv (cxOf CX0 P w K mg base N qual (defScope st) f cdv A outer s H E) [] (start N vs) H s1 := inv_start S hr.hd e0 nl r x
  refine wpAny_mono (ht.nox.run [] s1 (start N vs) H _ I hq) (fun fl s' hs => ?_) fun e s' hs => hs
  cases fl with
  | ret u =>
    obtain ⟨v, σ', H', J, rv, q⟩ := hs
    exact ⟨v, H', J.os, J.bare, J.base, J.hok, rv, q⟩
  | next =>
    obtain ⟨σ', H', J, q⟩ := hs
    exact ⟨.non, H', J.os, J.bare, J.base, J.hok, rfl, q⟩
  | brk =>
    obtain ⟨_, _, _, q⟩ := hs
    exact q.elim
  | cont =>
    obtain ⟨_, _, _, q⟩ := hs
    exact q.elim
end
def tCallKw (n : Nat) (sp : Sp) (gV : List V → List V → List V) (E : XK) (tk : TA) : TE := fun σ H Q => tk σ H fun zs H2 => zs.length = n ∧ sp (gV [] zs) H2 Q E
section
variable {X : Cx} {CX : CXT} {k : Nat} {f : Addr} {fd : FuncData} {ps ks : List Str} {sp : Sp} {E : XK} {x : Str} {p pos : Pos} {kws : List Keyword} {tk : TA} {g : List Value → List Value → List Value} {gV : List V → List V → List V}
theorem pe_callKw0 (F : FnOk X.prog X.w X.K X.mg X.base CX k f fd ps sp) (hr : Room k X.A) (hg : Gl X x) (hm : X.mg x = some (.ref f)) (hk : PySem.W.keepIn X.K (.ref f) = true) (hb : KBn X.K fd ps 0 ks g gV) (hx : Passes CX X E) (hkw : PK X kws tk)
    (hall : (backToKw pos (keywordEach kws X.env)).all (·.1.isSome) = true := by rfl) (hks : (backToKw pos (keywordEach kws X.env)).filterMap (·.1) = ks := by rfl) (hdb : (x == ("__debug__" : Str)) = false := by decide)
    (hpl : ((backTo pos (starEach [] X.env)).any (·.1) || (backToKw pos (keywordEach kws X.env)).any (·.1.isNone)) = false := by rfl) :
    PE X (.Call (.Name x p) [] kws pos) (tCallKw ks.length sp gV E tk) := by
  refine ⟨fun pins s σ H Q I h => ?_⟩
  refine wpAny_Call_Name_kw (ld_glob I hg hm ?_ hdb)
  refine PySem.W.callWith_KW0 (h₀ := X.base) I.ok.mod.kin hk hall ?_ hpl
  refine thn (hkw.run pos pins s σ H _ I h) fun ws s2 ⟨zs, H2, I2, rz, l2, q2⟩ => ⟨I2.kIn, ?_⟩
  rw [hks]
  exact run_fnN (us := []) (vs := []) F hr hb hx I2 .nil rz rfl l2 q2
end
/-- two arguments by name, the second first -/
def swV {α : Type} (us ws : List α) : List α := match us, ws with
  | [], [u, v] => [v, u]
  | _, _ => []
theorem kbn_sw {K : PySem.W.Frag} {x qual : Str} {st : Stmt} {f : Addr} {fd : FuncData} {s1 s2 : Str} (F : Fun K x qual st f fd)
    (h : ∀ (kV doc pm : Value) (an : Option Addr) (cdv ct : Value) (u v : Value), bindArgs (PySem.W.fnOf x qual (defArgs st) (defBody st) (defScope st) .none kV doc pm an cdv ct) ⟨[], [(s2, u), (s1, v)]⟩ = pure ([s1, s2].zip [v, u])) : KBn K fd [s1, s2] 0 [s2, s1] swV swV := by
  obtain ⟨oc, od, kV, doc, pm, an, cdv, ct, osl, rfl, lk, hcd⟩ := F.ex
  refine ⟨fun s us ws _ l1 l2 => ?_, fun r1 r2 => ?_⟩
  · match us, l1, ws, l2 with
    | [], _, [u, v], _ => exact .of_eq (h kV doc pm an cdv ct u v)
  · unfold swV
    cases r1 with
    | nil => cases r2 with
      | nil => exact .nil
      | cons a r2 => cases r2 with
        | nil => exact .nil
        | cons b r2 => cases r2 with
          | nil => exact .cons b (.cons a .nil)
          | cons _ _ => exact .nil
    | cons _ _ => exact .nil
end My
set_option maxHeartbeats 2000000
set_option Elab.async false
set_option linter.all false
set_option autoImplicit false
set_option maxRecDepth 100000
set_option maxHeartbeats 1500000
namespace My
open PySem PySem.Spec PyProof.Rows L2 Evl
open PySem.OneX (OneTxt Tail tail_ex exTail)
open LamX (TabB TabS Tabs ExtN CodeO pe_lamcall lamS_by)
abbrev kMI : List (Str × V) := [("first", .int 0)]
def gMK {α : Type} (us mv ws : List α) : List α := match us, ws with
  | [s, l, wa], [f] => [s, l, wa, f]
  | _, _ => []
theorem mi_kbinds {K : PySem.W.Frag} {f : Addr} {fd : FuncData} (F : FunD K "__init__" "Machine.__init__" (defArgs sMI) (defBody sMI) (defScope sMI) [] kMI f fd) : ∃ mv : List Value, KBn K fd ["self", "letters", "ways", "first"] 3 ["first"] (fun us ws => gMK us mv ws) (fun vs zs => gMK vs [] zs) := by
  refine F.kbinds0 (ps := ["self", "letters", "ways", "first"]) 3 ["first"] [] (fun {α} => gMK) (by simp) (by simp) (fun {vs mz zs us mv ws} r1 r2 r3 => ?_) fun D doc pm an cdv ct us mv ws hu hm hw => ?_
  · unfold gMK
    cases r1 with
    | nil => exact .nil
    | cons a r1 => cases r1 with
      | nil => exact .nil
      | cons b r1 => cases r1 with
        | nil => exact .nil
        | cons c r1 => cases r1 with
          | cons _ _ => exact .nil
          | nil => cases r3 with
            | nil => exact .nil
            | cons d r3 => cases r3 with
              | nil => exact .cons a (.cons b (.cons c (.cons d .nil)))
              | cons _ _ => exact .nil
  · match us, hu, mv, hm, ws, hw with
    | [a, b, c], _, [], _, [d], _ => rfl
/-! ### what a turn of the law keeps -/
theorem tex_extN {H H' : Hp} (e : ExtN H H') : TEx H H' := ⟨fun b xs h => e b _ h (fun ps z => by cases z), fun b o u h => e b _ h (fun ps z => by cases z)⟩
theorem Deal.extN {H H' : Hp} {a b : Addr} (h : Deal H a b) (e : ExtN H H') : Deal H' a b := by
  obtain ⟨⟨cs, z, h1, h2, r⟩, ne⟩ := h
  exact ⟨⟨cs, z, e _ _ h1 (fun ps q => by cases q), e _ _ h2 (fun ps q => by cases q), r⟩, ne⟩
theorem MachAt.extN {K : PySem.W.Frag} {C : Addr} {H H' : Hp} {p : Addr} {z : Str} {ws : List (List (Option Nat))} {f : Nat} (h : MachAt K C H p z ws f) (e : ExtN H H') : MachAt K C H' p z ws f := by
  obtain ⟨dx, wt, h1, h2⟩ := h.ob
  exact ⟨dx, wt, e _ _ h1 (fun ps q => by cases q), dp_tex (tex_extN e) h2 (rowsT_only ws)⟩
theorem MachAt.exD {K : PySem.W.Frag} {C : Addr} {H H' : Hp} {p a b : Addr} {z : Str} {ws : List (List (Option Nat))} {f : Nat} (h : MachAt K C H p z ws f) (d : Deal H a b) (e : ExD a b H H') : MachAt K C H' p z ws f := by
  obtain ⟨dx, wt, h1, h2⟩ := h.ob
  obtain ⟨⟨xs, q1⟩, ys, q2⟩ := d.lst
  exact ⟨dx, wt, e _ _ h1 (fun q => by rw [q, q1] at h1; cases h1) (fun q => by rw [q, q2] at h1; cases h1), dp_tex (e.tex d) h2 (rowsT_only ws)⟩
theorem tabs_keep {T : List (Addr × Str)} {H H' : Hp} (t : Tabs T H) (e : ∀ b o, H b = some o → (∀ xs, o ≠ .lst xs) → H' b = some o) : Tabs T H' := fun p hp => by
  obtain ⟨ps, h1, h2, h3⟩ := t p hp
  refine ⟨ps, e _ _ h1 (fun xs q => by cases q), h2, fun pos cv hc => ?_⟩
  obtain ⟨c, e1, e2⟩ := h3 pos cv hc
  exact ⟨c, e1, e _ _ e2 (fun xs q => by unfold CodeO at q; cases q)⟩
theorem tabs_exD {T : List (Addr × Str)} {H H' : Hp} {a b : Addr} (t : Tabs T H) (d : Deal H a b) (e : ExD a b H H') : Tabs T H' := by
  obtain ⟨⟨xs, q1⟩, ys, q2⟩ := d.lst
  exact tabs_keep t fun c o hc n => e c o hc (fun q => by rw [q, q1] at hc; cases hc; exact n _ rfl) (fun q => by rw [q, q2] at hc; cases hc; exact n _ rfl)
/-- an odd length -/
def Odd (H : Hp) (v : V) : Prop := v = .int (-1) ∨ v = .int 201 ∨ v = .non ∨ v = .str "3" ∨ v = .bl true ∨ v = .int 1000000000 ∨ ∃ t, v = .ref t ∧ H t = some (.tup [.int 2])
def oddD : V → PyData
  | .int i => .int i
  | .str z => .str z
  | .bl b => .bool b
  | .ref _ => .tuple [.int 2]
  | _ => .none
theorem Odd.step {H H' : Hp} {v : V} (h : Odd H v) (e : ∀ t xs, H t = some (.tup xs) → H' t = some (.tup xs)) : Odd H' v := by
  rcases h with h | h | h | h | h | h | ⟨t, h, ht⟩
  · exact .inl h
  · exact .inr (.inl h)
  · exact .inr (.inr (.inl h))
  · exact .inr (.inr (.inr (.inl h)))
  · exact .inr (.inr (.inr (.inr (.inl h))))
  · exact .inr (.inr (.inr (.inr (.inr (.inl h)))))
  · exact .inr (.inr (.inr (.inr (.inr (.inr ⟨t, h, e _ _ ht⟩)))))
theorem Odd.kd {H : Hp} {v : V} (h : Odd H v) : Kd H v ∧ belowV v 201 = false := by
  rcases h with h | h | h | h | h | h | ⟨t, h, ht⟩ <;> subst h
  · exact ⟨.int _, by decide⟩
  · exact ⟨.int _, by decide⟩
  · exact ⟨.non, rfl⟩
  · exact ⟨.str _, rfl⟩
  · exact ⟨.bl _, rfl⟩
  · exact ⟨.int _, by decide⟩
  · exact ⟨.tup ht, rfl⟩
theorem Odd.dp {K : PySem.W.Frag} {H : Hp} {v : V} (h : Odd H v) : Dp K H v (oddD v) := by
  rcases h with h | h | h | h | h | h | ⟨t, h, ht⟩ <;> subst h
  · exact .int _
  · exact .int _
  · exact .non
  · exact .str _
  · exact .bl _
  · exact .int _
  · exact .tup (SqT.of ht) (.cons (.int _) .nil)
theorem Odd.disp {H : Hp} {v : V} (h : Odd H v) : isDisplay (.tuple [oddD v]) = true ∧ (PyData.tuple [oddD v]).showable = true ∧ (PyData.tuple [oddD v]).hasDict = false ∧ (PyData.tuple [oddD v]).depth ≤ 60 ∧ (PyData.tuple [oddD v]).shown.length ≤ sizeLine := by
  rcases h with h | h | h | h | h | h | ⟨t, h, ht⟩ <;> subst h <;> rw [sizeLine_eq]
  · exact ⟨rfl, by decide +kernel, rfl, by decide +kernel, by decide +kernel⟩
  · exact ⟨rfl, by decide +kernel, rfl, by decide +kernel, by decide +kernel⟩
  · exact ⟨rfl, by decide +kernel, rfl, by decide +kernel, by decide +kernel⟩
  · exact ⟨rfl, by decide +kernel, rfl, by decide +kernel, by decide +kernel⟩
  · exact ⟨rfl, by decide +kernel, rfl, by decide +kernel, by decide +kernel⟩
  · exact ⟨rfl, by decide +kernel, rfl, by decide +kernel, by decide +kernel⟩
  · exact ⟨rfl, (by decide +kernel : (PyData.tuple [.tuple [.int 2]]).showable = true), rfl, (by decide +kernel : (PyData.tuple [.tuple [.int 2]]).depth ≤ 60), (by decide +kernel : (PyData.tuple [.tuple [.int 2]]).shown.length ≤ 16777216)⟩
/-- repr of the display of an odd length -/
theorem Odd.repr {K : PySem.W.Frag} {H : Hp} {v : V} {t : Addr} {Q : VK} (h : Odd H v) (ht : H t = some (.tup [v])) (q : Q (.str (PyData.tuple [oddD v]).shown) H) : rRepr K [.ref t] H Q := by
  obtain ⟨d1, d2, d3, d4, d5⟩ := h.disp
  exact ⟨.ref t, .tuple [oddD v], rfl, .tup (SqT.of ht) (.cons h.dp .nil), d1, d2, d3, d4, d5, q⟩
/-! ### how many rows -/
theorem cnt_filter {α : Type} {p : α → Bool} {d : α} (l : List α) : ((List.range l.length).filter fun i => p (l.getD i d)).length = (l.filter p).length := by
  have e : ((List.range l.length).map fun i => l.getD i d) = l := by
    apply List.ext_getElem
    · simp
    · intro i h1 h2
      simp [List.getD_eq_getElem?_getD, List.getElem?_eq_getElem h2]
  have e2 : (l.filter p).length = ((((List.range l.length).map fun i => l.getD i d)).filter p).length := by rw [e]
  rw [e2, List.filter_map, List.length_map]
  rfl
def natTot (ws : List (List (Option Nat))) (f n : Nat) : Nat := ((List.range (n + 1)).map fun t => (Cn.ends ws f t).length).sum
theorem tot_nat {ws : List (List (Option Nat))} {f n : Nat} : (totsOf ws f n).sum = (natTot ws f n : Int) := sumZ _
theorem natTot_succ {ws : List (List (Option Nat))} {f n : Nat} : natTot ws f (n + 1) = natTot ws f n + (Cn.ends ws f (n + 1)).length := by
  unfold natTot
  rw [List.range_succ, List.map_append, List.sum_append]
  simp
theorem natTot_le {ws : List (List (Option Nat))} {f k : Nat} (h : WaysOk k ws) (hk : k ≤ 3) : ∀ n, 2 * natTot ws f n + 1 ≤ 3 ^ (n + 1)
  | 0 => (by decide : 2 * 1 + 1 ≤ 3 ^ 1)
  | n + 1 => by
    have := natTot_le (f := f) h hk n
    have := ends_len (f := f) h hk (n + 1)
    rw [natTot_succ, Nat.pow_succ]
    omega
theorem filt_le {l : Nat} : ∀ rows : List Str, (rows.filter fun r => decide (r.cps.size ≤ l + 1)).length = (rows.filter fun r => decide (r.cps.size ≤ l)).length + (rows.filter fun r => decide (r.cps.size = l + 1)).length
  | [] => rfl
  | r :: rows => by
    have := filt_le (l := l) rows
    by_cases h1 : r.cps.size ≤ l
    · rw [List.filter_cons_of_pos (by simpa using (by omega : r.cps.size ≤ l + 1)), List.filter_cons_of_pos (by simpa using h1), List.filter_cons_of_neg (by simp; omega), List.length_cons, List.length_cons]
      omega
    · by_cases h2 : r.cps.size = l + 1
      · rw [List.filter_cons_of_pos (by simpa using (by omega : r.cps.size ≤ l + 1)), List.filter_cons_of_neg (by simpa using h1), List.filter_cons_of_pos (by simpa using h2), List.length_cons, List.length_cons]
        omega
      · rw [List.filter_cons_of_neg (by simp; omega), List.filter_cons_of_neg (by simpa using h1), List.filter_cons_of_neg (by simpa using h2)]
        exact this
theorem FoundOk.upto {ws : List (List (Option Nat))} {f t : Nat} {rows : List Str} (h : FoundOk ws f t rows) : ∀ l, l ≤ t → (rows.filter fun r => decide (r.cps.size ≤ l)).length = natTot ws f l
  | 0, hl => by
    have := h.cnt 0 hl
    have e : (fun r : Str => decide (r.cps.size ≤ 0)) = fun r => decide (r.cps.size = 0) := by
      funext r
      rw [decide_eq_decide]
      omega
    rw [e, this]
    rfl
  | l + 1, hl => by
    rw [filt_le, FoundOk.upto h l (by omega), h.cnt (l + 1) hl, natTot_succ]
theorem below_lt {n : Nat} (h : n ≤ 200) : belowV (.int (n : Int)) 201 = true := by
  show (decide ((0 : Int) ≤ (n : Int)) && decide ((n : Int) < 201)) = true
  rw [decide_eq_true (by omega), decide_eq_true (by omega)]
  rfl
end My
set_option maxHeartbeats 2000000
set_option Elab.async false
set_option linter.all false
set_option autoImplicit false
set_option maxRecDepth 100000
set_option maxHeartbeats 1500000
namespace My
open PySem PySem.Spec PyProof.Rows L2 Evl
open PySem.OneX (OneTxt Tail tail_ex exTail)
open LamX (TabB TabS Tabs ExtN CodeO pe_lamcall lamS_by)
section
variable {P : Program} {w : World} {K : PySem.W.Frag} {mg : Str → Option Value} {base : Heap}
def spLaw (K : PySem.W.Frag) (pt : Addr) : Sp := fun vs H Q _ => ∃ (a : Addr) (ns : List Int), vs = [.ref a] ∧ SqL K H a (ns.map V.int) ∧ ns.length ≤ 63 ∧ H pt = some (.tbl #[]) ∧ ∀ H', Q (.bl true) H'
abbrev nLaw : List Str := ["script", "deal", "turn", "drawn", "machine", "rows", "length", "due", "row", "sums", "odd"]
theorem scLaw : FnScope nLaw ["script"] (defScope sLaw) := ⟨rfl, rfl, rfl, by decide +kernel, rfl, by decide +kernel, by decide +kernel⟩
theorem ok_law {f fI C CR fE c pt : Addr} {fdI : FuncData} {oc kV doc pm ct : Value} {od an : Option Addr} {osl : Array (Option Value)}
    (lk : K.lookup f = some ⟨oc, od, .func (PySem.W.fnOf "law" "law" (defArgs sLaw) (defBody sLaw) (defScope sLaw) .none kV doc pm an (.ref c) ct), osl⟩) (hcd : PySem.W.codeIn K (.ref c) "law" = true) (T : Txt K mg) (TR : OneTxt K mg "Refused" exTail "Exception.__new__" CR fE) (TB : TabB base mg c pt)
    (M : Mk K C fI) (gC : mg "Machine" = some (.ref C)) (GI : FnOk P w K mg base CX0 4 fI fdI ["self", "letters", "ways", "first"] (spMI K C)) (FI : FunD K "__init__" "Machine.__init__" (defArgs sMI) (defBody sMI) (defScope sMI) [] kMI fI fdI)
    (Ocr : OwnX P w K mg base "count_rows" 5 ["machine", "length"] (spCount rowsG K C CR)) (Ocu : OwnX P w K mg base "count_upto" 5 ["machine", "length"] (spCount uptoG K C CR)) (kR : KBn K Ocr.fd ["machine", "length"] 0 ["length", "machine"] swV swV)
    (Od : Own P w K mg base "_law_dealt" 1 ["script", "base"] (spDealt K)) (Oa : Own P w K mg base "_law_any" 1 ["deal", "bound"] spAny) (Oo : Own P w K mg base "_law_of" 2 ["deal", "some"] spOf) (Om : Own P w K mg base "_law_machine" 3 ["deal", "most"] (spMach K)) (Ot : Own P w K mg base "_law_tried" 1 ["drawn", "letters"] (spTried K)) (Ol : Own P w K mg base "_law_led" 1 ["drawn", "length"] (spLed K))
    {fR : Addr} {fdR : FuncData} (FR : Fun K "_law_refused" "_law_refused" sRefused fR fdR) (mR : mg "_law_refused" = some (.ref fR)) (bR : L2.Binds K fdR ["work"] []) :
    FnG P w K mg base CX0 8 f (PySem.W.fnOf "law" "law" (defArgs sLaw) (defBody sLaw) (defScope sLaw) .none kV doc pm an (.ref c) ct) ["script"] (spLaw K pt) := by
  obtain ⟨mv, kI⟩ := mi_kbinds FI
  obtain ⟨ocR, odR, kVR, docR, pmR, anR, cdR, ctR, oslR, eR, lkR, hcR⟩ := FR.ex
  subst eR
  refine okGc lk hcd scLaw (fun vs H Q E h => ?_) (fun A outer s H vs Q E gd hr h => ?_)
  · obtain ⟨a, ns, rfl, _⟩ := h
    rfl
  · obtain ⟨sc, ns, rfl, hS, hlen, hpt, k⟩ := h
    have hu := hu_of hr
    obtain ⟨q0, hq0⟩ : ∃ q0, (("law" : Str) ++ (".<locals>." : Str)) ++ ("<lambda>" : Str) = q0 := ⟨_, rfl⟩
    refine ⟨_, (pss_cons (ps_set (i := 1) scLaw.nd rfl (by first | exact Or.inl rfl | exact Or.inr rfl) (pe_call Od.G (hr.mono (by decide)) rfl Od.m Od.kp Od.b .nil pass0 (pa_cons (pv 0) (pa_cons pe_int pa_nil))))
  (pss_cons (ps_for PassesOwn.never rfl (pi_range1 (by rfl) T.b_range (pa_cons pe_int pa_nil)) (pg_name (i := 2) scLaw.nd rfl (by first | exact Or.inl rfl | exact Or.inr rfl)) (pss_cons (ps_set (i := 3) scLaw.nd rfl (by first | exact Or.inl rfl | exact Or.inr rfl) (pe_call Om.G (hr.mono (by decide)) rfl Om.m Om.kp Om.b .nil pass0 (pa_cons (pv 1) (pa_cons pe_int pa_nil))))
  (pss_cons (ps_set (i := 4) scLaw.nd rfl (by first | exact Or.inl rfl | exact Or.inr rfl) (pe_makeK M GI (hr.mono (by decide)) rfl gC kI pass0 (pa_cons (pe_ix (ixL K) (pv 3) pe_int (fun _ _ => rfl)) (pa_cons (pe_ix (ixL K) (pv 3) pe_int (fun _ _ => rfl)) pa_nil)) (pk_cons (pe_ix (ixL K) (pv 3) pe_int (fun _ _ => rfl)) pk_nil)))
  (pss_cons (ps_set (i := 5) scLaw.nd rfl (by first | exact Or.inl rfl | exact Or.inr rfl) (pe_call Ot.G (hr.mono (by decide)) rfl Ot.m Ot.kp Ot.b .nil pass0 (pa_cons (pv 3) (pa_cons pe_int pa_nil))))
  (pss_cons (ps_for PassesOwn.never rfl (pi_range1 (by rfl) T.b_range (pa_cons pe_int pa_nil)) (pg_name (i := 6) scLaw.nd rfl (by first | exact Or.inl rfl | exact Or.inr rfl)) (pss_cons (ps_set (i := 7) scLaw.nd rfl (by first | exact Or.inl rfl | exact Or.inr rfl) (pe_callB (crLen K) (by rfl) T.b_len PySem.boot_len (pa_cons (pe_lc (own := [("row", 8)]) rfl scLaw.nd (piL K (pv 5)) (blkOk_by (N := nLaw) (sc := defScope sLaw) (by decide +kernel)) (fun _ _ _ _ _ => (pg_name (i := 8) scLaw.nd rfl (by first | exact Or.inl rfl | exact Or.inr rfl))) (fun _ _ _ _ _ => (pts_one (pt_cmpR op_eq (pe_callB call_len_str (by rfl) T.b_len PySem.boot_len (pa_cons (pv 8) pa_nil)) (pv 6) (nomark _)))) (fun _ _ _ _ _ => (pv 8))) pa_nil)))
  (pss_cons (ps_if (pt_cmpR op_ne (pe_callB crReprN (by rfl) T.b_repr (by decide +kernel) (pa_cons (pe_call Ocr.G (hr.mono (by decide)) rfl Ocr.m Ocr.kp Ocr.b .nil (passes_call L2.takes0 (fun _ _ _ _ h => h)) (pa_cons (pv 4) (pa_cons (pv 6) pa_nil))) pa_nil)) (pe_callB crReprN (by rfl) T.b_repr (by decide +kernel) (pa_cons (pv 7) pa_nil)) (nomark _)) (pss_one (ps_ret pe_bl)) pss_nil)
  (pss_one (ps_if (pt_cmpR op_ne (pe_callB crReprN (by rfl) T.b_repr (by decide +kernel) (pa_cons (pe_call Ocu.G (hr.mono (by decide)) rfl Ocu.m Ocu.kp Ocu.b .nil (passes_call L2.takes0 (fun _ _ _ _ h => h)) (pa_cons (pv 4) (pa_cons (pv 6) pa_nil))) pa_nil)) (pe_callB crReprN (by rfl) T.b_repr (by decide +kernel) (pa_cons (pe_callB (crLen K) (by rfl) T.b_len PySem.boot_len (pa_cons (pe_lc (own := [("row", 8)]) rfl scLaw.nd (piL K (pv 5)) (blkOk_by (N := nLaw) (sc := defScope sLaw) (by decide +kernel)) (fun _ _ _ _ _ => (pg_name (i := 8) scLaw.nd rfl (by first | exact Or.inl rfl | exact Or.inr rfl))) (fun _ _ _ _ _ => (pts_one (pt_cmpR op_le (pe_callB call_len_str (by rfl) T.b_len PySem.boot_len (pa_cons (pv 8) pa_nil)) (pv 6) (nomark _)))) (fun _ _ _ _ _ => (pv 8))) pa_nil)) pa_nil)) (nomark _)) (pss_one (ps_ret pe_bl)) pss_nil)))))
  (pss_cons (ps_set (i := 6) scLaw.nd rfl (by first | exact Or.inl rfl | exact Or.inr rfl) (pe_op op_add pe_int (pe_call Oa.G (hr.mono (by decide)) rfl Oa.m Oa.kp Oa.b .nil pass0 (pa_cons (pv 1) (pa_cons pe_int pa_nil)))))
  (pss_cut (ps_if (pt_cmpR op_eq (pe_call Oa.G (hr.mono (by decide)) rfl Oa.m Oa.kp Oa.b .nil pass0 (pa_cons (pv 1) (pa_cons pe_int pa_nil))) pe_int (nomark _)) (pss_one (ps_set (i := 6) scLaw.nd rfl (by first | exact Or.inl rfl | exact Or.inr rfl) (pe_op op_sub pe_int (pe_call Oa.G (hr.mono (by decide)) rfl Oa.m Oa.kp Oa.b .nil pass0 (pa_cons (pv 1) (pa_cons pe_int pa_nil)))))) pss_nil)
  (pss_cons (ps_set (i := 9) scLaw.nd rfl (by first | exact Or.inl rfl | exact Or.inr rfl) (pe_call Ol.G (hr.mono (by decide)) rfl Ol.m Ol.kp Ol.b .nil pass0 (pa_cons (pv 3) (pa_cons (pv 6) pa_nil))))
  (pss_cons (ps_if (PW.pt (pw_or (pt_cmpR op_ne (pe_callKw0 Ocr.G (hr.mono (by decide)) rfl Ocr.m Ocr.kp kR (passes_call L2.takes0 (fun _ _ _ _ h => h)) (pk_cons (pv 6) (pk_cons (pv 4) pk_nil))) (pe_ix (ixL K) (pv 9) (pe_un un_neg pe_int) (fun _ _ => rfl)) (nomark _)) (pw_or1 (pt_cmpR op_ne (pe_call Ocu.G (hr.mono (by decide)) rfl Ocu.m Ocu.kp Ocu.b .nil (passes_call L2.takes0 (fun _ _ _ _ h => h)) (pa_cons (pv 4) (pa_cons (pv 6) pa_nil))) (pe_callB (crSum K) (by rfl) T.b_sum (by decide +kernel) (pa_cons (pv 9) pa_nil)) (nomark _))))) (pss_one (ps_ret pe_bl)) pss_nil)
  (pss_cut (ps_set (i := 10) scLaw.nd rfl (by first | exact Or.inl rfl | exact Or.inr rfl) (pe_call Oo.G (hr.mono (by decide)) rfl Oo.m Oo.kp Oo.b .nil pass0 (pa_cons (pv 1) (pa_cons (pe_lst (pa_cons (pe_un un_neg pe_int) (pa_cons pe_int (pa_cons pe_non (pa_cons pe_str (pa_cons pe_bl (pa_cons (pe_op op_pow pe_int pe_int) (pa_cons (pe_tup (pa_cons pe_int pa_nil)) pa_nil)))))))) pa_nil))))
  (pss_cons (ps_if (pt_cmpR op_ne (pe_callB (crRepr K gd hr.units) (by rfl) T.b_repr (by decide +kernel) (pa_cons (pe_lamcall (T := [(pt, q0)]) rfl mR FR.kp lkR hcR bR scRefused rfl (.inl rfl) (refused_gives TR) TB rfl (by show (pt, (("law" : Str) ++ (".<locals>." : Str)) ++ ("<lambda>" : Str)) ∈ _; rw [hq0]; exact List.mem_singleton.mpr rfl) (fun p hp _ => by show p.2 = (("law" : Str) ++ (".<locals>." : Str)) ++ ("<lambda>" : Str); rw [hq0, List.mem_singleton.mp hp]) (hr.mono (by decide)) (lamS_by (by show LamX.lamSB (defScope sLaw) _ = true; decide +kernel)) rfl (fun _ _ _ _ _ => rfl) (fun A outer s H E f c2 hr2 => pe_call (k := 5) Ocr.G hr2 rfl Ocr.m Ocr.kp Ocr.b .nil (passes_call (takes_of rfl rfl rfl rfl) (fun _ _ _ _ h => h)) (pa_cons (pv 4) (pa_cons (pv 10) pa_nil)))) pa_nil)) (pe_callB (crRepr K gd hr.units) (by rfl) T.b_repr (by decide +kernel) (pa_cons (pe_tup (pa_cons (pv 10) pa_nil)) pa_nil)) (nomark _)) (pss_one (ps_ret pe_bl)) pss_nil)
  (pss_one (ps_if (pt_cmpR op_ne (pe_callB (crRepr K gd hr.units) (by rfl) T.b_repr (by decide +kernel) (pa_cons (pe_lamcall (T := [(pt, q0)]) rfl mR FR.kp lkR hcR bR scRefused rfl (.inl rfl) (refused_gives TR) TB rfl (by show (pt, (("law" : Str) ++ (".<locals>." : Str)) ++ ("<lambda>" : Str)) ∈ _; rw [hq0]; exact List.mem_singleton.mpr rfl) (fun p hp _ => by show p.2 = (("law" : Str) ++ (".<locals>." : Str)) ++ ("<lambda>" : Str); rw [hq0, List.mem_singleton.mp hp]) (hr.mono (by decide)) (lamS_by (by show LamX.lamSB (defScope sLaw) _ = true; decide +kernel)) rfl (fun _ _ _ _ _ => rfl) (fun A outer s H E f c2 hr2 => pe_call (k := 5) Ocu.G hr2 rfl Ocu.m Ocu.kp Ocu.b .nil (passes_call (takes_of rfl rfl rfl rfl) (fun _ _ _ _ h => h)) (pa_cons (pv 4) (pa_cons (pv 10) pa_nil)))) pa_nil)) (pe_callB (crRepr K gd hr.units) (by rfl) T.b_repr (by decide +kernel) (pa_cons (pe_tup (pa_cons (pv 10) pa_nil)) pa_nil)) (nomark _)) (pss_one (ps_ret pe_bl)) pss_nil)))))))))))))
  (pss_one (ps_ret pe_bl)))), ?_⟩
    -- deal
    refine ⟨_, rfl, sc, ns, 35, rfl, hS, hlen, (by decide), fun a b H1 e1 na nb hD1 => ?_⟩
    have hT1 : Tabs [(pt, q0)] H1 := fun p hp => by
      rw [List.mem_singleton.mp hp]
      exact TabS.nil (e1 _ _ hpt)
    refine ⟨3, rfl, (by decide), (by decide), for_it walk_r0 (fun i σ G => Deal G a b ∧ Tabs [(pt, q0)] G ∧ ∃ v2 v3 v4 v5 v6 v7 v8 v9 v10 : Option V, σ = [some (.ref sc), some (.ref a), v2, v3, v4, v5, v6, v7, v8, v9, v10])
      ⟨hD1, hT1, none, none, none, none, none, none, none, none, none, rfl⟩ (fun _ _ _ _ _ => trivial) ?_ ?_⟩
    · rintro i x σ G0 G1 hi ⟨hD, hT, v2, v3, v4, v5, v6, v7, v8, v9, v10, rfl⟩ ⟨rfl, rfl⟩
      refine ⟨_, rfl, a, b, rfl, hD, fun p z ws f H2 e2 hD2 hdr => ?_⟩
      obtain ⟨hn0, ⟨wa, hp2, hwc⟩, hz8, hok, n1, n7, hf⟩ := hdr
      have hT2 := tabs_exD hT hD e2
      have hwa2 := dp_ex nw_ex hwc
      have hcp : nw G1 H2 p = some (.lst [.str z, .ref wa, .int (f : Int)]) := by
        rw [nw_none hn0]
        exact hp2
      have cnab : ∀ c o, nw G1 H2 c = some o → c ≠ a ∧ c ≠ b := fun c o q => by
        obtain ⟨⟨_, qa⟩, _, qb⟩ := hD.lst
        have qn := (nw_get q).1
        exact ⟨fun w => (by rw [w, qa] at qn; cases qn), fun w => (by rw [w, qb] at qn; cases qn)⟩
      -- machine
      refine ⟨_, rfl, p, _, 0, .str z, rfl, rfl, SqL.of hp2, rfl, _, rfl, p, _, 1, .ref wa, rfl, rfl, SqL.of hp2, rfl, _, rfl, p, _, 2, .int (f : Int), rfl, rfl, SqL.of hp2, rfl, rfl, rfl, fun mx dx hmx hdx ndx => ?_⟩
      have em : Ex H2 (upd (upd H2 dx (.own mx)) mx (.ins C dx [])) := (Ex.new hdx).trans (Ex.new (by rw [upd_ne ndx.symm]; exact hmx))
      refine ⟨mx, dx, wa, z, ws, f, rfl, upd_same, dp_ex em hwa2, hz8, hok, n1, n7, hf, fun H3 eB hM => ⟨rfl, ?_⟩⟩
      have e3 : Ex H2 H3 := fun c o q => eB c o (em c o q) (ne_of_none q hmx)
      clear eB em
      have hD3 := hD2.ex e3
      have hT3 := hT2.ext e3
      have co3 : Ex (nw G1 H2) H3 := nw_ex.trans e3
      -- rows
      refine ⟨_, rfl, p, wa, z, ws, f, rfl, co3 _ _ hcp, dp_ex co3 hwc, hz8, hok, hf, n7, fun ra H4 rows e4 nra hra hF hrl => ?_⟩
      have hD4 := hD3.ex e4
      have hT4 := hT3.ext e4
      have hM4 := hM.ex e4
      have co4 := co3.trans e4
      have lz := l8_len hz8
      have lra : (rows.map V.str).length = rows.length := List.length_map _
      refine ⟨5, rfl, (by decide), (by decide), for_it walk_r0 (fun j σ G => Ex H4 G ∧ ∃ v6 v7 v8 : Option V, σ = [some (.ref sc), some (.ref a), some (.int (i : Int)), some (.ref p), some (.ref mx), some (.ref ra), v6, v7, v8, v9, v10])
        ⟨Ex.refl _, v6, v7, v8, rfl⟩ (fun _ _ _ _ _ => trivial) ?_ ?_⟩
      · rintro j x σ G5 G6 hj ⟨e5, v6, v7, v8, rfl⟩ ⟨rfl, rfl⟩
        have hj : j < 5 := hj
        have hra5 : SqL K G6 ra (rows.map V.str) := SqL.of (e5 _ _ hra)
        have lt1 : (Cn.ends ws f j).length < 256 := by
          have h1 := ends_len (f := f) hok lz j
          have h2 : 3 ^ j ≤ 3 ^ 4 := Nat.pow_le_pow_right (by decide) (by omega)
          omega
        have lt2 : natTot ws f j < 256 := by
          have h1 := natTot_le (f := f) hok lz j
          have h2 : 3 ^ (j + 1) ≤ 3 ^ 5 := Nat.pow_le_pow_right (by decide) (by omega)
          omega
        refine ⟨_, rfl, ra, rfl, ⟨_, hra5⟩, fun D hD' => ?_⟩
        refine lcD (K := K) (walk_list (K := K) (a := ra) (xs := rows.map V.str)) (fun i => decide ((rows.getD i ⟨#[]⟩).cps.size = j)) (fun i => .str (rows.getD i ⟨#[]⟩)) (by omega) hD' (fun _ e => ex_l e hra5) ?_ ?_
        · rintro c u G8 G7 hc e7 ⟨rfl, hu⟩ N A2 ⟨itN, itA⟩
          have hc2 : c < rows.length := by omega
          rw [List.getElem?_map, List.getElem?_eq_getElem hc2] at hu
          cases hu
          have g0 : rows.getD c ⟨#[]⟩ = rows[c] := by
            rw [List.getD_eq_getElem?_getD, List.getElem?_eq_getElem hc2]
            rfl
          rw [g0] at itN itA
          have hle := hF.le _ (List.getElem_mem hc2)
          refine ⟨by rfl, _, rfl, rows[c], rfl, (by show rows[c].cps.size ≤ sizeLine; rw [sizeLine_eq]; omega), _, rfl, rfl, _, rfl, ?_⟩
          by_cases e : rows[c].cps.size = j
          · refine iteT' (decide_eq_true (congrArg (fun n : Nat => V.int (n : Int)) e)) ?_
            exact ⟨_, rfl, itA (decide_eq_true e) _ _ (Ex.refl _) (.str _)⟩
          · refine iteF' (decide_eq_false fun q => e (by injection q with q; exact Int.ofNat.inj q)) ?_
            exact itN (decide_eq_false e) _ (Ex.refl _)
        intro G7 zs e7 hD7 hzs
        have lzs : zs.length = (Cn.ends ws f j).length := by
          rw [dpAll_len hzs, List.length_map, lra, cnt_filter (p := fun r : Str => decide (r.cps.size = j)) rows, hF.cnt j (by omega)]
        refine ⟨D, zs, rfl, .inl (SqL.of hD7), ?_⟩
        rw [lzs]
        have e57 := e5.trans e7
        refine ⟨_, rfl, _, rfl, mx, .int (j : Int), z, ws, f, rfl, hM4.ex e57, hok, n7, hz8, hf, .int _, fun n en hn H8 e8 => ?_, fun hb => ?_⟩
        rotate_left
        · rw [below_lt (by omega)] at hb
          cases hb
        have en : j = n := by
          injection en with en
          exact Int.ofNat.inj en
        subst en
        refine ⟨(Cn.ends ws f j).length, rfl, lt1, _, rfl, (Cn.ends ws f j).length, rfl, lt1, rfl, _, rfl, iteNS rfl ?_⟩
        have e58 := e57.trans e8
        refine ⟨_, rfl, _, rfl, mx, .int (j : Int), z, ws, f, rfl, hM4.ex e58, hok, n7, hz8, hf, .int _, fun n en hn H9 e9 => ?_, fun hb => ?_⟩
        rotate_left
        · rw [below_lt (by omega)] at hb
          cases hb
        have en : j = n := by
          injection en with en
          exact Int.ofNat.inj en
        subst en
        have e59 := e58.trans e9
        have hra9 : SqL K H9 ra (rows.map V.str) := SqL.of (e59 _ _ hra)
        refine ⟨natTot ws f j, congrArg (fun i => [V.int i]) tot_nat, lt2, ?_⟩
        refine ⟨_, rfl, ra, rfl, ⟨_, hra9⟩, fun D2 hD2' => ?_⟩
        refine lcD (K := K) (walk_list (K := K) (a := ra) (xs := rows.map V.str)) (fun i => decide ((rows.getD i ⟨#[]⟩).cps.size ≤ j)) (fun i => .str (rows.getD i ⟨#[]⟩)) (by omega) hD2' (fun _ e => ex_l e hra9) ?_ ?_
        · rintro c u G8 G7 hc e7 ⟨rfl, hu⟩ N A2 ⟨itN, itA⟩
          have hc2 : c < rows.length := by omega
          rw [List.getElem?_map, List.getElem?_eq_getElem hc2] at hu
          cases hu
          have g0 : rows.getD c ⟨#[]⟩ = rows[c] := by
            rw [List.getD_eq_getElem?_getD, List.getElem?_eq_getElem hc2]
            rfl
          rw [g0] at itN itA
          have hle := hF.le _ (List.getElem_mem hc2)
          refine ⟨by rfl, _, rfl, rows[c], rfl, (by show rows[c].cps.size ≤ sizeLine; rw [sizeLine_eq]; omega), _, rfl, _, _, rfl, rfl, _, rfl, ?_⟩
          by_cases e : rows[c].cps.size ≤ j
          · refine iteT' (decide_eq_true (Int.ofNat_le.mpr e)) ?_
            exact ⟨_, rfl, itA (decide_eq_true e) _ _ (Ex.refl _) (.str _)⟩
          · refine iteF' (decide_eq_false fun q => e (Int.ofNat_le.mp q)) ?_
            exact itN (decide_eq_false e) _ (Ex.refl _)
        intro G10 zs2 e10 hD10 hzs2
        have lzs2 : zs2.length = natTot ws f j := by
          rw [dpAll_len hzs2, List.length_map, lra, cnt_filter (p := fun r : Str => decide (r.cps.size ≤ j)) rows, hF.upto j (by omega)]
        refine ⟨D2, zs2, rfl, .inl (SqL.of hD10), natTot ws f j, by rw [lzs2], lt2, rfl, _, rfl, iteNS rfl ?_⟩
        exact ⟨e59.trans e10, _, _, _, rfl⟩
      rintro σ G5 ⟨e5, v6, v7, v8, rfl⟩
      have hD5 := hD4.ex e5
      have hT5 := hT4.ext e5
      have hM5 := hM4.ex e5
      have co5 := co4.trans e5
      clear hF hra nra
      -- a length
      refine ⟨_, rfl, a, b, 20, rfl, hD5, (by decide), (by decide), fun d1 H6 hd1 e6 hD6 => ⟨_, _, rfl, rfl, ?_⟩⟩
      refine ⟨fun σ G => ∃ n : Nat, n ≤ 200 ∧ ExD a b G5 G ∧ Deal G a b ∧ σ = [some (.ref sc), some (.ref a), some (.int (i : Int)), some (.ref p), some (.ref mx), some (.ref ra), some (.int (n : Int)), v7, v8, v9, v10], ?_, ?_⟩
      · refine ⟨_, rfl, a, b, 12, rfl, hD6, (by decide), (by decide), fun d2 H7 hd2 e7 hD7 => ⟨rfl, _, rfl, ite2 (fun _ => ?_) (fun _ => ?_)⟩⟩
        · refine ⟨_, rfl, a, b, 2, rfl, hD7, (by decide), (by decide), fun d3 H8 hd3 e8 hD8 => ⟨_, _, rfl, rfl, 200 - d3, by omega, (e6.trans e7).trans e8, hD8, ?_⟩⟩
          rw [show ((200 - d3 : Nat) : Int) = 200 - (d3 : Int) by omega]
          rfl
        · refine ⟨5 + d1, by omega, e6.trans e7, hD7, ?_⟩
          rw [show ((5 + d1 : Nat) : Int) = 5 + (d1 : Int) by omega]
          rfl
      rintro σ G6 ⟨n, hn, e6, hD6, rfl⟩
      have hT6 := tabs_exD hT5 hD5 e6
      have hM6 := hM5.exD hD5 e6
      have co6 : Ex (nw G1 H2) G6 := fun c o q => e6 c o (co5 c o q) (cnab c o q).1 (cnab c o q).2
      -- sums
      refine ⟨_, rfl, _, rfl, p, wa, z, ws, f, n, rfl, co6 _ _ hcp, dp_ex co6 hwc, hz8, hok, hf, n7, hn, fun q H7 e7 nq hq => ?_⟩
      refine ⟨_, rfl, _, rfl, rfl, mx, .int (n : Int), z, ws, f, rfl, hM6.ex e7, hok, n7, hz8, hf, .int _, fun m em hm H8 e8 => ?_, fun hb => ?_⟩
      rotate_left
      · rw [below_lt hn] at hb
        cases hb
      have em : n = m := by
        injection em with em
        exact Int.ofNat.inj em
      subst em
      have e78 := e7.trans e8
      have hq8 := e8 _ _ hq
      refine ⟨_, rfl, 1, rfl, q, _, -1, .int (rowsG ws f n), rfl, rfl, SqL.of hq8, ?_, rfl, _, rfl, iteNS rfl ?_⟩
      · unfold totsOf
        rw [List.range_succ, List.map_append, List.map_append]
        exact atI_last
      refine ⟨_, rfl, _, rfl, mx, .int (n : Int), z, ws, f, rfl, hM6.ex e78, hok, n7, hz8, hf, .int _, fun m em hm H9 e9 => ?_, fun hb => ?_⟩
      rotate_left
      · rw [below_lt hn] at hb
        cases hb
      have em : n = m := by
        injection em with em
        exact Int.ofNat.inj em
      subst em
      have e79 := e78.trans e9
      refine ⟨_, rfl, q, totsOf ws f n, rfl, SqL.of (e9 _ _ hq8), rfl, _, rfl, iteNS rfl ?_⟩
      have hD9 := hD6.ex e79
      have hT9 := hT6.ext e79
      have hM9 := hM6.ex e79
      clear hD6 hT6 hM6 co6 hD5 hT5 hM5 co5 hD4 hT4 hM4 co4 hD3 hT3 hD2 hT2 hM
      -- odd
      refine ⟨fun σ G => Deal G a b ∧ Tabs [(pt, q0)] G ∧ MachAt K C G mx z ws f ∧ ∃ v, Odd G v ∧ σ = [some (.ref sc), some (.ref a), some (.int (i : Int)), some (.ref p), some (.ref mx), some (.ref ra), some (.int (n : Int)), v7, v8, some (.ref q), some v], ?_, ?_⟩
      · refine ⟨_, rfl, 1, rfl, 10, 9, rfl, rfl, ?cpow, (by show 1 ≤ sizeLine; decide), fun tt htt => ⟨(by show 7 ≤ sizeLine; decide), fun lo hlo => ?_⟩⟩
        case cpow => exact ⟨by decide, by decide, by decide⟩
        have e10 : Ex H9 (upd H9 tt (.tup [.int 2])) := Ex.new htt
        have ht10 : upd H9 tt (.tup [.int 2]) tt = some (.tup [.int 2]) := upd_same
        generalize upd H9 tt (.tup [.int 2]) = H10 at e10 ht10 hlo ⊢
        have e11 := e10.trans (Ex.new hlo (o := .lst [.int (-1), .int 201, .non, .str "3", .bl true, .int (10 ^ 9), .ref tt]))
        have ht11 := (Ex.new hlo (o := .lst [.int (-1), .int 201, .non, .str "3", .bl true, .int (10 ^ 9), .ref tt])) _ _ ht10
        have hD11 := hD9.ex e11
        have nlo := (hD9.ex e10).fresh hlo
        refine ⟨a, b, lo, _, rfl, hD11, upd_same, nlo.1.symm, nlo.2.symm, (by show 1 ≤ 7; decide), (by show 7 ≤ 100; decide), fun c v H12 hv e12 hD12 => ?_⟩
        have ntt : tt ≠ a ∧ tt ≠ b := by
          obtain ⟨⟨_, qa⟩, _, qb⟩ := hD9.lst
          exact ⟨(ne_of_none qa htt).symm, (ne_of_none qb htt).symm⟩
        refine ⟨hD12, tabs_exD (hT9.ext e11) hD11 e12, (hM9.ex e11).exD hD11 e12, v, ?_, rfl⟩
        have mem := List.mem_of_getElem? hv
        rcases List.mem_cons.mp mem with h | mem
        · exact .inl h
        rcases List.mem_cons.mp mem with h | mem
        · exact .inr (.inl h)
        rcases List.mem_cons.mp mem with h | mem
        · exact .inr (.inr (.inl h))
        rcases List.mem_cons.mp mem with h | mem
        · exact .inr (.inr (.inr (.inl h)))
        rcases List.mem_cons.mp mem with h | mem
        · exact .inr (.inr (.inr (.inr (.inl h))))
        rcases List.mem_cons.mp mem with h | mem
        · exact .inr (.inr (.inr (.inr (.inr (.inl h)))))
        · exact .inr (.inr (.inr (.inr (.inr (.inr ⟨tt, List.mem_singleton.mp mem, e12 _ _ ht11 ntt.1 ntt.2⟩)))))
      rintro σ G8 ⟨hD8, hT8, hM8, v, hO8, rfl⟩
      -- refused, once
      refine ⟨hT8, fun H12 eN hT12 => ?_⟩
      have hO12 : Odd H12 v := hO8.step (tex_extN eN).1
      have hM12 := hM8.extN eN
      refine ⟨_, rfl, _, rfl, mx, v, z, ws, f, rfl, hM12, hok, n7, hz8, hf, hO12.kd.1, fun m em hm H' e' => ?_, fun hb d hd => ⟨rfl, d, v, rfl, upd_same, fun t ht => ?_⟩⟩
      · have w := hO12.kd.2
        rw [em, below_lt hm] at w
        cases w
      have e13 : Ex H12 (upd (upd H12 d (.xd [(("at" : Str), v)])) t (.tup [v])) := (Ex.new hd).trans (Ex.new ht)
      have ht13 : upd (upd H12 d (.xd [(("at" : Str), v)])) t (.tup [v]) t = some (.tup [v]) := upd_same
      generalize upd (upd H12 d (.xd [(("at" : Str), v)])) t (.tup [v]) = H13 at e13 ht13 ⊢
      have hO13 : Odd H13 v := hO12.step fun _ _ q => e13 _ _ q
      obtain ⟨d1, d2, d3, d4, d5⟩ := hO13.disp
      refine ⟨_, .tuple [oddD v], rfl, .tup (SqT.of ht13) (.cons hO13.dp .nil), d1, d2, d3, d4, d5, ?_⟩
      refine ⟨_, rfl, (by show 1 ≤ sizeLine; decide), fun t2 ht2 => ?_⟩
      have e14 := e13.trans (Ex.new ht2 (o := .tup [v]))
      have hO14 : Odd (upd H13 t2 (.tup [v])) v := hO13.step fun _ _ q => (Ex.new ht2) _ _ q
      obtain ⟨d1, d2, d3, d4, d5⟩ := hO14.disp
      refine ⟨_, .tuple [oddD v], rfl, .tup (SqT.of upd_same) (.cons hO14.dp .nil), d1, d2, d3, d4, d5, ?_⟩
      refine ⟨rfl, _, rfl, iteNS rfl ?_⟩
      have hD14 := (hD8.extN eN).ex e14
      have hT14 := hT12.ext e14
      have hM14 := hM12.ex e14
      generalize upd H13 t2 (.tup [v]) = H14 at hO14 hD14 hT14 hM14 ⊢
      -- refused, once more
      refine ⟨hT14, fun H15 eN2 hT15 => ?_⟩
      have hO15 : Odd H15 v := hO14.step (tex_extN eN2).1
      have hM15 := hM14.extN eN2
      refine ⟨_, rfl, _, rfl, mx, v, z, ws, f, rfl, hM15, hok, n7, hz8, hf, hO15.kd.1, fun m em hm H' e' => ?_, fun hb d hd => ⟨rfl, d, v, rfl, upd_same, fun t ht => ?_⟩⟩
      · have w := hO15.kd.2
        rw [em, below_lt hm] at w
        cases w
      have e16 : Ex H15 (upd (upd H15 d (.xd [(("at" : Str), v)])) t (.tup [v])) := (Ex.new hd).trans (Ex.new ht)
      have ht16 : upd (upd H15 d (.xd [(("at" : Str), v)])) t (.tup [v]) t = some (.tup [v]) := upd_same
      generalize upd (upd H15 d (.xd [(("at" : Str), v)])) t (.tup [v]) = H16 at e16 ht16 ⊢
      have hO16 : Odd H16 v := hO15.step fun _ _ q => e16 _ _ q
      obtain ⟨d1, d2, d3, d4, d5⟩ := hO16.disp
      refine ⟨_, .tuple [oddD v], rfl, .tup (SqT.of ht16) (.cons hO16.dp .nil), d1, d2, d3, d4, d5, ?_⟩
      refine ⟨_, rfl, (by show 1 ≤ sizeLine; decide), fun t2 ht2 => ?_⟩
      have e17 := e16.trans (Ex.new ht2 (o := .tup [v]))
      have hO17 : Odd (upd H16 t2 (.tup [v])) v := hO16.step fun _ _ q => (Ex.new ht2) _ _ q
      obtain ⟨d1, d2, d3, d4, d5⟩ := hO17.disp
      refine ⟨_, .tuple [oddD v], rfl, .tup (SqT.of upd_same) (.cons hO17.dp .nil), d1, d2, d3, d4, d5, ?_⟩
      refine ⟨rfl, _, rfl, iteNS rfl ?_⟩
      exact ⟨(hD14.extN eN2).ex e17, hT15.ext e17, _, _, _, _, _, _, _, _, _, rfl⟩
    · rintro σ G ⟨hD, hT, v2, v3, v4, v5, v6, v7, v8, v9, v10, rfl⟩
      exact k _
end
end My
set_option maxHeartbeats 2000000
set_option Elab.async false
set_option linter.all false
set_option autoImplicit false
set_option maxRecDepth 100000
set_option maxHeartbeats 8000000
namespace My
open PySem PySem.Spec PyProof.Rows L2 Evl
open PySem.OneX (OneTxt Tail tail_ex exTail)
open LamX (TabB TabS Tabs ExtN CodeO)
/-- an error of the class at S is what «except S» names -/
theorem exm_self {K : PySem.W.Frag} {S : Addr} (h1 : PySem.W.subIn K (.ref S) (.type "BaseException") = some true) (h2 : PySem.W.isClsIn K S = true) (h3 : PySem.W.typeIn K (.ref S) = some (.type "type")) (h4 : PySem.W.subIn K (.ref S) (.ref S) = some true) :
    PySem.W.exmOne K (.ref S) (.ref S) = some true := by
  have h2' : (PySem.W.clsIn K S).isSome = true := h2
  unfold PySem.W.exmOne PySem.W.kitCls
  rw [h1]
  show (if ((PySem.W.clsIn K S).isSome && PySem.W.typeIn K (.ref S) == some (.type "type")) = true then PySem.W.subIn K (.ref S) (.ref S) else none) = some true
  rw [h2', h3, h4]
  rfl
theorem tab_in {K : PySem.W.Frag} {x : Str} {f c P : Addr} {oc o1 : Value} {od o2 : Option Addr} {osl o3 : Array (Option Value)} {fd : FuncData} {vs : Array Value} (a : PySem.W.nsIn K mainGlobals x = some (some (.ref f))) (l : K.lookup f = some ⟨oc, od, .func fd, osl⟩) (hc : fd.code = .ref c) (lc : K.lookup c = some ⟨o1, o2, .fields vs, o3⟩) (hv : (vs[11]? : Option Value) = some (.ref P)) : PySem.W.tabIn K x = some (c, P) := by
  unfold PySem.W.tabIn
  rw [a]
  dsimp only
  rw [l]
  dsimp only
  rw [hc]
  dsimp only
  rw [lc]
  dsimp only
  rw [hv]
theorem all_mk {l : PySem.W.OpenLaw} {w : World} {K : PySem.W.Frag} {h : Heap} {mg : Str → Option Value} {fa C CR fE DK cL pt : Addr} (X : K.In h) (G : h.Ns mainGlobals mg) (hfa : mg "law" = some (.ref fa))
    {fMI fIsInt fIsNum fIsBelow fIsSeq fBehind fTotals fNeedLen fCountRows fCountUpto fDealt fAny fOf fMach fTried fRefused fLed fLaw : Addr} {odMI anMI odIsInt anIsInt odIsNum anIsNum odIsBelow anIsBelow odIsSeq anIsSeq odBehind anBehind odTotals anTotals odNeedLen anNeedLen odCountRows anCountRows odCountUpto anCountUpto odDealt anDealt odAny anAny odOf anOf odMach anMach odTried anTried odRefused anRefused odLed anLed odLaw anLaw odE anE : Option Addr} {slMI slIsInt slIsNum slIsBelow slIsSeq slBehind slTotals slNeedLen slCountRows slCountUpto slDealt slAny slOf slMach slTried slRefused slLed slLaw slE : Array (Option Value)}
    {ocMI dcMI pmMI ctMI ocIsInt dcIsInt pmIsInt ctIsInt ocIsNum dcIsNum pmIsNum ctIsNum ocIsBelow dcIsBelow pmIsBelow ctIsBelow ocIsSeq dcIsSeq pmIsSeq ctIsSeq ocBehind dcBehind pmBehind ctBehind ocTotals dcTotals pmTotals ctTotals ocNeedLen dcNeedLen pmNeedLen ctNeedLen ocCountRows dcCountRows pmCountRows ctCountRows ocCountUpto dcCountUpto pmCountUpto ctCountUpto ocDealt dcDealt pmDealt ctDealt ocAny dcAny pmAny ctAny ocOf dcOf pmOf ctOf ocMach dcMach pmMach ctMach ocTried dcTried pmTried ctTried ocRefused dcRefused pmRefused ctRefused ocLed dcLed pmLed ctLed ocLaw dcLaw pmLaw ctLaw ocE dcE pmE cdE ctE : Value} {cdMI cdIsInt cdIsNum cdIsBelow cdIsSeq cdBehind cdTotals cdNeedLen cdCountRows cdCountUpto cdDealt cdAny cdOf cdMach cdTried cdRefused cdLed kVIsInt kVIsNum kVIsBelow kVIsSeq kVBehind kVTotals kVNeedLen kVCountRows kVCountUpto kVDealt kVAny kVOf kVMach kVTried kVRefused kVLed kVLaw : Value} {tkF : Tok} {GLE GML GMS ocl : Value} {odl : Option Addr} {vsL : Array Value} {osl : Array (Option Value)}
    {nm q qnE : Str} {N : Addr} {bs bm : List Value} {sn : List Str} {sub : List Value} {ab : Bool} {col : Option Bool} {dd : Option Addr} {m0 m1 m2 m3 m5 : Option Value} {p1 p2 q1 q2 q3 q4 : Pos}
    (tab : PySem.W.tabIn K "law" = some (cL, pt) → PySem.W.CodeHd h cL pt ∧ h.get? pt = some (PySem.W.tabObj #[]))
    (aC : PySem.W.nsIn K mainGlobals "Machine" = some (some (.ref C)))
    (aCR : PySem.W.nsIn K mainGlobals "Refused" = some (some (.ref CR)))
    (xL : K.lookup CR = some (excClassObj nm q CR N bs bm true sn sub ab col dd m0 m1 m2 m3 m5 "Exception.__new__"))
    (xT : PySem.W.excTail PySem.OneX.exTail bm = true)
    (sa : PySem.W.findIn K (.ref CR) "__setattr__" = some (some (.builtin "object.__setattr__")))
    (ga : PySem.W.findIn K (.ref CR) "__getattribute__" = some (some (.builtin "BaseException.__getattribute__")))
    (gg : PySem.W.findIn K (.ref CR) "__getattr__" = some none)
    (nb : PySem.W.findIn K (.ref CR) "at" = some none)
    (a1 : PySem.W.findIn K (.ref CR) "__init__" = some (some (.ref fE)))
    (t1 : PySem.W.typeIn K (.ref fE) = some (.type "function"))
    (l1 : K.lookup fE = some ⟨ocE, odE, .func (PySem.W.fnOf "__init__" qnE (PySem.OneX.iA p1 p2) (PySem.OneX.iB q1 q2 q3 q4) PySem.OneX.iS .none .none dcE pmE anE cdE ctE), slE⟩)
    (c1 : PySem.W.codeIn K cdE qnE = true)
    (kC : PySem.W.keepIn K (.ref CR) = true)
    (eC : PySem.W.subIn K (.ref CR) (.type "BaseException") = some true)
    (tC : PySem.W.typeIn K (.ref CR) = some (.type "type"))
    (hC : PySem.W.hasDictIn K CR = true)
    (iC : PySem.W.isClsIn K CR = true)
    (sC : PySem.W.subIn K (.ref CR) (.ref CR) = some true)
    (aMI : PySem.W.findIn K (.ref C) "__init__" = some (some (.ref fMI)))
    (iMI : PySem.W.isFn K (.ref fMI) = true)
    (lMI : K.lookup fMI = some ⟨ocMI, odMI, .func (PySem.W.fnOf "__init__" "Machine.__init__" (defArgs sMI) (defBody sMI) (defScope sMI) .none (.ref DK) dcMI pmMI anMI cdMI ctMI), slMI⟩)
    (cMI : PySem.W.codeIn K cdMI "Machine.__init__" = true)
    (kfMI : PySem.W.keepIn K (.ref fMI) = true)
    (aIsInt : PySem.W.nsIn K mainGlobals "is_integer" = some (some (.ref fIsInt)))
    (lIsInt : K.lookup fIsInt = some ⟨ocIsInt, odIsInt, .func (PySem.W.fnOf "is_integer" "is_integer" (defArgs sIsInt) (defBody sIsInt) (defScope sIsInt) .none kVIsInt dcIsInt pmIsInt anIsInt cdIsInt ctIsInt), slIsInt⟩)
    (cIsInt : PySem.W.codeIn K cdIsInt "is_integer" = true)
    (kIsInt : PySem.W.keepIn K (.ref fIsInt) = true)
    (aIsNum : PySem.W.nsIn K mainGlobals "is_number" = some (some (.ref fIsNum)))
    (lIsNum : K.lookup fIsNum = some ⟨ocIsNum, odIsNum, .func (PySem.W.fnOf "is_number" "is_number" (defArgs sIsNum) (defBody sIsNum) (defScope sIsNum) .none kVIsNum dcIsNum pmIsNum anIsNum cdIsNum ctIsNum), slIsNum⟩)
    (cIsNum : PySem.W.codeIn K cdIsNum "is_number" = true)
    (kIsNum : PySem.W.keepIn K (.ref fIsNum) = true)
    (aIsBelow : PySem.W.nsIn K mainGlobals "is_number_below" = some (some (.ref fIsBelow)))
    (lIsBelow : K.lookup fIsBelow = some ⟨ocIsBelow, odIsBelow, .func (PySem.W.fnOf "is_number_below" "is_number_below" (defArgs sIsBelow) (defBody sIsBelow) (defScope sIsBelow) .none kVIsBelow dcIsBelow pmIsBelow anIsBelow cdIsBelow ctIsBelow), slIsBelow⟩)
    (cIsBelow : PySem.W.codeIn K cdIsBelow "is_number_below" = true)
    (kIsBelow : PySem.W.keepIn K (.ref fIsBelow) = true)
    (aIsSeq : PySem.W.nsIn K mainGlobals "is_sequence" = some (some (.ref fIsSeq)))
    (lIsSeq : K.lookup fIsSeq = some ⟨ocIsSeq, odIsSeq, .func (PySem.W.fnOf "is_sequence" "is_sequence" (defArgs sIsSeq) (defBody sIsSeq) (defScope sIsSeq) .none kVIsSeq dcIsSeq pmIsSeq anIsSeq cdIsSeq ctIsSeq), slIsSeq⟩)
    (cIsSeq : PySem.W.codeIn K cdIsSeq "is_sequence" = true)
    (kIsSeq : PySem.W.keepIn K (.ref fIsSeq) = true)
    (aBehind : PySem.W.nsIn K mainGlobals "_counts_behind" = some (some (.ref fBehind)))
    (lBehind : K.lookup fBehind = some ⟨ocBehind, odBehind, .func (PySem.W.fnOf "_counts_behind" "_counts_behind" (defArgs sBehind) (defBody sBehind) (defScope sBehind) .none kVBehind dcBehind pmBehind anBehind cdBehind ctBehind), slBehind⟩)
    (cBehind : PySem.W.codeIn K cdBehind "_counts_behind" = true)
    (kBehind : PySem.W.keepIn K (.ref fBehind) = true)
    (aTotals : PySem.W.nsIn K mainGlobals "_totals" = some (some (.ref fTotals)))
    (lTotals : K.lookup fTotals = some ⟨ocTotals, odTotals, .func (PySem.W.fnOf "_totals" "_totals" (defArgs sTotals) (defBody sTotals) (defScope sTotals) .none kVTotals dcTotals pmTotals anTotals cdTotals ctTotals), slTotals⟩)
    (cTotals : PySem.W.codeIn K cdTotals "_totals" = true)
    (kTotals : PySem.W.keepIn K (.ref fTotals) = true)
    (aNeedLen : PySem.W.nsIn K mainGlobals "_need_length" = some (some (.ref fNeedLen)))
    (lNeedLen : K.lookup fNeedLen = some ⟨ocNeedLen, odNeedLen, .func (PySem.W.fnOf "_need_length" "_need_length" (defArgs sNeedLen) (defBody sNeedLen) (defScope sNeedLen) .none kVNeedLen dcNeedLen pmNeedLen anNeedLen cdNeedLen ctNeedLen), slNeedLen⟩)
    (cNeedLen : PySem.W.codeIn K cdNeedLen "_need_length" = true)
    (kNeedLen : PySem.W.keepIn K (.ref fNeedLen) = true)
    (aCountRows : PySem.W.nsIn K mainGlobals "count_rows" = some (some (.ref fCountRows)))
    (lCountRows : K.lookup fCountRows = some ⟨ocCountRows, odCountRows, .func (PySem.W.fnOf "count_rows" "count_rows" (defArgs sCountRows) (defBody sCountRows) (defScope sCountRows) .none kVCountRows dcCountRows pmCountRows anCountRows cdCountRows ctCountRows), slCountRows⟩)
    (cCountRows : PySem.W.codeIn K cdCountRows "count_rows" = true)
    (kCountRows : PySem.W.keepIn K (.ref fCountRows) = true)
    (aCountUpto : PySem.W.nsIn K mainGlobals "count_upto" = some (some (.ref fCountUpto)))
    (lCountUpto : K.lookup fCountUpto = some ⟨ocCountUpto, odCountUpto, .func (PySem.W.fnOf "count_upto" "count_upto" (defArgs sCountUpto) (defBody sCountUpto) (defScope sCountUpto) .none kVCountUpto dcCountUpto pmCountUpto anCountUpto cdCountUpto ctCountUpto), slCountUpto⟩)
    (cCountUpto : PySem.W.codeIn K cdCountUpto "count_upto" = true)
    (kCountUpto : PySem.W.keepIn K (.ref fCountUpto) = true)
    (aDealt : PySem.W.nsIn K mainGlobals "_law_dealt" = some (some (.ref fDealt)))
    (lDealt : K.lookup fDealt = some ⟨ocDealt, odDealt, .func (PySem.W.fnOf "_law_dealt" "_law_dealt" (defArgs sDealt) (defBody sDealt) (defScope sDealt) .none kVDealt dcDealt pmDealt anDealt cdDealt ctDealt), slDealt⟩)
    (cDealt : PySem.W.codeIn K cdDealt "_law_dealt" = true)
    (kDealt : PySem.W.keepIn K (.ref fDealt) = true)
    (aAny : PySem.W.nsIn K mainGlobals "_law_any" = some (some (.ref fAny)))
    (lAny : K.lookup fAny = some ⟨ocAny, odAny, .func (PySem.W.fnOf "_law_any" "_law_any" (defArgs sAny) (defBody sAny) (defScope sAny) .none kVAny dcAny pmAny anAny cdAny ctAny), slAny⟩)
    (cAny : PySem.W.codeIn K cdAny "_law_any" = true)
    (kAny : PySem.W.keepIn K (.ref fAny) = true)
    (aOf : PySem.W.nsIn K mainGlobals "_law_of" = some (some (.ref fOf)))
    (lOf : K.lookup fOf = some ⟨ocOf, odOf, .func (PySem.W.fnOf "_law_of" "_law_of" (defArgs sOf) (defBody sOf) (defScope sOf) .none kVOf dcOf pmOf anOf cdOf ctOf), slOf⟩)
    (cOf : PySem.W.codeIn K cdOf "_law_of" = true)
    (kOf : PySem.W.keepIn K (.ref fOf) = true)
    (aMach : PySem.W.nsIn K mainGlobals "_law_machine" = some (some (.ref fMach)))
    (lMach : K.lookup fMach = some ⟨ocMach, odMach, .func (PySem.W.fnOf "_law_machine" "_law_machine" (defArgs sMach) (defBody sMach) (defScope sMach) .none kVMach dcMach pmMach anMach cdMach ctMach), slMach⟩)
    (cMach : PySem.W.codeIn K cdMach "_law_machine" = true)
    (kMach : PySem.W.keepIn K (.ref fMach) = true)
    (aTried : PySem.W.nsIn K mainGlobals "_law_tried" = some (some (.ref fTried)))
    (lTried : K.lookup fTried = some ⟨ocTried, odTried, .func (PySem.W.fnOf "_law_tried" "_law_tried" (defArgs sTried) (defBody sTried) (defScope sTried) .none kVTried dcTried pmTried anTried cdTried ctTried), slTried⟩)
    (cTried : PySem.W.codeIn K cdTried "_law_tried" = true)
    (kTried : PySem.W.keepIn K (.ref fTried) = true)
    (aRefused : PySem.W.nsIn K mainGlobals "_law_refused" = some (some (.ref fRefused)))
    (lRefused : K.lookup fRefused = some ⟨ocRefused, odRefused, .func (PySem.W.fnOf "_law_refused" "_law_refused" (defArgs sRefused) (defBody sRefused) (defScope sRefused) .none kVRefused dcRefused pmRefused anRefused cdRefused ctRefused), slRefused⟩)
    (cRefused : PySem.W.codeIn K cdRefused "_law_refused" = true)
    (kRefused : PySem.W.keepIn K (.ref fRefused) = true)
    (aLed : PySem.W.nsIn K mainGlobals "_law_led" = some (some (.ref fLed)))
    (lLed : K.lookup fLed = some ⟨ocLed, odLed, .func (PySem.W.fnOf "_law_led" "_law_led" (defArgs sLed) (defBody sLed) (defScope sLed) .none kVLed dcLed pmLed anLed cdLed ctLed), slLed⟩)
    (cLed : PySem.W.codeIn K cdLed "_law_led" = true)
    (kLed : PySem.W.keepIn K (.ref fLed) = true)
    (aLaw : PySem.W.nsIn K mainGlobals "law" = some (some (.ref fLaw)))
    (lLaw : K.lookup fLaw = some ⟨ocLaw, odLaw, .func (PySem.W.fnOf "law" "law" (defArgs sLaw) (defBody sLaw) (defScope sLaw) .none kVLaw dcLaw pmLaw anLaw (.ref cL) ctLaw), slLaw⟩)
    (cLaw : PySem.W.codeIn K (.ref cL) "law" = true)
    (kLaw : PySem.W.keepIn K (.ref fLaw) = true)
    (lcL : K.lookup cL = some ⟨ocl, odl, .fields vsL, osl⟩)
    (hvL : (vsL[11]? : Option Value) = some (.ref pt))
    (nT : K.lookup pt = none)
    (pgr : PySem.W.plainGet K C Str.empty = true)
    (hdr : PySem.W.hasDictIn K C = true)
    (por : PySem.W.plainOver K C = true)
    (sar : PySem.W.findIn K (.ref C) "__setattr__" = some (some (.builtin "object.__setattr__")))
    (mkr : PySem.W.makesIn K C = true)
    (kcr : PySem.W.keepIn K (.ref C) = true)
    (nr0 : PySem.W.findIn K (.ref C) "letters" = some none)
    (nr1 : PySem.W.findIn K (.ref C) "ways" = some none)
    (nr2 : PySem.W.findIn K (.ref C) "first" = some none)
    (kd1 : PySem.W.nsIn K DK "first" = some (some (.int 0 tkF)))
    (g_LE : PySem.W.nsIn K mainGlobals "LETTERS" = some (some GLE))
    (g_ML : PySem.W.nsIn K mainGlobals "MOST_LETTERS" = some (some GML))
    (g_MS : PySem.W.nsIn K mainGlobals "MOST_STATES" = some (some GMS))
    (r_LE : RelV (.str "abcd01") GLE)
    (r_ML : RelV (.int 200) GML)
    (r_MS : RelV (.int 2000) GMS)
    (z_int : PySem.W.nsIn K mainGlobals "int" = some none)
    (z_bool : PySem.W.nsIn K mainGlobals "bool" = some none)
    (z_str : PySem.W.nsIn K mainGlobals "str" = some none)
    (z_len : PySem.W.nsIn K mainGlobals "len" = some none)
    (z_abs : PySem.W.nsIn K mainGlobals "abs" = some none)
    (z_tuple : PySem.W.nsIn K mainGlobals "tuple" = some none)
    (z_list : PySem.W.nsIn K mainGlobals "list" = some none)
    (z_range : PySem.W.nsIn K mainGlobals "range" = some none)
    (z_enumerate : PySem.W.nsIn K mainGlobals "enumerate" = some none)
    (z_repr : PySem.W.nsIn K mainGlobals "repr" = some none)
    (z_all : PySem.W.nsIn K mainGlobals "all" = some none)
    (z_sum : PySem.W.nsIn K mainGlobals "sum" = some none)
    (z_isinstance : PySem.W.nsIn K mainGlobals "isinstance" = some none)
    : ∃ (fd : FuncData) (c pt : Addr), h.get? pt = some { cls := .none, data := .fields #[] } ∧ K.lookup pt = none ∧ PySem.W.CodeHd h c pt ∧ (∀ (s : Shared) (v : Value), BindsTo s fd ⟨[v], []⟩ [("script", v)]) ∧ ∀ base : Heap, K.In base → base.Ns mainGlobals mg → TabB base mg c pt → FnG l.prog w K mg base CX0 8 fa fd ["script"] (spLaw K pt) := by
  have e := hfa.symm.trans (PySem.W.mg_of X G aLaw)
  cases e
  have tab := tab (tab_in aLaw lLaw rfl lcL hvL)
  have T : Txt K mg := ⟨PySem.W.mg_none_of X G z_int, PySem.W.mg_none_of X G z_bool, PySem.W.mg_none_of X G z_str, PySem.W.mg_none_of X G z_len, PySem.W.mg_none_of X G z_abs, PySem.W.mg_none_of X G z_tuple, PySem.W.mg_none_of X G z_list, PySem.W.mg_none_of X G z_range, PySem.W.mg_none_of X G z_enumerate, PySem.W.mg_none_of X G z_repr, PySem.W.mg_none_of X G z_all, PySem.W.mg_none_of X G z_sum, PySem.W.mg_none_of X G z_isinstance, ⟨_, PySem.W.mg_of X G g_LE, r_LE⟩, ⟨_, PySem.W.mg_of X G g_ML, r_ML⟩, ⟨_, PySem.W.mg_of X G g_MS, r_MS⟩⟩
  have Mt : McT K C := ⟨⟨pgr, hdr, por, sar⟩, nr0, nr1, nr2⟩
  have TR : OneTxt K mg "Refused" exTail "Exception.__new__" CR fE :=
    { gC := PySem.W.mg_of X G aCR, cls := ⟨nm, q, N, bs, bm, sn, sub, ab, col, dd, m0, m1, m2, m3, m5, xL, xT⟩, sa := sa, ga := ga, gg := gg, noN := nb, iC := a1, tC := t1, kC := kC, exC := eC, tyC := tC, hdC := hC, te := exm_self eC iC tC sC,
      fn := ⟨_, _, _, _, _, _, _, _, _, _, _, _, _, _, _, l1, c1⟩ }
  have FMI := fun_mk (st := sMI) lMI cMI kfMI
  have FIsInt := fun_mk (st := sIsInt) lIsInt cIsInt kIsInt
  have FIsNum := fun_mk (st := sIsNum) lIsNum cIsNum kIsNum
  have FIsBelow := fun_mk (st := sIsBelow) lIsBelow cIsBelow kIsBelow
  have FIsSeq := fun_mk (st := sIsSeq) lIsSeq cIsSeq kIsSeq
  have FBehind := fun_mk (st := sBehind) lBehind cBehind kBehind
  have FTotals := fun_mk (st := sTotals) lTotals cTotals kTotals
  have FNeedLen := fun_mk (st := sNeedLen) lNeedLen cNeedLen kNeedLen
  have FCountRows := fun_mk (st := sCountRows) lCountRows cCountRows kCountRows
  have FCountUpto := fun_mk (st := sCountUpto) lCountUpto cCountUpto kCountUpto
  have FDealt := fun_mk (st := sDealt) lDealt cDealt kDealt
  have FAny := fun_mk (st := sAny) lAny cAny kAny
  have FOf := fun_mk (st := sOf) lOf cOf kOf
  have FMach := fun_mk (st := sMach) lMach cMach kMach
  have FTried := fun_mk (st := sTried) lTried cTried kTried
  have FRefused := fun_mk (st := sRefused) lRefused cRefused kRefused
  have FLed := fun_mk (st := sLed) lLed cLed kLed
  have FLaw := fun_mk (st := sLaw) lLaw cLaw kLaw
  have bIsInt := FIsInt.binds (ps := ["value"]) fun _ _ _ _ _ _ us hl => match us, hl with | [_], _ => rfl
  have bIsNum := FIsNum.binds (ps := ["value"]) fun _ _ _ _ _ _ us hl => match us, hl with | [_], _ => rfl
  have bIsBelow := FIsBelow.binds (ps := ["value", "bound"]) fun _ _ _ _ _ _ us hl => match us, hl with | [_, _], _ => rfl
  have bIsSeq := FIsSeq.binds (ps := ["value"]) fun _ _ _ _ _ _ us hl => match us, hl with | [_], _ => rfl
  have bBehind := FBehind.binds (ps := ["machine", "counts"]) fun _ _ _ _ _ _ us hl => match us, hl with | [_, _], _ => rfl
  have bTotals := FTotals.binds (ps := ["machine", "length"]) fun _ _ _ _ _ _ us hl => match us, hl with | [_, _], _ => rfl
  have bNeedLen := FNeedLen.binds (ps := ["value"]) fun _ _ _ _ _ _ us hl => match us, hl with | [_], _ => rfl
  have bCountRows := FCountRows.binds (ps := ["machine", "length"]) fun _ _ _ _ _ _ us hl => match us, hl with | [_, _], _ => rfl
  have bCountUpto := FCountUpto.binds (ps := ["machine", "length"]) fun _ _ _ _ _ _ us hl => match us, hl with | [_, _], _ => rfl
  have bDealt := FDealt.binds (ps := ["script", "base"]) fun _ _ _ _ _ _ us hl => match us, hl with | [_, _], _ => rfl
  have bAny := FAny.binds (ps := ["deal", "bound"]) fun _ _ _ _ _ _ us hl => match us, hl with | [_, _], _ => rfl
  have bOf := FOf.binds (ps := ["deal", "some"]) fun _ _ _ _ _ _ us hl => match us, hl with | [_, _], _ => rfl
  have bMach := FMach.binds (ps := ["deal", "most"]) fun _ _ _ _ _ _ us hl => match us, hl with | [_, _], _ => rfl
  have bTried := FTried.binds (ps := ["drawn", "letters"]) fun _ _ _ _ _ _ us hl => match us, hl with | [_, _], _ => rfl
  have bRefused := FRefused.binds (ps := ["work"]) fun _ _ _ _ _ _ us hl => match us, hl with | [_], _ => rfl
  have bLed := FLed.binds (ps := ["drawn", "length"]) fun _ _ _ _ _ _ us hl => match us, hl with | [_, _], _ => rfl
  have FI : FunD K "__init__" "Machine.__init__" (defArgs sMI) (defBody sMI) (defScope sMI) [] kMI fMI _ := ⟨⟨_, _, _, _, _, _, _, _, _, _, rfl, lMI, cMI, .inl ⟨rfl, rfl⟩, .inr ⟨DK, rfl, fun q hq => ?kws⟩⟩, kfMI⟩
  case kws =>
    rcases List.mem_cons.mp hq with rfl | hq
    · exact ⟨_, kd1, ⟨tkF, rfl⟩⟩
    · cases hq
  refine ⟨PySem.W.fnOf "law" "law" (defArgs sLaw) (defBody sLaw) (defScope sLaw) .none kVLaw dcLaw pmLaw anLaw (.ref cL) ctLaw, cL, pt, tab.2, nT, tab.1, ?bind, fun base _ _ TB => ?run⟩
  case bind => exact fun s v => .of_eq rfl
  case run =>
    let Oi : Own l.prog w K mg base "is_integer" 1 ["value"] spIsInt := ⟨fIsInt, _, ok_IsInt FIsInt T, PySem.W.mg_of X G aIsInt, kIsInt, bIsInt⟩
    let On : Own l.prog w K mg base "is_number" 2 ["value"] spIsNum := ⟨fIsNum, _, ok_IsNum FIsNum T Oi, PySem.W.mg_of X G aIsNum, kIsNum, bIsNum⟩
    let Ob : Own l.prog w K mg base "is_number_below" 3 ["value", "bound"] spIsBelow := ⟨fIsBelow, _, ok_IsBelow FIsBelow T On, PySem.W.mg_of X G aIsBelow, kIsBelow, bIsBelow⟩
    let Os : Own l.prog w K mg base "is_sequence" 1 ["value"] (spIsSeq K) := ⟨fIsSeq, _, ok_IsSeq FIsSeq T, PySem.W.mg_of X G aIsSeq, kIsSeq, bIsSeq⟩
    let Oh : Own l.prog w K mg base "_counts_behind" 1 ["machine", "counts"] (spBehind K C) := ⟨fBehind, _, ok_Behind FBehind T Mt, PySem.W.mg_of X G aBehind, kBehind, bBehind⟩
    let Ot : Own l.prog w K mg base "_totals" 2 ["machine", "length"] (spTotals K C) := ⟨fTotals, _, ok_Totals FTotals T Mt Oh, PySem.W.mg_of X G aTotals, kTotals, bTotals⟩
    let Ol : OwnX l.prog w K mg base "_need_length" 4 ["value"] (spNeed CR) := ⟨fNeedLen, _, ok_Need FNeedLen T TR Ob, PySem.W.mg_of X G aNeedLen, kNeedLen, bNeedLen⟩
    let Ocr : OwnX l.prog w K mg base "count_rows" 5 ["machine", "length"] (spCount rowsG K C CR) := ⟨fCountRows, _, ok_CountRows FCountRows T Ol Ot, PySem.W.mg_of X G aCountRows, kCountRows, bCountRows⟩
    let Ocu : OwnX l.prog w K mg base "count_upto" 5 ["machine", "length"] (spCount uptoG K C CR) := ⟨fCountUpto, _, ok_CountUpto FCountUpto T Ol Ot, PySem.W.mg_of X G aCountUpto, kCountUpto, bCountUpto⟩
    let Ode : Own l.prog w K mg base "_law_dealt" 1 ["script", "base"] (spDealt K) := ⟨fDealt, _, ok_Dealt FDealt T, PySem.W.mg_of X G aDealt, kDealt, bDealt⟩
    let Oan : Own l.prog w K mg base "_law_any" 1 ["deal", "bound"] spAny := ⟨fAny, _, ok_Any FAny T, PySem.W.mg_of X G aAny, kAny, bAny⟩
    let Oof : Own l.prog w K mg base "_law_of" 2 ["deal", "some"] spOf := ⟨fOf, _, ok_Of FOf T Oan, PySem.W.mg_of X G aOf, kOf, bOf⟩
    let Oma : Own l.prog w K mg base "_law_machine" 3 ["deal", "most"] (spMach K) := ⟨fMach, _, ok_Mach FMach T Oan Oof, PySem.W.mg_of X G aMach, kMach, bMach⟩
    let Otr : Own l.prog w K mg base "_law_tried" 1 ["drawn", "letters"] (spTried K) := ⟨fTried, _, ok_Tried FTried T, PySem.W.mg_of X G aTried, kTried, bTried⟩
    let Ole : Own l.prog w K mg base "_law_led" 1 ["drawn", "length"] (spLed K) := ⟨fLed, _, ok_Led FLed T, PySem.W.mg_of X G aLed, kLed, bLed⟩
    have GMI : FnOk l.prog w K mg base CX0 4 fMI _ ["self", "letters", "ways", "first"] (spMI K C) := ok_MI FMI T Mt Os Ob
    exact ok_law lLaw cLaw T TR TB ⟨mkr, aMI, iMI, kcr⟩ (PySem.W.mg_of X G aC) GMI FI Ocr Ocu (kbn_sw (s1 := "machine") (s2 := "length") FCountRows fun _ _ _ _ _ _ _ _ => rfl) Ode Oan Oof Oma Otr Ole FRefused (PySem.W.mg_of X G aRefused) bRefused
end My
set_option autoImplicit true
set_option maxHeartbeats 2000000
set_option Elab.async false
open PySem PySem.W PyProof.Rows
set_option maxRecDepth 100000 in
set_option maxHeartbeats 0 in
theorem PySem.Challenge.cw_rueless_k35_rows_counted_holds : PySem.Challenge.rw_rueless_k35_rows_counted.Holds := by
  w_on; o_law; k_head; (case hw => w_witness2)
  k_fill
  refine My.walkGT (l := PySem.Challenge.rw_rueless_k35_rows_counted) (n := 63) (k := 8) (x := "script") (sp := fun K pt => My.spLaw K pt) rfl (by decide) rfl ⟨rfl, by decide, by decide⟩ (fun w h Y => PySem.W.km_in_of Y) ?F (fun K pt H a ns hl hp hS => ⟨a, ns, rfl, hS, hl, hp, fun _ => rfl⟩)
  case F =>
    intro w mg mb mean fa h KX G hmg
    refine' My.all_mk KX G.g hmg (fun ht => PySem.W.tab_of (x := "law") G KX ?hr ht) ?aC ?aCR ?xL ?xT ?sa ?ga ?gg ?nb ?a1 ?t1 ?l1 ?c1 ?kC ?eC ?tC ?hC ?iC ?sC ?aMI ?iMI ?lMI ?cMI ?kfMI ?aIsInt ?lIsInt ?cIsInt ?kIsInt ?aIsNum ?lIsNum ?cIsNum ?kIsNum ?aIsBelow ?lIsBelow ?cIsBelow ?kIsBelow ?aIsSeq ?lIsSeq ?cIsSeq ?kIsSeq ?aBehind ?lBehind ?cBehind ?kBehind ?aTotals ?lTotals ?cTotals ?kTotals ?aNeedLen ?lNeedLen ?cNeedLen ?kNeedLen ?aCountRows ?lCountRows ?cCountRows ?kCountRows ?aCountUpto ?lCountUpto ?cCountUpto ?kCountUpto ?aDealt ?lDealt ?cDealt ?kDealt ?aAny ?lAny ?cAny ?kAny ?aOf ?lOf ?cOf ?kOf ?aMach ?lMach ?cMach ?kMach ?aTried ?lTried ?cTried ?kTried ?aRefused ?lRefused ?cRefused ?kRefused ?aLed ?lLed ?cLed ?kLed ?aLaw ?lLaw ?cLaw ?kLaw ?lcL ?hvL ?nT ?pgr ?hdr ?por ?sar ?mkr ?kcr ?nr0 ?nr1 ?nr2 ?kd1 ?g_LE ?g_ML ?g_MS ?r_LE ?r_ML ?r_MS ?z_int ?z_bool ?z_str ?z_len ?z_abs ?z_tuple ?z_list ?z_range ?z_enumerate ?z_repr ?z_all ?z_sum ?z_isinstance
    (case hr => rfl)
    (case aC => k_is)
    (case aCR => k_is)
    (case xL => k_is)
    (case xT => first | rfl | decide +kernel | k_is)
    (case sa => k_is)
    (case ga => k_is)
    (case gg => k_is)
    (case nb => k_is)
    (case a1 => k_is)
    (case t1 => k_is)
    (case l1 => k_is)
    (case c1 => k_is)
    (case kC => k_is)
    (case eC => k_is)
    (case tC => k_is)
    (case hC => k_is)
    (case iC => k_is)
    (case sC => first | rfl | k_is)
    (case aMI => k_is)
    (case iMI => k_is)
    (case lMI => k_is)
    (case cMI => k_is)
    (case kfMI => k_is)
    (case aIsInt => k_is)
    (case lIsInt => k_is)
    (case cIsInt => k_is)
    (case kIsInt => k_is)
    (case aIsNum => k_is)
    (case lIsNum => k_is)
    (case cIsNum => k_is)
    (case kIsNum => k_is)
    (case aIsBelow => k_is)
    (case lIsBelow => k_is)
    (case cIsBelow => k_is)
    (case kIsBelow => k_is)
    (case aIsSeq => k_is)
    (case lIsSeq => k_is)
    (case cIsSeq => k_is)
    (case kIsSeq => k_is)
    (case aBehind => k_is)
    (case lBehind => k_is)
    (case cBehind => k_is)
    (case kBehind => k_is)
    (case aTotals => k_is)
    (case lTotals => k_is)
    (case cTotals => k_is)
    (case kTotals => k_is)
    (case aNeedLen => k_is)
    (case lNeedLen => k_is)
    (case cNeedLen => k_is)
    (case kNeedLen => k_is)
    (case aCountRows => k_is)
    (case lCountRows => k_is)
    (case cCountRows => k_is)
    (case kCountRows => k_is)
    (case aCountUpto => k_is)
    (case lCountUpto => k_is)
    (case cCountUpto => k_is)
    (case kCountUpto => k_is)
    (case aDealt => k_is)
    (case lDealt => k_is)
    (case cDealt => k_is)
    (case kDealt => k_is)
    (case aAny => k_is)
    (case lAny => k_is)
    (case cAny => k_is)
    (case kAny => k_is)
    (case aOf => k_is)
    (case lOf => k_is)
    (case cOf => k_is)
    (case kOf => k_is)
    (case aMach => k_is)
    (case lMach => k_is)
    (case cMach => k_is)
    (case kMach => k_is)
    (case aTried => k_is)
    (case lTried => k_is)
    (case cTried => k_is)
    (case kTried => k_is)
    (case aRefused => k_is)
    (case lRefused => k_is)
    (case cRefused => k_is)
    (case kRefused => k_is)
    (case aLed => k_is)
    (case lLed => k_is)
    (case cLed => k_is)
    (case kLed => k_is)
    (case aLaw => k_is)
    (case lLaw => k_is)
    (case cLaw => k_is)
    (case kLaw => k_is)
    (case lcL => k_is)
    (case hvL => rfl)
    (case nT => first | rfl | k_is)
    (case pgr => k_is)
    (case hdr => k_is)
    (case por => k_is)
    (case sar => k_is)
    (case mkr => k_is)
    (case kcr => k_is)
    (case nr0 => k_is)
    (case nr1 => k_is)
    (case nr2 => k_is)
    (case kd1 => k_is)
    (case g_LE => k_is)
    (case g_ML => k_is)
    (case g_MS => k_is)
    (case r_LE => first | exact ⟨_, rfl⟩ | rfl)
    (case r_ML => exact ⟨_, rfl⟩)
    (case r_MS => exact ⟨_, rfl⟩)
    (case z_int => k_is)
    (case z_bool => k_is)
    (case z_str => k_is)
    (case z_len => k_is)
    (case z_abs => k_is)
    (case z_tuple => k_is)
    (case z_list => k_is)
    (case z_range => k_is)
    (case z_enumerate => k_is)
    (case z_repr => k_is)
    (case z_all => k_is)
    (case z_sum => k_is)
    (case z_isinstance => k_is)
#print axioms PySem.Challenge.cw_rueless_k35_rows_counted_holds
