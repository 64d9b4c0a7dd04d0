import PyProof.Rows.All
import Wide.All
import OpenK.AllK
import Wide.FinOn
import HandS.ForMost
import HandS.Wide
import HandS.EndBits
import PyProof.ReprRoads
import PyProof.ReprLen
import HandS.Set
import HandS.SetTxt0
import HandS.SetBool
import PyProof.Rows.SortShellAny
import HandS.Strs
import HandS.IsInst
import HandS.SortKw
import KE.SortKeyHeap
import HandS.DictComp
import HandS.SetFor
import PyProof.EqKinds
import KE.SortUse
import HandS.Star
import HandS.Finally
import HandS.DeepEq
import PySem.Challenge.RW_stockcounts_k02_sequences_and_stretches
set_option Elab.async false
set_option maxRecDepth 100000
set_option maxHeartbeats 4000000
namespace Sk
open PySem L2 PyProof.Rows

/-! ### operators on ints of any size; repr of data -/
section
variable {X : Cx}
def CMulX (i j : Int) : Prop := IntMulOk i j
theorem op_mulX : OpR X (binaryOp .Mult) (rI CMulX fun i j => .int (i * j)) :=
  opI fun _ _ _ _ _ _ _ hc q => mul_int q hc
def CPowX (i j : Int) : Prop := 0 ≤ j ∧ (Builtin.Int.intBits i : Int) * j ≤ 2 ^ 27
theorem op_powX : OpR X (binaryOp .Pow) (rI CPowX fun i j => .int (i ^ j.toNat)) :=
  opI fun _ _ _ _ _ _ _ hc q => pow_int hc.1 hc.2 q
/-- data that repr shows: short leaves, no dict -/
structure Shows (d : PyData) : Prop where
  short : d.leavesShort 13 = true
  sh : d.showable = true
  nd : d.hasDict = false
  dp : d.depth ≤ 60
  wt : d.weight ≤ 2 ^ 20
def rRepr (K : PySem.W.Frag) : List V → Hp → VK → Prop := fun xs H Q =>
  ∃ a d, xs = [.ref a] ∧ Dp K H (.ref a) d ∧ Shows d ∧ Q (.str d.shown) H
theorem call_repr (hg : X.A.guards = some []) (hu : X.A.units + 64 < cLine) : CallR X (.builtin "repr") (rRepr X.K) := by
  intro pins s σ H xs us Q I r h
  obtain ⟨a, d, rfl, hd, S, q⟩ := h
  cases r with
  | cons r1 r2 =>
    cases r2
    obtain ⟨as, rd⟩ := Dp.reads I d _ _ hd r1
    cases r1
    have hdp := S.dp
    exact repr_of_reads' rd S.sh (fun z => by rw [S.nd] at z; cases z) hg (by omega) (fun _ _ e => e)
      (fun h' u tk hk => ⟨.str _, H, I.kept hk, ⟨u, rfl⟩, q⟩) (PyData.shown_fits (by decide) (by decide) S.short S.wt)
end

/-! ### the law's call where no guard is under way -/
section
variable {P : Program} {w : World} {K : PySem.W.Frag} {mg : Str → Option Value}
/-- what the law's def keeps when the claim calls it -/
def AtTop (P : Program) (w : World) (K : PySem.W.Frag) (mg : Str → Option Value) (base : Heap) (f : Addr) (fd : FuncData) (ps : List Str) (sp : Sp) : Prop :=
  ∀ (out : List Env) (s : Shared) (H : Hp) (as : Args) (us : List Value) (vs : List V) (Q : VK),
    Env0 P w K mg base callerA out s H → BindsTo s fd as (ps.zip us) → Vals vs us → sp vs H Q E0 →
    codeAny (model P w) callerA (.call (.ref f) as) (CR CX0 out P w H s Q E0) s
theorem atTop {base : Heap} {x qual : Str} {st : Stmt} {f : Addr} {fd : FuncData} {N ps : List Str} {k : Nat} {sp : Sp} (F : Fun K x qual st f fd)
    (S : FnScope N ps (defScope st)) (hr : Room (k + 1) callerA) (len : ∀ vs H Q E, sp vs H Q E → vs.length = ps.length)
    (hbody : ∀ (cv : Value) (A : Around) (out : List Env) (s : Shared) (H : Hp) (vs : List V) (Q : VK),
      Room k (A.deeper (envOfC qual (defScope st) s.heap.objs.size f cv)) → A.guards = some [] → sp vs H Q E0 →
      ∃ t, PSs (cxOf CX0 P w K mg base N qual (defScope st) f cv A out s H E0).nox (defBody st) t ∧
        t { nx := fun _ H' => Q .non H', rt := Q } (start N vs) H) :
    AtTop P w K mg base f fd ps sp := by
  obtain ⟨oc, od, kV, doc, pm, an, cv, ct, osl, rfl, lk, hcd⟩ := F.ex
  intro out s H as us vs Q e0 hb r hsp
  have n1 := len _ _ _ _ hsp
  have same := fun (b : Addr) (o : Obj) (e : base.get? b = some o) => (e0.bs b o e).1
  have KX : K.In s.heap := e0.mod.kin.keeps same
  have lim : s.heap.NoLimit := e0.mod.nolimit.keeps same
  refine codeAny_call_function hr.depth (KX _ _ lk) rfl S.co S.gen rfl (PySem.W.codeRec_of KX hcd)
    (hb _ _ _ _ ?_)
  refine wpAny_newFunctionEnv_cells S.kind (fun y hy => ?_) (fun env he s1 x1 => ?_)
  · obtain ⟨n, v⟩ := y
    rcases S.par n (List.of_mem_zip hy).1 with q | q
    · exact Or.inl q
    · exact Or.inr ⟨q, PySem.W.cellsFrom_some _ _ _ (Or.inl q)⟩
  · subst he
    refine ⟨lim.keeps x1.toInCall.keep, codeAny_func ?_⟩
    obtain ⟨t, ht, hq⟩ := hbody cv callerA out s H vs Q (hr.deeper _) rfl hsp
    have I := inv_start (CX := CX0) (E := E0) (mg := mg) (base := base) (K := K) S hr.hd e0 n1 r x1
    refine wpAny_mono (ht.nox.run [] s1 (start N vs) H _ I hq) (fun fl s' hs => ?_) (fun e s' hs => hs)
    cases fl with
    | ret u =>
      obtain ⟨v, σ2, H2, J, rv, q⟩ := hs
      exact ⟨v, H2, J.os, J.bare, J.base, J.hok, rv, q⟩
    | next =>
      obtain ⟨σ2, H2, J, q⟩ := hs
      exact ⟨V.non, H2, J.os, J.bare, J.base, J.hok, rfl, q⟩
    | brk => exact hs.choose_spec.choose_spec.2.elim
    | cont => exact hs.choose_spec.choose_spec.2.elim
/-- the row, from what the law's def keeps at the top -/
theorem top_call {mb : Str → Option Value} {fa a : Addr} {fd : FuncData} {x : Str} {sp : Sp} {s₁ : Shared} {vs : List Value} {ns : List Int}
    (KX : K.In s₁.heap) (hm : s₁.heap.Ns mainGlobals mg) (hb : s₁.heap.Ns builtinsNs mb) (hbb : ∀ x : Str, x ≠ "__name__" → mb x = bootBuiltins x)
    (hlim : s₁.heap.NoLimit) (hg : s₁.gens = #[]) (ha : s₁.heap.get? a = some { cls := .type "list", data := .seq vs.toArray }) (hi : IntsAre vs ns) (hl : ns.length ≤ sizeLine)
    (F : ∀ base : Heap, K.In base → base.Ns mainGlobals mg → AtTop P w K mg base fa fd [x] sp) (hbind : ∀ (s : Shared) (u : Value), BindsTo s fd ⟨[u], []⟩ [(x, u)])
    (hsp : ∀ H : Hp, Only H → SqL K H a (ns.map V.int) → sp [.ref a] H (fun v _ => v = .bl true) E0) :
    codeAny (model P w) callerA (.call (.ref fa) ⟨[.ref a], []⟩)
      (fun r s' => r = .ok (.ret (.bool true)) ∧ OldK s₁.heap s'.heap ∧ s'.os = s₁.os ∧ AllBare s'.gens) s₁ := by
  have rv := vals_ints hi
  have go : ∀ H : Hp, Only H → SqL K H a (ns.map V.int) → HOk P w H s₁.heap → (∀ b, H b ≠ none → b = a) → (H a ≠ none → K.lookup a = none) →
      codeAny (model P w) callerA (.call (.ref fa) ⟨[.ref a], []⟩)
        (fun r s' => r = .ok (.ret (.bool true)) ∧ OldK s₁.heap s'.heap ∧ s'.os = s₁.os ∧ AllBare s'.gens) s₁ := by
    intro H hO hS hok hA hK
    have at1 : ∀ {b : Addr}, b ≠ a → H b = none := fun {b} ne => by
      cases q : H b with
      | none => rfl
      | some u => exact absurd (hA b (by rw [q]; simp)) ne
    have dictOut : ∀ {b : Addr} {m : Str → Option Value}, s₁.heap.Ns b m → (hidT s₁.heap H).Ns b m := fun {b m} N => by
      obtain ⟨o, es, ep, e, d, r⟩ := N
      refine ⟨o, es, ep, hidT_get e (at1 fun q => ?_), d, r⟩
      subst q
      rw [ha] at e
      cases e
      exact (nomatch (show Data.seq vs.toArray _ = Data.dict es ep from d))
    have kin : K.In (hidT s₁.heap H) := fun b o e => hidT_get (KX b o e) (by
      cases q : H b with
      | none => rfl
      | some u =>
        have z : b = a := hA b (by rw [q]; simp)
        subst z
        rw [hK (by rw [q]; simp)] at e
        cases e)
    obtain ⟨mc, l1, l2⟩ := hlim
    have hM : Mod K mg (hidT s₁.heap H) := ⟨kin, dictOut hm, ⟨mb, dictOut hb, hbb⟩, ⟨mc, dictOut l1, l2⟩⟩
    have e0 : Env0 P w K mg (hidT s₁.heap H) callerA [] s₁ H :=
      ⟨rfl, hM, fun b o e => of_hidT e, Nat.le_of_eq (hidT_size _ _), trivial, fun b hb => (List.not_mem_nil (show b ∈ ([] : List Addr) from hb)).elim, hok, .of_eq hg⟩
    refine codeAny_mono (F _ kin (dictOut hm) [] s₁ H ⟨[.ref a], []⟩ [.ref a] [.ref a] _ e0 (hbind s₁ (.ref a)) (.cons rfl .nil) (hsp H hO hS)) (fun r s' h => ?_)
    match r, h with
    | .error e, h => exact h.elim
    | .ok .next, h => exact h.elim
    | .ok .brk, h => exact h.elim
    | .ok .cont, h => exact h.elim
    | .ok (.ret u), h =>
      obtain ⟨v, H2, os, bare, un, hok2, rl, q⟩ := h
      have q : v = .bl true := q
      subst q
      obtain rfl : u = Value.bool true := rl
      refine ⟨rfl, OldK.of_keep fun b o e => ?_, os, bare⟩
      rcases hO b with z | ⟨ob, xs, z⟩
      · exact un.keep b o e z (fun y => (List.not_mem_nil (show b ∈ ([] : List Addr) from y)).elim) (by simp)
      · obtain ⟨e1, _⟩ := hok b _ z
        obtain ⟨e2, _⟩ := hok2 b _ (un.frzs b ob _ z)
        rw [e] at e1
        cases e1
        exact e2
  cases hk : K.lookup a with
  | some o =>
    have e := KX a o hk
    rw [ha] at e
    cases e
    exact go (fun _ => none) (fun _ => Or.inl rfl) (Or.inr ⟨_, vs.toArray, _, hk, rfl, rfl, rfl, by rw [List.size_toArray, hi.length]; exact hl, by simpa using rv⟩)
      (fun b u z => nomatch (show (none : Option HO) = some u from z)) (fun b z => absurd rfl z) (fun z => absurd rfl z)
  | none =>
    let o : HO := .frz { cls := .type "list", data := .seq vs.toArray } (.lst (ns.map V.int))
    refine go (fun b => if b = a then some o else none) (fun b => ?_) (Or.inl (Or.inr ⟨_, if_pos rfl⟩)) (fun b u z => ?_) (fun b z => ?_) (fun _ => hk)
    · by_cases c : b = a
      · exact Or.inr ⟨_, _, if_pos c⟩
      · exact Or.inl (if_neg c)
    · by_cases c : b = a
      · have z2 := (if_pos c).symm.trans z
        cases z2
        subst c
        exact ⟨ha, by rw [List.length_map]; exact hl, vs, _, rv, ha⟩
      · exact nomatch (if_neg c).symm.trans z
    · by_cases c : b = a
      · exact c
      · exact absurd (if_neg c) z
end
theorem top_walk {l : PySem.W.OpenLaw} {n : Nat} {q : Program} {loose : List Str} {XP : (Str → Option Value) → Heap → Prop} {YP : World → Heap → Prop} {d : DefRec} {K : Params → PySem.W.Frag} {sp : PySem.W.Frag → Sp} {x : Str}
    (hn : l.most = some n) (hn2 : n ≤ sizeLine) (hdf : d.params.defaults = []) (hY : ∀ (w : World) (h : Heap), YP w h → (K w.params).In h)
    (F : ∀ (w : World) (mg : Str → Option Value) (fa : Addr) (h : Heap), (K w.params).In h → h.Ns mainGlobals mg → mg d.name = some (.ref fa) →
      ∃ fd : FuncData, (∀ (s : Shared) (u : Value), BindsTo s fd ⟨[u], []⟩ [(x, u)]) ∧
        ∀ base : Heap, (K w.params).In base → base.Ns mainGlobals mg → AtTop l.prog w (K w.params) mg base fa fd [x] (sp (K w.params)))
    (hsp : ∀ (K : PySem.W.Frag) (H : Hp) (a : Addr) (ns : List Int), ns.length ≤ n → (∀ z ∈ ns, Builtin.Int.intBits z ≤ 1048576) → Only H → SqL K H a (ns.map V.int) → sp K [.ref a] H (fun v _ => v = .bl true) E0) :
    PySem.W.WalkO q loose XP YP l.row.toRowW d [] (fun f vs => PySem.call f vs) := by
  refine Att.attach_callB hn hdf (fun w s₀ s₁ mg mb fa o pm cd doc a vs ns G Y _ _ _ hmg hobj hints hlen hbits hg => ?_)
  have KX := hY w _ Y
  obtain ⟨fd, hb, hF⟩ := F w mg fa _ KX G.T.g hmg
  exact top_call KX G.T.g G.T.b G.T.builtins G.T.nolimit hg hobj hints (Nat.le_trans hlen hn2) hF hb
    (fun H hO hS => hsp _ H a ns hlen hbits hO hS)
end Sk

set_option Elab.async false
set_option maxRecDepth 100000
set_option maxHeartbeats 4000000
namespace Sk
open PySem L2 PyProof.Rows
/-! ### heaps: all stands but the urn -/
def Mo (u : Addr) (H H' : Hp) : Prop := ∀ b o, b ≠ u → H b = some o → H' b = some o
theorem Mo.refl (u : Addr) (H : Hp) : Mo u H H := fun _ _ _ h => h
theorem Mo.trans {u : Addr} {H H1 H2 : Hp} (a : Mo u H H1) (b : Mo u H1 H2) : Mo u H H2 := fun c o n h => b c o n (a c o n h)
theorem Mo.new {u p : Addr} {H : Hp} {o : HO} (h : H p = none) : Mo u H (upd H p o) := fun b q _ e => by
  rw [upd_ne (ne_of_none e h)]
  exact e
theorem Mo.at {u : Addr} {H : Hp} {o : HO} : Mo u H (upd H u o) := fun b q n e => by
  rw [upd_ne n]
  exact e
theorem Mo.add {u p : Addr} {H H1 : Hp} {o : HO} (a : Mo u H H1) (h : H1 p = none) : Mo u H (upd H1 p o) := a.trans (.new h)
theorem Mo.same {u : Addr} {H H1 : Hp} (a : Mo u H H1) (h : Same H1 H) : True := trivial
theorem Same.mo {u : Addr} {H H1 : Hp} (a : Same H H1) : Mo u H H1 := fun b o _ e => a b o e
def urnO (dg mx : Int) : HO := .dK [(Sum.inr "digits", .int dg), (Sum.inr "mixed", .int mx)]
def Urn (H : Hp) (u : Addr) : Prop := ∃ dg mx : Int, H u = some (urnO dg mx) ∧ 0 ≤ dg ∧ 0 ≤ mx ∧ mx < 2 ^ 32
theorem Urn.new {H : Hp} {u p : Addr} {o : HO} (U : Urn H u) (h : H p = none) : Urn (upd H p o) u := by
  obtain ⟨dg, mx, e, r⟩ := U
  exact ⟨dg, mx, by rw [upd_ne (ne_of_none e h)]; exact e, r⟩
theorem Urn.ne {H : Hp} {u p : Addr} {o : HO} (U : Urn H u) (h : H p = some o) (hk : ∀ kvs, o ≠ .dK kvs) : p ≠ u := fun q => by
  obtain ⟨dg, mx, e, r⟩ := U
  subst q
  rw [h] at e
  exact hk _ (Option.some.inj e)
theorem Urn.neL {H : Hp} {u p : Addr} {xs : List V} (U : Urn H u) (h : H p = some (.lst xs)) : p ≠ u := U.ne h (fun _ z => by cases z)
theorem Urn.neT {H : Hp} {u p : Addr} {xs : List V} (U : Urn H u) (h : H p = some (.tup xs)) : p ≠ u := U.ne h (fun _ z => by cases z)
theorem Urn.lst {H H' : Hp} {u p : Addr} {xs : List V} (U : Urn H u) (m : Mo u H H') (h : H p = some (.lst xs)) : H' p = some (.lst xs) := m _ _ (U.neL h) h
theorem Urn.tup {H H' : Hp} {u p : Addr} {xs : List V} (U : Urn H u) (m : Mo u H H') (h : H p = some (.tup xs)) : H' p = some (.tup xs) := m _ _ (U.neT h) h
theorem Mo.sqL {K : PySem.W.Frag} {u a : Addr} {xs : List V} {H H' : Hp} (m : Mo u H H') (U : Urn H u) (h : SqL K H a xs) : SqL K H' a xs := by
  have ne : ∀ o, H a = some o → (∀ kvs, o ≠ .dK kvs) → a ≠ u := fun o e k => U.ne e k
  rcases h with (h | ⟨o, h⟩) | h
  · exact .inl (.inl (m _ _ (ne _ h (fun _ z => by cases z)) h))
  · exact .inl (.inr ⟨o, m _ _ (ne _ h (fun _ z => by cases z)) h⟩)
  · exact .inr h

/-! ### what the drawing defs keep -/
def spDraw : Sp := fun vs H Q _ => ∃ (u : Addr) (n : Int), vs = [.ref u, .int n] ∧ Urn H u ∧ 1 ≤ n ∧ n < 536870912 ∧
  ∀ (r : Int) (H' : Hp), 0 ≤ r → r < n → Urn H' u → Mo u H H' → Q (.int r) H'
def spChoose : Sp := fun vs H Q _ => ∃ (u l : Addr) (xs : List V), vs = [.ref u, .ref l] ∧ Urn H u ∧ H l = some (.lst xs) ∧ 1 ≤ xs.length ∧ xs.length ≤ 1000 ∧
  ∀ (x : V) (H' : Hp), x ∈ xs → Urn H' u → Mo u H H' → Q x H'
def spUrn (K : PySem.W.Frag) : Sp := fun vs H Q _ => ∃ (a : Addr) (st : Nat) (ns : List Int), vs = [.ref a, .int (st : Int)] ∧ SqL K H a (ns.map V.int) ∧ st ≤ 100 ∧
  (∀ z ∈ ns, Builtin.Int.intBits z ≤ 1048576) ∧ ∀ (u : Addr) (H' : Hp), H u = none → Same H H' → Urn H' u → Q (.ref u) H'

/-! ### flat data -/
def toD : V → PyData
  | .int i => .int i
  | .str z => .str z
  | .bl b => .bool b
  | _ => .none
def flatB : V → Bool
  | .int i => decide (i.natAbs < 1000000000000)
  | .str z => decide (z.cps.size ≤ 20) && z.cps.toList.all (fun c => decide (c < 1000))
  | .bl _ | .non => true
  | _ => false
abbrev Flat (v : V) : Prop := flatB v = true
theorem dp_flat {K : PySem.W.Frag} {H : Hp} : ∀ {v : V}, Flat v → Dp K H v (toD v)
  | .int i, _ => .int i
  | .str z, _ => .str z
  | .bl b, _ => .bl b
  | .non, _ => .non
  | .ref _, h => by cases h
  | .ty _, h => by cases h
  | .byt _, h => by cases h
  | .flt _, h => by cases h
theorem dpAll_flat {K : PySem.W.Frag} {H : Hp} : ∀ {xs : List V}, (∀ x ∈ xs, Flat x) → DpAll K H xs (xs.map toD)
  | [], _ => .nil
  | x :: xs, h => .cons (dp_flat (h x List.mem_cons_self)) (dpAll_flat fun y hy => h y (List.mem_cons_of_mem _ hy))
theorem log_le {n : Nat} (h : n < 1000000000000) : n.log2 < 40 := by
  by_cases z : n = 0
  · subst z; decide
  · exact (Nat.log2_lt z).mpr (Nat.lt_of_lt_of_le h (by decide))
theorem flat_leaf : ∀ {v : V}, Flat v → (toD v).leavesShort 13 = true ∧ (toD v).showable = true ∧ (toD v).hasDict = false ∧ (toD v).depth = 0 ∧ (toD v).weight ≤ 40
  | .int i, h => by
    have h' : i.natAbs < 1000000000000 := of_decide_eq_true h
    have hl := log_le h'
    refine ⟨?_, ?_, rfl, rfl, ?_⟩
    · show PyData.leavesShort 13 (.int i) = true
      simp only [PyData.leavesShort, decide_eq_true_eq]
      exact PyData.shown_int_le h'
    · show PyData.showable (.int i) = true
      simp only [PyData.showable, decide_eq_true_eq]
      omega
    · show PyData.weight (.int i) ≤ 40
      simp only [PyData.weight]
      split <;> omega
  | .str z, h => by
    have h' : z.cps.size ≤ 20 ∧ ∀ c ∈ z.cps.toList, c < 1000 := by
      have h0 : (decide (z.cps.size ≤ 20) && z.cps.toList.all (fun c => decide (c < 1000))) = true := h
      simp only [Bool.and_eq_true, List.all_eq_true, decide_eq_true_eq] at h0
      exact h0
    refine ⟨?_, ?_, rfl, rfl, ?_⟩
    · show PyData.leavesShort 13 (.str z) = true
      simp only [PyData.leavesShort, List.all_eq_true, decide_eq_true_eq]
      intro c hc
      have := h'.2 c hc
      have e : (16 : Nat) ^ 8 = 4294967296 := by decide
      omega
    · show PyData.showable (.str z) = true
      simp only [PyData.showable]
    · show PyData.weight (.str z) ≤ 40
      simp only [PyData.weight]
      omega
  | .bl b, _ => ⟨by show PyData.leavesShort 13 (.bool b) = true; simp only [PyData.leavesShort], by show PyData.showable (.bool b) = true; simp only [PyData.showable], rfl, rfl, by show PyData.weight (.bool b) ≤ 40; simp only [PyData.weight]; omega⟩
  | .non, _ => ⟨by show PyData.leavesShort 13 .none = true; simp only [PyData.leavesShort], by show PyData.showable .none = true; simp only [PyData.showable], rfl, rfl, by show PyData.weight .none ≤ 40; simp only [PyData.weight]; omega⟩
  | .ref _, h => by cases h
  | .ty _, h => by cases h
  | .byt _, h => by cases h
  | .flt _, h => by cases h
theorem flat_all : ∀ {xs : List V}, (∀ x ∈ xs, Flat x) → PyData.leavesShortAll 13 (xs.map toD) = true ∧ PyData.showableAll (xs.map toD) = true ∧ PyData.hasDictAll (xs.map toD) = false ∧ PyData.depthAll (xs.map toD) = 0 ∧ PyData.weightAll (xs.map toD) ≤ 41 * xs.length
  | [], _ => ⟨by simp only [List.map_nil, PyData.leavesShortAll], by simp only [List.map_nil, PyData.showableAll], rfl, rfl, by simp only [List.map_nil, PyData.weightAll]; omega⟩
  | x :: xs, h => by
    obtain ⟨a1, a2, a3, a4, a5⟩ := flat_leaf (h x List.mem_cons_self)
    obtain ⟨b1, b2, b3, b4, b5⟩ := flat_all (xs := xs) fun y hy => h y (List.mem_cons_of_mem _ hy)
    refine ⟨?_, ?_, ?_, ?_, ?_⟩
    · simp only [List.map_cons, PyData.leavesShortAll, a1, b1, Bool.and_self]
    · simp only [List.map_cons, PyData.showableAll, a2, b2, Bool.and_self]
    · simp only [List.map_cons, PyData.hasDictAll, a3, b3, Bool.or_self]
    · simp only [List.map_cons, PyData.depthAll, a4, b4, Nat.max_self]
    · simp only [List.map_cons, PyData.weightAll, List.length_cons]
      omega
theorem shows_lst {xs : List V} (h : ∀ x ∈ xs, Flat x) (hl : xs.length ≤ 1000) : Shows (.list (xs.map toD)) := by
  obtain ⟨b1, b2, b3, b4, b5⟩ := flat_all h
  exact ⟨by simp only [PyData.leavesShort]; exact b1, by simp only [PyData.showable]; exact b2, by simp only [PyData.hasDict]; exact b3, by simp only [PyData.depth]; omega, by simp only [PyData.weight]; omega⟩
theorem shows_tup {xs : List V} (h : ∀ x ∈ xs, Flat x) (hl : xs.length ≤ 1000) : Shows (.tuple (xs.map toD)) := by
  obtain ⟨b1, b2, b3, b4, b5⟩ := flat_all h
  exact ⟨by simp only [PyData.leavesShort]; exact b1, by simp only [PyData.showable]; exact b2, by simp only [PyData.hasDict]; exact b3, by simp only [PyData.depth]; omega, by simp only [PyData.weight]; omega⟩
/-- repr of a list, of a tuple of flat things -/
theorem repr_l {K : PySem.W.Frag} {H : Hp} {Q : VK} {a : Addr} {xs : List V} (hs : H a = some (.lst xs)) (h : ∀ x ∈ xs, Flat x) (hl : xs.length ≤ 1000)
    (q : Q (.str (PyData.list (xs.map toD)).shown) H) : rRepr K [.ref a] H Q := ⟨a, _, rfl, .lst (.of hs) (dpAll_flat h), shows_lst h hl, q⟩
theorem repr_t {K : PySem.W.Frag} {H : Hp} {Q : VK} {a : Addr} {xs : List V} (hs : H a = some (.tup xs)) (h : ∀ x ∈ xs, Flat x) (hl : xs.length ≤ 1000)
    (q : Q (.str (PyData.tuple (xs.map toD)).shown) H) : rRepr K [.ref a] H Q := ⟨a, _, rfl, .tup (.of hs) (dpAll_flat h), shows_tup h hl, q⟩
theorem intBits_lt {i : Int} {n : Nat} (h : i.natAbs < 2 ^ n) : Builtin.Int.intBits i ≤ n := by
  unfold Builtin.Int.intBits
  split
  · omega
  · rename_i z
    have z' : i.natAbs ≠ 0 := by
      intro q
      apply z
      have : i = 0 := by omega
      simp [this]
    have := (Nat.log2_lt z').mpr h
    omega
end Sk

set_option Elab.async false
set_option maxRecDepth 100000
set_option maxHeartbeats 4000000
namespace Sk
open PySem L2 PyProof.Rows PySem.Froz
/-! ### a set of texts: its members as a list without repetition -/
def keyTx (e : Int × Value) : Str := strOf e.2
structure TxAt (P : Program) (w : World) (D : SD) (l : List Str) : Prop where
  ok : TxOk P w D l
  perm : (D.1.toList.map keyTx).Perm l
  str : ∀ e ∈ D.1.toList, ∃ k t, e.2 = Value.str k t
  nd : l.Nodup
  ris : Ris D.2.2.place.toList
  led : w.params.followText "set-order" = true ∨ D.2.2.led = true
def TxIn (P : Program) (w : World) (h : Heap) (a : Addr) (l : List Str) : Prop := ∃ D : SD, h.get? a = some (sObj "set" D) ∧ TxAt P w D l
theorem TxIn.at {P : Program} {w : World} {h h' : Heap} {a : Addr} {l : List Str} (R : TxIn P w h a l) (k : ∀ o, h.get? a = some o → h'.get? a = some o) : TxIn P w h' a l := by
  obtain ⟨D, e, r⟩ := R
  exact ⟨D, k _ e, r⟩
section
variable {P : Program} {w : World}
theorem tailTx_all (ep : Nat) (es : Array (Int × Value)) (t : SetTable) (wd : Bool) (r : Ris t.place.toList) :
    (tailTx ep es t wd).1.toList.Perm es.toList ∧ Ris (tailTx ep es t wd).2.2.place.toList ∧ (tailTx ep es t wd).2.2.led = t.led := by
  unfold tailTx
  by_cases c : (!wd && t.tooFull) = true
  · rw [if_pos c]
    exact ⟨relayAll_perm _ _ _, relayAll_ris _ _ _, relayAll_led _ _ _⟩
  · rw [if_neg c]
    exact ⟨.refl _, r, rfl⟩
theorem addTx_all (x : Int) (v : Value) (D : SD) (r : Ris D.2.2.place.toList) :
    (addTx x v D).1.toList.Perm (D.1.toList ++ [(x, v)]) ∧ Ris (addTx x v D).2.2.place.toList ∧ (addTx x v D).2.2.led = D.2.2.led := by
  have p := layNew_perm D.2.2 D.1 x v
  rw [Array.toList_push] at p
  have q := layNew_ris D.2.2 D.1 x v r
  have z := layNew_led D.2.2 D.1 x v
  unfold addTx
  by_cases c : (layNew D.2.2 D.1 x v).2.1.plain = true
  · rw [if_pos c]
    obtain ⟨t1, t2, t3⟩ := tailTx_all D.2.1 (layNew D.2.2 D.1 x v).1 { (layNew D.2.2 D.1 x v).2.1 with plain := false } (layNew D.2.2 D.1 x v).2.2.1 q
    exact ⟨t1.trans p, t2, t3.trans z⟩
  · rw [if_neg c]
    obtain ⟨t1, t2, t3⟩ := tailTx_all D.2.1 (layNew D.2.2 D.1 x v).1 (layNew D.2.2 D.1 x v).2.1 (layNew D.2.2 D.1 x v).2.2.1 q
    exact ⟨t1.trans p, t2, t3.trans z⟩
theorem TxAt.new {D : SD} {l : List Str} {k : Str} (u : Tok) (R : TxAt P w D l) (hk : k ∉ l) : TxAt P w (addTx (hashStr w k) (.str k u) D) (k :: l) := by
  obtain ⟨p, r2, l2⟩ := addTx_all (hashStr w k) (.str k u) D R.ris
  refine ⟨add_ok u R.ok, ?_, fun e he => ?_, List.nodup_cons.mpr ⟨hk, R.nd⟩, r2, ?_⟩
  · have q := p.map keyTx
    rw [List.map_append] at q
    exact (q.trans List.perm_append_comm).trans (R.perm.cons k)
  · rcases List.mem_append.mp (p.mem_iff.mp he) with z | z
    · exact R.str e z
    · rw [List.mem_singleton.mp z]
      exact ⟨k, u, rfl⟩
  · rw [l2]
    exact R.led
/-- the members with one more -/
def plus (k : Str) (l : List Str) : List Str := if k ∈ l then l else k :: l
theorem mem_plus {k x : Str} {l : List Str} : x ∈ plus k l ↔ x = k ∨ x ∈ l := by
  unfold plus
  split
  · rename_i h
    exact ⟨Or.inr, fun q => q.elim (fun e => e ▸ h) id⟩
  · exact List.mem_cons
variable {A : Around} {E : Value → Shared → Prop} {s : Shared} {a : Addr} {l : List Str}
theorem tx_add {k : Str} {u : Tok} {Q : Value → Shared → Prop} (R : TxIn P w s.heap a l) (room : l.length + 1 < scanBound)
    (hQ : ∀ h', (∀ b o, b ≠ a → s.heap.get? b = some o → h'.get? b = some o) → TxIn P w h' a (plus k l) → Q .none { s with heap := h', toks := s.toks + 1 }) :
    wpAny (model P w) A (call (.builtin "set.add") [.ref a, .str k u]) Q E s := by
  obtain ⟨⟨es, ep, t⟩, ho, R⟩ := R
  have key : (strKind P w).is k (.str k u) = true := is_str k u
  have ty : s.TypeIs (.ref a) "set" := ⟨_, ho, rfl⟩
  refine wpAny_call_entry F.slot_set_add ty F.entry_set_add ?_ (F.args_set_add_2 _ _)
  unfold Builtin.«set.add» Builtin.Frozenset.oneOther Builtin.Frozenset.addrOf setAdd
  simp only [List.isEmpty_nil, bind_assoc]
  refine wpAny_bind (wpAny_pure ?_); try dsimp only
  refine wpAny_bind (wpAny_pure ?_); try dsimp only
  refine wpAny_bind (wpAny_holding (wpAny_bind ((strKind P w).pyHash key ?_)))
  by_cases hk : k ∈ l
  · -- it is there
    have el : ElemsOf (strKind P w) es.toList := R.ok.el
    have fit : t.fits es.size = true := R.ok.fit
    have sz : es.size < scanBound := by
      have := R.ok.sz
      dsimp only at this
      omega
    have hd : (sObj "set" (es, ep, t)).data = .set es ep t := rfl
    obtain ⟨e, he, hq⟩ := (R.ok.mem k).mp hk
    unfold setAddHashed setAddHashedIn
    refine wpAny_holding (wpAny_bind (wpAny_setState_of (s := { s with toks := s.toks + 1 }) ho hd fit ?_))
    dsimp only
    rw [byScan_of rfl sz el]
    simp only [↓reduceIte]
    unfold setAddByScan
    refine wpAny_bind (wpAny_bind (wpAny_rule (wpAny_bind (wpAny_setScan_of (knd := strKind P w) (k := k) key ho hd fit el ?_))))
    cases c : List.findIdx? (fun e => (strKind P w).is k e.2) es.toList with
    | none =>
      have z := List.findIdx?_eq_none_iff.mp c e he
      rw [hq] at z
      cases z
    | some j =>
      dsimp only
      have q := hQ s.heap (fun _ _ _ e => e) (by unfold plus; rw [if_pos hk]; exact ⟨_, ho, R⟩)
      first
        | exact wpAny_pure (wpAny_pure (wpAny_pure ⟨_, rfl, q⟩))
        | (refine wpAny_pure (wpAny_pure ?_); show wpAny _ _ (ret Value.none) _ _ _; exact wpAny_pure ⟨_, rfl, q⟩)
  · refine add_x (s := { s with toks := s.toks + 1 }) ho R.ok hk room ?_
    show wpAny _ _ (ret Value.none) _ _ _
    refine wpAny_pure ⟨_, rfl, hQ _ (fun b o n e => ?_) ⟨_, get_upd _ ho rfl, by unfold plus; rw [if_neg hk]; exact R.new u hk⟩⟩
    rw [Heap.get?_update_other _ _ (Ne.symm n)]
    exact e
theorem strs_of : ∀ (vs : List Value), (∀ v ∈ vs, ∃ k t, v = Value.str k t) → StrsAre vs (vs.map strOf)
  | [], _ => .nil
  | v :: vs, h => by
    obtain ⟨k, t, rfl⟩ := h v List.mem_cons_self
    exact .cons k t (strs_of vs fun x hx => h x (List.mem_cons_of_mem _ hx))
/-- sorted of such a set -/
theorem tx_sorted {Q : Value → Shared → Prop} (R : TxIn P w s.heap a l) (hh : A.handled = none) (hl : l.length < scanBound)
    (hQ : ∀ (s' : Shared) (p : Addr) (out : Array Value) (c : Nat) (ks : List Str), (∀ b o, s.heap.get? b = some o → s'.heap.get? b = some o) → s'.gens = s.gens → s'.os = s.os → s.heap.objs.size ≤ p →
      s'.heap.get? p = some (seqObj "list" out c) → StrsAre out.toList ks → ks.Perm l → sortedS ks = true → Q (.ref p) s') :
    wpAny (model P w) A (call (.builtin "sorted") [.ref a]) Q E s := by
  obtain ⟨⟨es, ep, t⟩, ho, R⟩ := R
  have sz0 : es.size = l.length := R.ok.sz
  have sz : es.size < scanBound := by omega
  have hA : SetAt s.heap a es ep t := ⟨_, ho, rfl, rfl⟩
  refine Calls.call_function_entry kind_sorted plain_sorted entry_sorted (args_sorted1 _) ?_
  unfold Builtin.«sorted»
  refine wpAny_bind (m := checkCount "sorted" 1 1 _) (wpAny_pure (wpAny_bind (collect_set (A := A.in1) hh hA R.ok.fit sz R.ris R.led fun s1 vs k1 hz g1 o1 pm => ?_)))
  have hv : ∀ v ∈ vs, ∃ k t, v = Value.str k t := fun v m => by
    obtain ⟨e, he, q⟩ := List.mem_map.mp (pm.mem_iff.mp m)
    obtain ⟨k, t, h1⟩ := R.str e he
    exact ⟨k, t, by rw [← q]; exact h1⟩
  have hS := strs_of vs hv
  have hlen : vs.length ≤ sizeLine := by
    rw [pm.length_eq, List.length_map, Array.length_toList]
    exact fits_of_scanBound sz
  have pl : (vs.map strOf).Perm l := by
    have q := pm.map strOf
    rw [List.map_map] at q
    exact q.trans R.perm
  refine wpAny_bind (wpAny_newList ?_ hlen)
  have hL : (s1.heap.push (seqObj "list" vs.toArray 0)).get? s1.heap.objs.size = some (seqObj "list" vs.toArray 0) := Heap.get?_push_size _ rfl
  refine wpAny_bind (wpAny_holding (wpAny_call_entry slot_list_sort ⟨_, hL, rfl⟩ entry_list_sort
    (list_sort_treeKAny strKind_oneLt hL hS.keysOf (fun v₁ v₂ rest e => keyKind_strs (by rw [← e]; exact hS)) hlen fun st' a1 a2 => ⟨_, rfl, ?_⟩) (args_list_sort _)))
  obtain ⟨ks, b1, b2, b3⟩ := sorted_out_str hS a1 a2
  obtain ⟨c, hc⟩ := sortedHeap_at (vs := vs) (out := (arrOf st').map (·.2)) hL
  refine wpAny_pure ⟨_, rfl, hQ _ _ _ c ks (fun b u e => ?_) g1 o1 hz hc b1 (b2.trans pl) b3⟩
  have q := k1 b u e
  have lt := Heap.lt_size q
  show (sortedHeap (s1.heap.push (seqObj "list" vs.toArray 0)) s1.heap.objs.size vs _).get? b = some u
  rw [sortedHeap_old (Nat.ne_of_lt lt) (by rw [size_push']; exact Nat.lt_succ_of_lt lt)]
  exact Heap.get?_push_of_some _ q
end
end Sk

set_option Elab.async false
set_option maxRecDepth 100000
set_option maxHeartbeats 4000000
namespace Sk
open PySem PySem.Spec L2 PyProof.Rows
/-! ### what a set comprehension gathers -/
abbrev bareSet (w : World) : Obj := { cls := .type "set", dict := none, data := .set #[] 0 (.fresh 0 0 (!w.params.followText "set-order")) }
structure Coll (P : Program) (w : World) (τ : Type) where
  so : Addr → τ → HO
  z : τ
  can : V → τ → τ → Prop
  fresh : ∀ (H : Hp) (h : Heap), ObjOk P w H (h.push (bareSet w)) h.objs.size (so h.objs.size z)
  add : ∀ (X : Cx), X.prog = P → X.w = w → ∀ (pins : List (Addr × Obj)) (σ : L2.St) (H : Hp) (s : Shared) (D : Addr) (t t' : τ) (y : V) (v : Value) (Q E : Value → Shared → Prop),
    Inv X pins σ H s → H D = some (so D t) → RelV y v → can y t t' → (∀ s', Inv X pins σ (upd H D (so D t')) s' → Q Value.none s') →
    wpAny (model P w) X.A (call (.builtin "set.add") [.ref D, v]) Q E s
def TxO (P : Program) (w : World) (a : Addr) (l : List Str) : HO := .ext fun h => TxIn P w h a l
theorem txO_ok {P : Program} {w : World} {H : Hp} {h : Heap} {a : Addr} {l : List Str} (R : TxIn P w h a l) : ObjOk P w H h a (TxO P w a l) := by
  obtain ⟨D, e, r⟩ := id R
  exact ⟨R, ⟨_, e⟩, fun _ _ q k => TxIn.at q k⟩
theorem txIn_fresh {P : Program} {w : World} (h : Heap) : TxIn P w (h.push (bareSet w)) h.objs.size [] :=
  ⟨(#[], 0, .fresh 0 0 (!w.params.followText "set-order")), Heap.get?_push_size _ rfl, ⟨Froz.TxOk.nil (by rfl), .refl _, (fun e he => by simp at he), List.nodup_nil, List.Pairwise.nil, by
    cases c : w.params.followText "set-order" with
    | true => exact Or.inl rfl
    | false => exact Or.inr rfl⟩⟩
/-- texts -/
def texts (P : Program) (w : World) : Coll P w (List Str) where
  so := TxO P w
  z := []
  can := fun y l l' => ∃ k, y = .str k ∧ l.length + 1 < scanBound ∧ l' = plus k l
  fresh := fun _ h => txO_ok (txIn_fresh h)
  add := by
    rintro X rfl rfl pins σ H s D t t' y v Q E I hD r ⟨k, rfl, room, rfl⟩ hQ
    obtain ⟨u, rfl⟩ := r
    have R : TxIn X.prog X.w s.heap D t := (I.hok D _ hD).1
    refine tx_add R room fun h' hk new => hQ _ ?_
    refine I.write (e := D) (t' := s.toks + 1) (by rw [hD]; trivial) (.inl rfl) (fun b u hb hu => hk b u hb hu) ?_ (txO_ok new)
    obtain ⟨_, e, _⟩ := id new
    exact ⟨_, e⟩
/-- sorted(a set of texts) -/
def rSortTx (P : Program) (w : World) : List V → Hp → VK → Prop := fun vs H Q => ∃ (a : Addr) (l : List Str), vs = [V.ref a] ∧ H a = some (TxO P w a l) ∧ l.length < scanBound ∧
  ∀ (ks : List Str) (p : Addr), ks.Perm l → sortedS ks = true → l.Nodup → H p = none → Q (.ref p) (upd H p (.lst (ks.map V.str)))
theorem call_sortTx {X : Cx} (hc : X.calm = true) : CallR X (.builtin "sorted") (rSortTx X.prog X.w) := by
  rintro pins s σ H vs us Q I r ⟨a, l, rfl, ha, hl, q⟩
  have R : TxIn X.prog X.w s.heap a l := (I.hok a _ ha).1
  have nd : l.Nodup := by
    obtain ⟨_, _, z⟩ := id R
    exact z.nd
  rw [Vals.ref1 r]
  refine tx_sorted R (I.ok.hd hc) hl fun s2 p out c ks k g o hp hob hS hpm hso => ?_
  have hz : (ks.map V.str).length ≤ sizeLine := by
    rw [List.length_map, hpm.length_eq]
    exact fits_of_scanBound hl
  have n0 : H p = none := I.hok.fresh hp
  have e : s2 = { s with heap := s2.heap, gens := s2.gens, drawn := s2.drawn, toks := s2.toks } := by
    cases s2; cases s; cases o; rfl
  have J := I.call (ch := []) (H' := upd H p (.lst (ks.map V.str))) (h' := s2.heap) (g' := s2.gens) (d' := s2.drawn) (t' := s2.toks) (Un.laid k hp n0)
    (I.hok.laid k hp ⟨hz, out.toList, c, vals_of_strs hS, hob⟩) (by rw [g]; exact I.bare) (fun _ y => nomatch y)
  rw [e]
  exact ⟨.ref p, _, J, rfl, q ks p hpm hso nd n0⟩

/-! ### {elt for tg in iter}, {elt for tg in iter for tg1 in iter1} -/
section
variable {τ : Type}
def tSc1 {P : Program} {w : World} (C : Coll P w τ) (wi : TI) (g : TG) (te : TE) (vs : List Nat) : TE := fun σ H Q => wi σ H fun J H1 => ∀ D, H1 D = none →
  ∃ W : Nat → Nat → Hp → Prop, (∃ m, W 0 m (upd H1 D (C.so D C.z))) ∧ ∀ i m H, W i m H → (J.stop i H ∧ Q (.ref D) H) ∨
    (J.go i H ∧ ∃ Nx : Hp → Prop, (∀ H', Nx H' → ∃ m', m' < m ∧ W (i + 1) m' H') ∧ ∀ x H', J.yld i H x H' → g x (wipe σ vs) H' fun σ2 H2 => wipe σ2 vs = wipe σ vs ∧
      te σ2 H2 fun y H3 => ∃ t t', H3 D = some (C.so D t) ∧ C.can y t t' ∧ Nx (upd H3 D (C.so D t')))
def tSc2 {P : Program} {w : World} (C : Coll P w τ) (wi : TI) (g : TG) (wi1 : TI) (g1 : TG) (te : TE) (vs vs1 : List Nat) : TE := fun σ H Q => wi σ H fun J H1 => ∀ D, H1 D = none →
  ∃ W : Nat → Nat → Hp → Prop, (∃ m, W 0 m (upd H1 D (C.so D C.z))) ∧ ∀ i m H, W i m H → (J.stop i H ∧ Q (.ref D) H) ∨
    (J.go i H ∧ ∃ Nx : Hp → Prop, (∀ H', Nx H' → ∃ m', m' < m ∧ W (i + 1) m' H') ∧ ∀ x H', J.yld i H x H' → g x (wipe σ vs) H' fun σ2 H2 => wipe σ2 vs = wipe σ vs ∧
      wi1 σ2 H2 fun J1 H4 => ∃ W1 : Nat → Nat → Hp → Prop, (∃ m, W1 0 m H4) ∧ ∀ j k H, W1 j k H → (J1.stop j H ∧ Nx H) ∨
        (J1.go j H ∧ ∃ Nx1 : Hp → Prop, (∀ H', Nx1 H' → ∃ k', k' < k ∧ W1 (j + 1) k' H') ∧ ∀ x H', J1.yld j H x H' → g1 x (wipe σ2 vs1) H' fun σ3 H5 => wipe σ3 vs1 = wipe σ2 vs1 ∧
          te σ3 H5 fun y H6 => ∃ t t', H6 D = some (C.so D t) ∧ C.can y t t' ∧ Nx1 (upd H6 D (C.so D t'))))
end
section
variable {elt tg iter tg1 iter1 : Expr} {scope : Scope} {pos : Pos} {it acc : Value} {env : Env}
theorem turn_outer : compTurn (.SetComp elt [⟨tg, iter, [], 0⟩, ⟨tg1, iter1, [], 0⟩] scope pos) 0 it acc env = (do
    standAt iter.pos
    match ← pyNext it with
    | none => pure (.done .next)
    | some v =>
      letOwnedTupleGo tg it v
      assign tg env v
      let mut ok := true
      for c in ([] : List Expr) do
        if ok then ok ← isTrue c env (eval c env)
      if ok then
        let x ← eval iter1 env
        standAt iter1.pos
        let x ← foldedSetIterable iter1 env x
        let _ ← runOwn (.compStart (.SetComp elt [⟨tg, iter, [], 0⟩, ⟨tg1, iter1, [], 0⟩] scope pos) 1 (← holding [x] (pyIter x)) acc env) env
      again (.compLoop (.SetComp elt [⟨tg, iter, [], 0⟩, ⟨tg1, iter1, [], 0⟩] scope pos) 0 it acc env)) := by rfl
theorem turn_inner : compTurn (.SetComp elt [⟨tg, iter, [], 0⟩, ⟨tg1, iter1, [], 0⟩] scope pos) 1 it acc env = (do
    standAt iter1.pos
    match ← pyNext it with
    | none => pure (.done .next)
    | some v =>
      letOwnedTupleGo tg1 it v
      assign tg1 env v
      let mut ok := true
      for c in ([] : List Expr) do
        if ok then ok ← isTrue c env (eval c env)
      if ok then
        (do let v ← eval elt env; standAt elt.pos; let _ ← call (.builtin "set.add") [acc, v])
      again (.compLoop (.SetComp elt [⟨tg, iter, [], 0⟩, ⟨tg1, iter1, [], 0⟩] scope pos) 1 it acc env)) := by rfl
variable {prog : Program} {w : World} {A : Around} {R : Result → Shared → Prop} {s : Shared}
/-- nothing is raised: every wish of an error is False -/
theorem loop_outer (hs : ∀ x, foldedSetIterable iter1 env x = pure x) (M : Nat → Shared → Prop)
    (turn : ∀ n s, M n s → wpAny (model prog w) A (pyNext it) (fun r s1 => match r with
      | none => R (.ok .next) s1
      | some v => wpAny (model prog w) A (letOwnedTupleGo tg it v) (fun _ s2 => wpAny (model prog w) A (assign tg env v) (fun _ s3 =>
          wpAny (model prog w) A (eval iter1 env) (fun x s4 => wpAny (model prog w) A (pyIter x) (fun it1 s5 =>
            codeAny (model prog w) A (.compStart (.SetComp elt [⟨tg, iter, [], 0⟩, ⟨tg1, iter1, [], 0⟩] scope pos) 1 it1 acc env)
              (fun r s' => match r with | .ok _ => ∃ m, m < n ∧ M m s' | .error _ => False) s5)
            (fun _ _ => False) s4) (fun _ _ => False) s3) (fun _ _ => False) s2) (fun _ _ => False) s1) (fun _ _ => False) s)
    (n : Nat) (h : M n s) : codeAny (model prog w) A (.compLoop (.SetComp elt [⟨tg, iter, [], 0⟩, ⟨tg1, iter1, [], 0⟩] scope pos) 0 it acc env) R s := by
  have bad : ∀ {Z : Value → Shared → Prop} e s', (fun (_ : Value) (_ : Shared) => False) e s' → Z e s' := fun _ _ z => z.elim
  refine codeAny_loop rfl M (fun n s hM => ?_) n h
  show wpAny _ A ((compTurn _ 0 it acc env).onRaise (fun x => do noteFrame x env; theTreesLotGoes x)) _ _ s
  refine wpAny_noted ?_
  rw [turn_outer]
  refine wpAny_bind (wpAny_standAt (wpAny_bind (wpAny_mono (turn n s hM) (fun r s1 h1 => ?_) bad)))
  match r, h1 with
  | none, h1 => exact wpAny_pure h1
  | some v, h1 =>
    refine wpAny_bind (wpAny_mono h1 (fun _ s2 h2 => wpAny_bind (wpAny_mono h2 (fun _ s3 h3 => wpAny_bind (wpAny_tests_nil ?_)) bad)) bad)
    simp only [if_true]
    refine wpAny_bind (wpAny_mono h3 (fun x s4 h4 => ?_) bad)
    refine wpAny_bind (wpAny_standAt (wpAny_bind (wpAny_of_eq (hs x) (wpAny_bind (wpAny_holding (wpAny_mono h4 (fun it1 s5 h5 => wpAny_bind (wpAny_runOwn ?_)) bad))))))
    rw [Around.mark_none]
    refine codeAny_mono h5 fun r s6 hr => ?_
    match r, hr with
    | .error e, hr => exact hr.elim
    | .ok f, hr =>
      first
        | exact wpAny_pure ⟨rfl, hr⟩
        | exact wpAny_bind (wpAny_pure (wpAny_pure ⟨rfl, hr⟩))
theorem loop_inner (M : Nat → Shared → Prop)
    (turn : ∀ n s, M n s → wpAny (model prog w) A (pyNext it) (fun r s1 => match r with
      | none => R (.ok .next) s1
      | some v => wpAny (model prog w) A (letOwnedTupleGo tg1 it v) (fun _ s2 => wpAny (model prog w) A (assign tg1 env v) (fun _ s3 =>
          wpAny (model prog w) A (eval elt env) (fun x s4 => wpAny (model prog w) A (call (.builtin "set.add") [acc, x]) (fun _ s5 => ∃ m, m < n ∧ M m s5)
            (fun _ _ => False) s4) (fun _ _ => False) s3) (fun _ _ => False) s2) (fun _ _ => False) s1) (fun _ _ => False) s)
    (n : Nat) (h : M n s) : codeAny (model prog w) A (.compLoop (.SetComp elt [⟨tg, iter, [], 0⟩, ⟨tg1, iter1, [], 0⟩] scope pos) 1 it acc env) R s := by
  have bad : ∀ {Z : Value → Shared → Prop} e s', (fun (_ : Value) (_ : Shared) => False) e s' → Z e s' := fun _ _ z => z.elim
  refine codeAny_loop rfl M (fun n s hM => ?_) n h
  show wpAny _ A ((compTurn _ 1 it acc env).onRaise (fun x => do noteFrame x env; theTreesLotGoes x)) _ _ s
  refine wpAny_noted ?_
  rw [turn_inner]
  refine wpAny_bind (wpAny_standAt (wpAny_bind (wpAny_mono (turn n s hM) (fun r s1 h1 => ?_) bad)))
  match r, h1 with
  | none, h1 => exact wpAny_pure h1
  | some v, h1 =>
    refine wpAny_bind (wpAny_mono h1 (fun _ s2 h2 => wpAny_bind (wpAny_mono h2 (fun _ s3 h3 => wpAny_bind (wpAny_tests_nil ?_)) bad)) bad)
    simp only [if_true]
    exact wpAny_bind (wpAny_bind (wpAny_mono h3 (fun x s4 h4 => wpAny_bind (wpAny_standAt (wpAny_bind (wpAny_mono h4 (fun _ s5 h5 => wpAny_pure (wpAny_pure ⟨rfl, h5⟩)) bad)))) bad))
theorem start_inner (h0 : codeAny (model prog w) A (.compLoop (.SetComp elt [⟨tg, iter, [], 0⟩, ⟨tg1, iter1, [], 0⟩] scope pos) 1 it acc env) R s)
    (h : wpAny (model prog w) A (pyIter it) (fun it' s' => codeAny (model prog w) A (.compLoop (.SetComp elt [⟨tg, iter, [], 0⟩, ⟨tg1, iter1, [], 0⟩] scope pos) 1 it' acc env) R s')
      (notedBy (model prog w) A env fun x s' => R (.error x) s') s) :
    codeAny (model prog w) A (.compStart (.SetComp elt [⟨tg, iter, [], 0⟩, ⟨tg1, iter1, [], 0⟩] scope pos) 1 it acc env) R s := by
  refine codeAny_of_tree ?_
  show wpAny _ _ ((compStart _ 1 it acc env).onRaise (fun x => do noteFrame x env; standAt theWindowsPlace)) _ _ s
  refine wpAny_notedAt ?_
  unfold compStart
  show wpAny _ _ (ask >>= _) _ _ s
  refine wpAny_bind (wpAny_askSetting (wpAny_ite ?_))
  have id2 : ∀ {Z : Value → Shared → Prop} e s', Z e s' → Z e s' := fun _ _ z => z
  split
  · first | exact wpAny_bind (wpAny_pure (wpAny_pure ⟨rfl, h0⟩)) | exact wpAny_pure ⟨rfl, h0⟩
  · first
      | exact wpAny_bind (wpAny_rule (wpAny_bind (wpAny_standAt (wpAny_bind (wpAny_mono h (fun _ _ q => wpAny_pure ⟨rfl, q⟩) id2)))))
      | (refine wpAny_bind (wpAny_rule ?_); show wpAny _ _ (standAt iter1.pos >>= _) _ _ s; exact wpAny_bind (wpAny_standAt (wpAny_bind (wpAny_mono h (fun _ _ q => wpAny_pure ⟨rfl, q⟩) id2))))
end
end Sk

set_option Elab.async false
set_option maxRecDepth 100000
set_option maxHeartbeats 4000000
namespace Sk
open PySem PySem.Spec L2 PyProof.Rows
section
variable {X : Cx} {τ : Type}
/-- the block's parts, for any start -/
abbrev InBlk (X : Cx) (scope : Scope) (F : Cx → Prop) : Prop :=
  ∀ (s : Shared) (H : Hp) (c : Addr) (cl : List (Str × Addr)) (fp : List Addr), F (X.blk s H scope (compEnvC scope cl c X.env) fp)
theorem pe_sc2 {C : Coll X.prog X.w τ} {elt tg iter tg1 iter1 : Expr} {scope : Scope} {own : List (Str × Nat)} {vs1 : List Nat} {pos : Pos} {wi wi1 : TI} {g g1 : TG} {te : TE}
    (hc : X.calm = true) (hN : X.N.Nodup) (hi : PI X tg iter wi) (ok : BlkOk X.N X.env.scope scope own) (hv : ∀ i ∈ vs1, i ∈ own.map (·.2))
    (hg : InBlk X scope fun Y => PG Y tg g) (hi1 : InBlk X scope fun Y => PI Y tg1 iter1 wi1) (hg1 : InBlk X scope fun Y => PG Y tg1 g1) (he : InBlk X scope fun Y => PE Y elt te)
    (hs : ∀ x, foldedSetIterable iter X.env x = pure x := by intro _; rfl) (hs1 : ∀ env x, foldedSetIterable iter1 env x = pure x := by intro _ _; rfl) :
    PE X (.SetComp elt [⟨tg, iter, [], 0⟩, ⟨tg1, iter1, [], 0⟩] scope pos) (tSc2 C wi g wi1 g1 te (own.map (·.2)) vs1) := by
  refine ⟨fun pins s σ H Q I h => ?_⟩
  rw [PpSet.eval_SetComp]
  have captured : ∀ y ∈ scope.names, y.2 = .free → ∃ c, X.env.cells.lookup y.1 = some c := fun y hy e =>
    (ok.free y hy e).elim (fun k => I.ok.has _ (.inl k)) (fun k => I.ok.has _ (.inr k))
  refine wpAny_comprehension_free (use := none) rfl hs (closure_ok captured) ok.kind (fun y hy e => by rw [ok.uniq y hy, e])
    (thn (hi.run pins s σ H _ I h) fun xv s1 h1 => thn h1 fun itv s2 h2 => ?_)
  obtain ⟨ia, fp, tn, J, H2, rfl, I2, T, st2, f2, q⟩ := h2
  refine PpSet.newSet_ok (newEnv_comp ?_)
  have free2 : H2 s2.heap.objs.size = none := I2.hok.fresh (Nat.le_refl _)
  have I3 := I2.laid (o := C.so s2.heap.objs.size C.z) (t' := s2.toks) (fun b o e => Heap.get?_push_of_some (bareSet X.w) e) (Nat.le_refl _) (C.fresh _ s2.heap)
  obtain ⟨W, ⟨m0, w0⟩, turn⟩ := q _ free2
  have old2 : ∀ b ∈ fp, b < s2.heap.objs.size := fun b hb => by
    obtain ⟨o, e, _⟩ := T.obj _ _ st2 b hb
    exact Heap.lt_size e
  generalize hD : s2.heap.objs.size = D at *
  generalize hH3 : upd H2 D (C.so D C.z) = H3 at *
  generalize hs3 : ({ s2 with heap := s2.heap.push (bareSet X.w), toks := s2.toks } : Shared) = s3 at *
  have e3 : s3.heap = s2.heap.push (bareSet X.w) := by rw [← hs3]
  have z3 : s3.heap.objs.size = D + 1 := by rw [e3, Heap.size_push, hD]
  have f3 : ∀ b ∈ fp, FpOk X pins H3 b ∧ b < s3.heap.objs.size := fun b hb => by
    have lt := old2 b hb
    refine ⟨⟨?_, (f2 b hb).2⟩, by rw [z3]; exact Nat.lt_succ_of_lt lt⟩
    rw [← hH3, upd_ne (Nat.ne_of_lt lt)]
    exact (f2 b hb).1
  have st3 : tn 0 s3.heap := T.keep _ _ _ st2 fun b _ o e => by rw [e3]; exact Heap.get?_push_of_some _ e
  have I4 := block_start I3 ok hN f3
  generalize hcl : cellsFrom (s3.heap.objs.size + 1) scope.names (cloFrom X.env.cells scope.names []) = cl at *
  have pg := hg s3 H3 s3.heap.objs.size cl fp
  have pi1 := hi1 s3 H3 s3.heap.objs.size cl fp
  have pg1 := hg1 s3 H3 s3.heap.objs.size cl fp
  have pe := he s3 H3 s3.heap.objs.size cl fp
  have goal : codeAny (model X.prog X.w) X.A (.compStart (.SetComp elt [⟨tg, iter, [], 0⟩, ⟨tg1, iter1, [], 0⟩] scope pos) 0 (.ref ia) (.ref D) (compEnvC scope cl s3.heap.objs.size X.env))
      (compPost (model X.prog X.w) X.A X.xe none (EP X pins σ Q) (.ref D) s3.heap.objs.size) { s3 with heap := pushCells (s3.heap.push { cls := .type "dict", data := .dict #[] }) scope.names } := by
    generalize hce : compEnvC scope cl s3.heap.objs.size X.env = ce at *
    have cL : ce.locals = s3.heap.objs.size := by subst hce; rfl
    generalize hs4 : ({ s3 with heap := pushCells (s3.heap.push { cls := .type "dict", data := .dict #[] }) scope.names } : Shared) = s4 at *
    have st4 : tn 0 s4.heap := T.keep _ _ _ st3 fun b _ o e => by rw [← hs4]; exact pushCells_keeps _ _ _ _ (Heap.get?_push_of_some _ e)
    have stat : ∀ {σ' : L2.St} {H' : Hp} {s' : Shared}, Inv (X.blk s3 H3 scope ce fp) [] σ' H' s' → (∀ b ∈ fp, H' b = none) → ∀ b ∈ fp, FpOk (X.blk s3 H3 scope ce fp) [] H' b := fun {σ' H' s'} I' hn b hb =>
      ⟨hn b hb, (I'.ok.exf b hb).1, I'.ok.exfs b hb, .inl hb, fun x c e => (I'.ok.exf b hb).2 x c e, fun p hp => absurd (show p ∈ ([] : List (Addr × Obj)) ++ [] from hp) (by simp)⟩
    have loop : codeAny (model X.prog X.w) X.A (.compLoop (.SetComp elt [⟨tg, iter, [], 0⟩, ⟨tg1, iter1, [], 0⟩] scope pos) 0 (.ref ia) (.ref D) ce)
        (compPost (model X.prog X.w) X.A X.xe none (EP X pins σ Q) (.ref D) s3.heap.objs.size) s4 := by
      refine loop_outer (hs1 ce) (fun n s' => ∃ i H', Inv (X.blk s3 H3 scope ce fp) [] (wipe σ (own.map (·.2))) H' s' ∧ tn i s'.heap ∧ (∀ b ∈ fp, H' b = none) ∧ W i n H') ?_ m0
        ⟨0, H3, I4, st4, fun b hb => (f3 b hb).1.1, w0⟩
      rintro n s5 ⟨i, H5, I5, st5, n5, w5⟩
      rcases turn i n H5 w5 with ⟨stop, qq⟩ | ⟨go, Nx, hNx, step⟩
      · refine thnF (T.done (X.blk s3 H3 scope ce fp) rfl rfl rfl hc i [] s5 _ H5 (fun _ _ => False) I5 (stat I5 n5) st5 stop) fun r s6 z6 => ?_
        obtain ⟨rfl, I6⟩ := z6
        have I7 : Inv X pins σ H5 s6 := I3.call' (ch := fp) I6.os I6.base I6.hok I6.bare fun b hb =>
          ⟨(f3 b hb).1.2.2.2.1, (f3 b hb).1.2.1, (f3 b hb).1.2.2.2.2.1, (f3 b hb).1.2.2.2.2.2⟩
        have nC : H5 s3.heap.objs.size = none := by
          rw [← cL]
          exact I6.free
        obtain ⟨mm, hn, _⟩ := I6.loc
        have hn : s6.heap.Ns s3.heap.objs.size mm := by
          rw [← cL]
          exact hn
        obtain ⟨f0, f1, _, f3', f4, f5⟩ := I3.fpOk (Nat.le_refl _) nC
        exact ⟨mm, hn, fun h'' sb => ⟨.ref D, H5, I7.turned (t' := s6.toks) (fun b o hb e => (sb.2 b hb).trans e) f0 f1 f3' f4 f5, rfl, qq⟩⟩
      · refine thnF (T.item (X.blk s3 H3 scope ce fp) rfl rfl rfl hc i [] s5 _ H5 (fun _ _ => False) I5 (stat I5 n5) st5 go) fun r s6 z6 => ?_
        obtain ⟨u, rfl, h6⟩ := z6
        refine thnF h6 fun _ s7 z7 => ?_
        obtain ⟨x, H7, I7, r7, y7, st7, n7⟩ := z7
        refine thnF (pg.run _ s7 _ H7 x u _ (I7.pinned (stat I7 n7) (T.obj _ _ st7)) r7 (step x H7 y7)) fun _ s8 z8 => ?_
        obtain ⟨σ8, H8, I8, hw8, q8⟩ := z8
        -- a turn's end: back to what the block knew at its start
        have fin : ∀ {σ9 : L2.St} {s' : Shared} {H' : Hp}, Inv (X.blk s3 H3 scope ce fp) ([] ++ pinsAt fp s7.heap) σ9 H' s' → (wipe σ (own.map (·.2))).length = σ9.length →
            (∀ (j : Nat) v, (wipe σ (own.map (·.2)))[j]? = some (some v) → σ9[j]? = some (some v)) → Nx H' →
            ∃ m, m < n ∧ ∃ i H', Inv (X.blk s3 H3 scope ce fp) [] (wipe σ (own.map (·.2))) H' s' ∧ tn i s'.heap ∧ (∀ b ∈ fp, H' b = none) ∧ W i m H' := fun {σ9 s' H'} I' hl hk nx => by
          obtain ⟨m', hm, w'⟩ := hNx H' nx
          have at7 : ∀ b ∈ fp, ∀ o, s7.heap.get? b = some o → s'.heap.get? b = some o ∧ H' b = none := fun b hb o e => by
            obtain ⟨p1, p2, _⟩ := I'.pin (b, o) (List.mem_append_right _ (List.mem_append_right _ (mem_pinsAt hb e)))
            exact ⟨p1, p2⟩
          refine ⟨m', hm, i + 1, H', (I'.unpinned (pins := [])).weak hl hk, T.keep _ _ _ st7 (fun b hb o e => (at7 b hb o e).1), (fun b hb => ?_), w'⟩
          obtain ⟨o, e, _⟩ := T.obj _ _ st7 b hb
          exact (at7 b hb o e).2
        have hl8 : (wipe σ (own.map (·.2))).length = σ8.length := by rw [← hw8, wipe_length]
        have hk9 : ∀ (j : Nat) v, (wipe σ (own.map (·.2)))[j]? = some (some v) → (wipe σ8 vs1)[j]? = some (some v) := fun j v e => by
          rw [← hw8] at e
          obtain ⟨a1, a2⟩ := wipe_some e
          rw [wipe_out fun z => a2 (hv j z)]
          exact a1
        refine thnF (pi1.run _ s8 σ8 H8 _ I8 q8) fun xv s10 hx => thnF hx fun itv s11 z11 => ?_
        obtain ⟨ib, fp1, tn1, J1, H11, rfl, I11, T1, st11, f11, W1, ⟨m1, w1⟩, turn1⟩ := z11
        have stat1 : ∀ {H' : Hp}, (∀ b ∈ fp1, H' b = none) → ∀ b ∈ fp1, FpOk (X.blk s3 H3 scope ce fp) ([] ++ pinsAt fp s7.heap) H' b := fun hn b hb => ⟨hn b hb, (f11 b hb).2⟩
        have loop1 : codeAny (model X.prog X.w) X.A (.compLoop (.SetComp elt [⟨tg, iter, [], 0⟩, ⟨tg1, iter1, [], 0⟩] scope pos) 1 (.ref ib) (.ref D) ce)
            (fun r s' => match r with
              | .ok _ => ∃ m, m < n ∧ ∃ i H', Inv (X.blk s3 H3 scope ce fp) [] (wipe σ (own.map (·.2))) H' s' ∧ tn i s'.heap ∧ (∀ b ∈ fp, H' b = none) ∧ W i m H'
              | .error _ => False) s11 := by
          refine loop_inner (fun k s' => ∃ j H', Inv (X.blk s3 H3 scope ce fp) ([] ++ pinsAt fp s7.heap) (wipe σ8 vs1) H' s' ∧ tn1 j s'.heap ∧ (∀ b ∈ fp1, H' b = none) ∧ W1 j k H') ?_ m1
            ⟨0, H11, I11.weak (wipe_length _ _) (fun j v e => (wipe_some e).1), st11, fun b hb => (f11 b hb).1, w1⟩
          rintro k s12 ⟨j, H12, I12, st12, n12, w12⟩
          rcases turn1 j k H12 w12 with ⟨stop1, nx1⟩ | ⟨go1, Nx1, hNx1, step1⟩
          · refine thnF (T1.done (X.blk s3 H3 scope ce fp) rfl rfl rfl hc j _ s12 (wipe σ8 vs1) H12 (fun _ _ => False) I12 (stat1 n12) st12 stop1) fun r s13 z13 => ?_
            obtain ⟨rfl, I13⟩ := z13
            exact fin I13 (hl8.trans (wipe_length σ8 vs1).symm) hk9 nx1
          · refine thnF (T1.item (X.blk s3 H3 scope ce fp) rfl rfl rfl hc j _ s12 (wipe σ8 vs1) H12 (fun _ _ => False) I12 (stat1 n12) st12 go1) fun r s13 z13 => ?_
            obtain ⟨u1, rfl, h13⟩ := z13
            refine thnF h13 fun _ s14 z14 => ?_
            obtain ⟨x1, H14, I14, r14, y14, st14, n14⟩ := z14
            refine thnF (pg1.run _ s14 (wipe σ8 vs1) H14 x1 u1 _ (I14.pinned (stat1 n14) (T1.obj _ _ st14)) r14 (step1 x1 H14 y14)) fun _ s15 z15 => ?_
            obtain ⟨σ15, H15, I15, hw15, q15⟩ := z15
            refine thnF (pe.run _ s15 σ15 H15 _ I15 q15) fun z s17 z17 => ?_
            obtain ⟨yv, H17, I17, r17, t, t', hD17, can, nx⟩ := z17
            refine C.add (X.blk s3 H3 scope ce fp) rfl rfl _ _ _ _ _ _ _ _ _ _ _ I17 hD17 r17 can fun s18 I18 => ?_
            obtain ⟨k', hk', w'⟩ := hNx1 _ nx
            have at14 : ∀ b ∈ fp1, ∀ o, s14.heap.get? b = some o → s18.heap.get? b = some o ∧ (upd H17 D (C.so D t')) b = none := fun b hb o e => by
              obtain ⟨p1, p2, _⟩ := I18.pin (b, o) (List.mem_append_right _ (List.mem_append_right _ (mem_pinsAt hb e)))
              exact ⟨p1, p2⟩
            refine ⟨k', hk', j + 1, _, I18.unpinned.weak (by rw [← hw15, wipe_length]) (fun j v e => by rw [← hw15] at e; exact (wipe_some e).1),
              T1.keep _ _ _ st14 (fun b hb o e => (at14 b hb o e).1), (fun b hb => ?_), w'⟩
            obtain ⟨o, e, _⟩ := T1.obj _ _ st14 b hb
            exact (at14 b hb o e).2
        exact start_inner loop1 (T1.self X.A 0 _ _ _ st11 loop1)
    exact PpSet.codeAny_compStart_set loop (T.self X.A 0 _ _ _ st4 loop)
  subst hs3
  subst hD
  subst hcl
  exact goal
end
end Sk

set_option Elab.async false
set_option maxRecDepth 100000
set_option maxHeartbeats 4000000
namespace Sk
open PySem PySem.Spec L2 PyProof.Rows
section
variable {X : Cx} {τ : Type}
theorem pe_sc1 {C : Coll X.prog X.w τ} {elt tg iter : Expr} {scope : Scope} {own : List (Str × Nat)} {pos : Pos} {wi : TI} {g : TG} {te : TE}
    (hc : X.calm = true) (hN : X.N.Nodup) (hi : PI X tg iter wi) (ok : BlkOk X.N X.env.scope scope own)
    (hg : InBlk X scope fun Y => PG Y tg g) (he : InBlk X scope fun Y => PE Y elt te) (hs : ∀ x, foldedSetIterable iter X.env x = pure x := by intro _; rfl) :
    PE X (.SetComp elt [⟨tg, iter, [], 0⟩] scope pos) (tSc1 C wi g te (own.map (·.2))) := by
  refine ⟨fun pins s σ H Q I h => ?_⟩
  rw [PpSet.eval_SetComp]
  have captured : ∀ y ∈ scope.names, y.2 = .free → ∃ c, X.env.cells.lookup y.1 = some c := fun y hy e =>
    (ok.free y hy e).elim (fun k => I.ok.has _ (.inl k)) (fun k => I.ok.has _ (.inr k))
  refine wpAny_comprehension_free (use := none) rfl hs (closure_ok captured) ok.kind (fun y hy e => by rw [ok.uniq y hy, e])
    (thn (hi.run pins s σ H _ I h) fun xv s1 h1 => thn h1 fun itv s2 h2 => ?_)
  obtain ⟨ia, fp, tn, J, H2, rfl, I2, T, st2, f2, q⟩ := h2
  refine PpSet.newSet_ok (newEnv_comp ?_)
  have free2 : H2 s2.heap.objs.size = none := I2.hok.fresh (Nat.le_refl _)
  have I3 := I2.laid (o := C.so s2.heap.objs.size C.z) (t' := s2.toks) (fun b o e => Heap.get?_push_of_some (bareSet X.w) e) (Nat.le_refl _) (C.fresh _ s2.heap)
  obtain ⟨W, ⟨m0, w0⟩, turn⟩ := q _ free2
  have old2 : ∀ b ∈ fp, b < s2.heap.objs.size := fun b hb => by
    obtain ⟨o, e, _⟩ := T.obj _ _ st2 b hb
    exact Heap.lt_size e
  generalize hD : s2.heap.objs.size = D at *
  generalize hH3 : upd H2 D (C.so D C.z) = H3 at *
  generalize hs3 : ({ s2 with heap := s2.heap.push (bareSet X.w), toks := s2.toks } : Shared) = s3 at *
  have e3 : s3.heap = s2.heap.push (bareSet X.w) := by rw [← hs3]
  have z3 : s3.heap.objs.size = D + 1 := by rw [e3, Heap.size_push, hD]
  have f3 : ∀ b ∈ fp, FpOk X pins H3 b ∧ b < s3.heap.objs.size := fun b hb => by
    have lt := old2 b hb
    refine ⟨⟨?_, (f2 b hb).2⟩, by rw [z3]; exact Nat.lt_succ_of_lt lt⟩
    rw [← hH3, upd_ne (Nat.ne_of_lt lt)]
    exact (f2 b hb).1
  have st3 : tn 0 s3.heap := T.keep _ _ _ st2 fun b _ o e => by rw [e3]; exact Heap.get?_push_of_some _ e
  have I4 := block_start I3 ok hN f3
  generalize hcl : cellsFrom (s3.heap.objs.size + 1) scope.names (cloFrom X.env.cells scope.names []) = cl at *
  have pg := hg s3 H3 s3.heap.objs.size cl fp
  have pe := he s3 H3 s3.heap.objs.size cl fp
  have goal : codeAny (model X.prog X.w) X.A (.compStart (.SetComp elt [⟨tg, iter, [], 0⟩] scope pos) 0 (.ref ia) (.ref D) (compEnvC scope cl s3.heap.objs.size X.env))
      (compPost (model X.prog X.w) X.A X.xe none (EP X pins σ Q) (.ref D) s3.heap.objs.size) { s3 with heap := pushCells (s3.heap.push { cls := .type "dict", data := .dict #[] }) scope.names } := by
    generalize hce : compEnvC scope cl s3.heap.objs.size X.env = ce at *
    have cL : ce.locals = s3.heap.objs.size := by subst hce; rfl
    generalize hs4 : ({ s3 with heap := pushCells (s3.heap.push { cls := .type "dict", data := .dict #[] }) scope.names } : Shared) = s4 at *
    have st4 : tn 0 s4.heap := T.keep _ _ _ st3 fun b _ o e => by rw [← hs4]; exact pushCells_keeps _ _ _ _ (Heap.get?_push_of_some _ e)
    have stat : ∀ {σ' : L2.St} {H' : Hp} {s' : Shared}, Inv (X.blk s3 H3 scope ce fp) [] σ' H' s' → (∀ b ∈ fp, H' b = none) → ∀ b ∈ fp, FpOk (X.blk s3 H3 scope ce fp) [] H' b := fun {σ' H' s'} I' hn b hb =>
      ⟨hn b hb, (I'.ok.exf b hb).1, I'.ok.exfs b hb, .inl hb, fun x c e => (I'.ok.exf b hb).2 x c e, fun p hp => absurd (show p ∈ ([] : List (Addr × Obj)) ++ [] from hp) (by simp)⟩
    have loop : codeAny (model X.prog X.w) X.A (.compLoop (.SetComp elt [⟨tg, iter, [], 0⟩] scope pos) 0 (.ref ia) (.ref D) ce)
        (compPost (model X.prog X.w) X.A X.xe none (EP X pins σ Q) (.ref D) s3.heap.objs.size) s4 := by
      refine PpSet.compLoopS_any (fun n s' => ∃ i H', Inv (X.blk s3 H3 scope ce fp) [] (wipe σ (own.map (·.2))) H' s' ∧ tn i s'.heap ∧ (∀ b ∈ fp, H' b = none) ∧ W i n H') ?_ m0
        ⟨0, H3, I4, st4, fun b hb => (f3 b hb).1.1, w0⟩
      rintro n s5 ⟨i, H5, I5, st5, n5, w5⟩
      rcases turn i n H5 w5 with ⟨stop, qq⟩ | ⟨go, Nx, hNx, step⟩
      · refine thnF (T.done (X.blk s3 H3 scope ce fp) rfl rfl rfl hc i [] s5 _ H5 (fun _ _ => False) I5 (stat I5 n5) st5 stop) fun r s6 z6 => ?_
        obtain ⟨rfl, I6⟩ := z6
        have I7 : Inv X pins σ H5 s6 := I3.call' (ch := fp) I6.os I6.base I6.hok I6.bare fun b hb =>
          ⟨(f3 b hb).1.2.2.2.1, (f3 b hb).1.2.1, (f3 b hb).1.2.2.2.2.1, (f3 b hb).1.2.2.2.2.2⟩
        have nC : H5 s3.heap.objs.size = none := by
          rw [← cL]
          exact I6.free
        obtain ⟨mm, hn, _⟩ := I6.loc
        have hn : s6.heap.Ns s3.heap.objs.size mm := by
          rw [← cL]
          exact hn
        obtain ⟨f0, f1, _, f3', f4, f5⟩ := I3.fpOk (Nat.le_refl _) nC
        exact ⟨mm, hn, fun h'' sb => ⟨.ref D, H5, I7.turned (t' := s6.toks) (fun b o hb e => (sb.2 b hb).trans e) f0 f1 f3' f4 f5, rfl, qq⟩⟩
      · refine thnF (T.item (X.blk s3 H3 scope ce fp) rfl rfl rfl hc i [] s5 _ H5 (fun _ _ => False) I5 (stat I5 n5) st5 go) fun r s6 z6 => ?_
        obtain ⟨u, rfl, h6⟩ := z6
        refine thnF h6 fun _ s7 z7 => ?_
        obtain ⟨x, H7, I7, r7, y7, st7, n7⟩ := z7
        refine thnF (pg.run _ s7 _ H7 x u _ (I7.pinned (stat I7 n7) (T.obj _ _ st7)) r7 (step x H7 y7)) fun _ s8 z8 => ?_
        obtain ⟨σ8, H8, I8, hw8, q8⟩ := z8
        refine wpAny_tests_nil ?_
        simp only [if_true]
        refine thnF (pe.run _ s8 σ8 H8 _ I8 q8) fun z s17 z17 => ?_
        obtain ⟨yv, H17, I17, r17, t, t', hD17, can, nx⟩ := z17
        refine C.add (X.blk s3 H3 scope ce fp) rfl rfl _ _ _ _ _ _ _ _ _ _ _ I17 hD17 r17 can fun s18 I18 => ?_
        obtain ⟨m', hm, w'⟩ := hNx _ nx
        have at7 : ∀ b ∈ fp, ∀ o, s7.heap.get? b = some o → s18.heap.get? b = some o ∧ (upd H17 D (C.so D t')) b = none := fun b hb o e => by
          obtain ⟨p1, p2, _⟩ := I18.pin (b, o) (List.mem_append_right _ (List.mem_append_right _ (mem_pinsAt hb e)))
          exact ⟨p1, p2⟩
        refine ⟨m', hm, i + 1, _, (I18.unpinned (pins := [])).weak (by rw [← hw8, wipe_length]) (fun j v e => by rw [← hw8] at e; exact (wipe_some e).1),
          T.keep _ _ _ st7 (fun b hb o e => (at7 b hb o e).1), (fun b hb => ?_), w'⟩
        obtain ⟨o, e, _⟩ := T.obj _ _ st7 b hb
        exact (at7 b hb o e).2
    exact PpSet.codeAny_compStart_set loop (T.self X.A 0 _ _ _ st4 loop)
  subst hs3
  subst hD
  subst hcl
  exact goal
end
/-! ### ints -/
def plusI (k : Int) (l : List Int) : List Int := if k ∈ l then l else k :: l
def IntO (w : World) (a : Addr) (l : List Int) : HO := SetO w a (fun k => decide (k ∈ l)) l.length
def numbers (P : Program) (w : World) : Coll P w (List Int) where
  so := IntO w
  z := []
  can := fun y l l' => ∃ k, y = .int k ∧ l.length + 1 < scanBound ∧ l' = plusI k l
  fresh := fun _ h => setO_new (R := by
    have q := setR_fresh (h := h) w
    exact q.congr fun k => by simp)
  add := by
    rintro X rfl rfl pins σ H s D t t' y v Q E I hD r ⟨k, rfl, room, rfl⟩ hQ
    obtain ⟨u, rfl⟩ := r
    have R := setO_get (X := X) I hD
    refine setR_add R room fun h' sb new => hQ _ ?_
    have new2 : SetR X.w h' D (fun j => decide (j ∈ plusI k t)) (plusI k t).length := by
      unfold plusI
      by_cases c : k ∈ t
      · rw [if_pos c]
        rw [if_pos (by simpa using c)] at new
        exact new.congr fun j => by
          by_cases e : j = k
          · subst e; simp [c]
          · simp [e]
      · rw [if_neg c]
        rw [if_neg (by simpa using c)] at new
        exact new.congr fun j => by
          by_cases e : j = k <;> simp [e]
    refine I.write (e := D) (t' := s.toks + 1) (by rw [hD]; trivial) (.inl rfl) (fun b u hb hu => (sb.2 b hb).trans hu) ?_ (setO_new new2)
    have ⟨o, _, _, _, ho, _⟩ := new
    exact ⟨o, ho⟩
end Sk

set_option Elab.async false
set_option maxRecDepth 100000
set_option maxHeartbeats 4000000
namespace Sk
open PySem PySem.Spec L2 PyProof.Rows
/-! ### values as data -/
theorem Same.seqT {K : PySem.W.Frag} {H H' : Hp} {a : Addr} {xs : List V} (e : Same H H') (h : SqT K H a xs) : SqT K H' a xs := by
  rcases h with (h | ⟨o, h⟩) | h
  · exact .inl (.inl (e _ _ h))
  · exact .inl (.inr ⟨o, e _ _ h⟩)
  · exact .inr h
mutual
theorem dp_same {K : PySem.W.Frag} {H H' : Hp} (e : Same H H') : ∀ {d : PyData} {v : V}, Dp K H v d → Dp K H' v d
  | .none, _, h => by cases h; exact .non
  | .bool b, _, h => by cases h; exact .bl b
  | .int i, _, h => by cases h; exact .int i
  | .str x, _, h => by cases h; exact .str x
  | .list ds, _, h => by
    cases h with
    | lst hs ha => exact .lst (e.seq hs) (dpAll_same e ha)
  | .tuple ds, _, h => by
    cases h with
    | tup hs ha => exact .tup (Same.seqT e hs) (dpAll_same e ha)
  | .dict _, _, h => by cases h
theorem dpAll_same {K : PySem.W.Frag} {H H' : Hp} (e : Same H H') : ∀ {ds : List PyData} {vs : List V}, DpAll K H vs ds → DpAll K H' vs ds
  | [], _, h => by cases h; exact .nil
  | d :: ds, _, h => by
    cases h with
    | cons h1 h2 => exact .cons (dp_same e h1) (dpAll_same e h2)
end
theorem dpAll_len {K : PySem.W.Frag} {H : Hp} : ∀ {ds : List PyData} {vs : List V}, DpAll K H vs ds → vs.length = ds.length
  | [], _, h => by cases h; rfl
  | d :: ds, _, h => by
    cases h with
    | cons h1 h2 => rw [List.length_cons, List.length_cons, dpAll_len h2]
theorem dpAll_get {K : PySem.W.Frag} {H : Hp} : ∀ {ds : List PyData} {vs : List V} {i : Nat} {d : PyData}, DpAll K H vs ds → ds[i]? = some d → ∃ v, vs[i]? = some v ∧ Dp K H v d
  | [], _, _, _, _, q => by simp at q
  | d :: ds, _, 0, _, h, q => by
    cases h with
    | cons h1 h2 =>
      simp at q
      subst q
      exact ⟨_, rfl, h1⟩
  | d :: ds, _, i + 1, _, h, q => by
    cases h with
    | cons h1 h2 => exact dpAll_get (i := i) h2 (by simpa using q)
theorem dpAll_at {K : PySem.W.Frag} {H : Hp} : ∀ {ds : List PyData} {vs : List V} {i : Nat} {v : V}, DpAll K H vs ds → vs[i]? = some v → ∃ d, ds[i]? = some d ∧ Dp K H v d
  | [], _, _, _, h, q => by cases h; simp at q
  | d :: ds, _, 0, _, h, q => by
    cases h with
    | cons h1 h2 =>
      simp at q
      subst q
      exact ⟨_, rfl, h1⟩
  | d :: ds, _, i + 1, _, h, q => by
    cases h with
    | cons h1 h2 => exact dpAll_at (i := i) h2 (by simpa using q)
theorem atI_back {α : Type} {xs : List α} {k : Nat} (h0 : 0 < k) (hk : k ≤ xs.length) : atI xs (-(k : Int)) = xs[xs.length - k]? := by
  have e : ixN xs.length (-(k : Int)) = some (xs.length - k) := by
    unfold ixN
    rw [if_neg (by omega), if_pos (by omega)]
    congr 1
    omega
  unfold atI
  rw [e]
  rfl
/-! ### isinstance -/
def isK : PyData → String → Bool
  | .int _, "int" => true
  | .bool _, "int" => true
  | .bool _, "bool" => true
  | .str _, "str" => true
  | .tuple _, "tuple" => true
  | .list _, "list" => true
  | _, _ => false
theorem isi_use {K : PySem.W.Frag} {H : Hp} {v : V} {d : PyData} {T : String} {Q : VK} (h : Dp K H v d) (hT : T ∈ ["int", "bool", "str", "tuple", "list"]) (q : Q (.bl (isK d T)) H) : rIsi K [v, .ty T] H Q := by
  have go : ∀ {ty : String}, TyX K H v (.type ty) → kitB ty T = some (isK d T) → rIsi K [v, .ty T] H Q := fun {ty} h1 h2 => ⟨v, .ty T, _, _, _, rfl, .ty T, h1, kit_ty h2, q⟩
  simp only [List.mem_cons, List.not_mem_nil, or_false] at hT
  cases h with
  | non => exact go (.base .non) (by rcases hT with rfl | rfl | rfl | rfl | rfl <;> first | decide +kernel | rfl)
  | bl b => exact go (.base (.bl b)) (by cases b <;> rcases hT with rfl | rfl | rfl | rfl | rfl <;> decide +kernel)
  | int i => exact go (.base (.int i)) (by rcases hT with rfl | rfl | rfl | rfl | rfl <;> first | decide +kernel | rfl)
  | str x => exact go (.base (.str x)) (by rcases hT with rfl | rfl | rfl | rfl | rfl <;> first | decide +kernel | rfl)
  | lst hs ha =>
    rename_i aa xx dd
    have ty : TyX K H (.ref aa) (.type "list") := by
      rcases hs with (hs | ⟨o, hs⟩) | ⟨o, its, n, hk, hc, _⟩
      · exact .base (.lst hs)
      · exact .base (.frz hs)
      · exact .kList hk hc
    exact go ty (by rcases hT with rfl | rfl | rfl | rfl | rfl <;> first | decide +kernel | rfl)
  | tup hs ha =>
    rename_i aa xx dd
    have ty : TyX K H (.ref aa) (.type "tuple") := by
      rcases hs with (hs | ⟨o, hs⟩) | ⟨o, its, n, hk, hc, _⟩
      · exact .base (.tup hs)
      · exact .fTuple hs
      · exact .kTuple hk hc
    exact go ty (by rcases hT with rfl | rfl | rfl | rfl | rfl <;> first | decide +kernel | rfl)
theorem isi_fact {K : PySem.W.Frag} {H : Hp} {v : V} {d : PyData} {T : String} (h : Dp K H v d) (hT : T ∈ ["int", "bool", "str", "tuple", "list"]) :
    ∃ t, TyX K H v t ∧ PySem.W.kitOne K t (.type T) = some (isK d T) := by
  obtain ⟨x, c, t, u, b, e, k, y, z, q⟩ := isi_use (Q := fun r _ => r = .bl (isK d T)) h hT rfl
  cases e
  cases k
  cases q
  exact ⟨t, y, z⟩
theorem upd_upd_same {H : Hp} {a : Addr} {o o' : HO} : upd (upd H a o) a o' = upd H a o' := by
  funext b
  by_cases h : b = a
  · subst h; rw [upd_same, upd_same]
  · rw [upd_ne h, upd_ne h, upd_ne h]
/-! ### what the kinds are, as functions of data -/
def intB : PyData → Bool
  | .int _ => true
  | _ => false
def withinB (d : PyData) (a b : Int) : Bool := match d with
  | .int i => decide (a ≤ i) && decide (i ≤ b)
  | _ => false
def lowB (c : Nat) : Bool := decide (97 ≤ c) && decide (c ≤ 122)
def placeB : PyData → Bool
  | .str z => (decide (1 ≤ (z.length : Int)) && decide ((z.length : Int) ≤ 8)) && z.cps.toList.all lowB
  | _ => false
def weightB (d : PyData) : Bool := match d with
  | .none => true
  | d => withinB d 1 1000
def scalarB : PyData → Bool
  | .none | .bool _ | .int _ | .str _ => true
  | _ => false
def itemB (ds : List PyData) (i : Nat) (f : PyData → Bool) : Bool := match ds[i]? with
  | some d => f d
  | none => false
def partsB (d : PyData) (n : Nat) : Bool := match d with
  | .tuple ds => decide (ds.length = n) && (itemB ds 0 (withinB · 1 1000000) && (itemB ds 1 (withinB · 0 1000000) && (itemB ds (n - 2) (withinB · 0 1000000) && itemB ds (n - 1) weightB)))
  | _ => false
def endB (d : PyData) : Bool := match d with
  | .str z => decide (z = ("-" : Str)) || placeB (.str z)
  | _ => false
def otherB (a b : PyData) : Bool := match a, b with
  | .str x, .str y => !decide (x = y)
  | _, _ => true
def moveB (d : PyData) : Bool := partsB d 6 && match d with
  | .tuple ds => match ds[2]?, ds[3]? with
    | some a, some b => endB a && (endB b && otherB a b)
    | _, _ => false
  | _ => false
def countB (d : PyData) : Bool := partsB d 5 && match d with
  | .tuple ds => itemB ds 2 placeB
  | _ => false
def recB (d : PyData) : Bool := moveB d || countB d
/-- tuples have scalars alone in them -/
def plainB : PyData → Bool
  | .tuple ds => ds.all scalarB
  | d => scalarB d
def idB (d : PyData) : Int := match d with
  | .tuple (.int i :: _) => i
  | _ => 0
def recsB (d : PyData) : Bool := match d with
  | .list ds => ds.all recB && decide ((ds.map idB).Nodup)
  | _ => false
end Sk

set_option Elab.async false
set_option maxRecDepth 100000
set_option maxHeartbeats 4000000
namespace Sk
open PySem PySem.Spec L2 PyProof.Rows
/-! ### sorted(records, key=..): by time and id -/
/-- the key's def: of a tuple whose items 0 and 1 are ints it makes the tuple (item 1, item 0), and changes nothing -/
def KeyFn (P : Program) (w : World) (K : PySem.W.Frag) (f : Addr) : Prop :=
  ∀ (A : Around) (s : Shared) (p : Addr) (its : Array Value) (t i : Int) (t0 t1 : Tok), K.In s.heap → s.heap.NoLimit → A.depth < recursionLimit → IsTup s.heap p its →
    its[0]? = some (.int i t0) → its[1]? = some (.int t t1) → wpAny (model P w) A (call (.ref f) [.ref p]) (PySem.W.KeyPure (.tuple [.int t, .int i]) s) (fun _ _ => False) s
def keyD (kt : V → Int × Int) (x : V) : PyData := .tuple [.int (kt x).1, .int (kt x).2]
/-- the list in its sequence -/
def inSeq (kt : V → Int × Int) (xs : List V) : List V := xs.mergeSort (PySem.W.dataLe false (keyD kt))
def RecAt (K : PySem.W.Frag) (H : Hp) (x : V) (t i : Int) : Prop := ∃ p xs, x = .ref p ∧ SqT K H p xs ∧ xs[0]? = some (.int i) ∧ xs[1]? = some (.int t)
def rSortKey (K : PySem.W.Frag) (f : Addr) : List V → List V → Hp → VK → Prop := fun vs zs H Q => ∃ (a : Addr) (xs : List V) (kt : V → Int × Int), vs = [.ref a] ∧ zs = [.ref f] ∧ SqL K H a xs ∧ xs.length ≤ 1000 ∧
  (∀ x ∈ xs, RecAt K H x (kt x).1 (kt x).2) ∧ ∀ q, H q = none → Q (.ref q) (upd H q (.lst (inSeq kt xs)))
theorem each_of {xs : List V} : ∀ {us : List Value}, Vals xs us → PySem.W.EachIs (fun v x => RelV x v) us xs := by
  induction xs with
  | nil => intro us h; cases h; exact .nil
  | cons x xs ih => intro us h; cases h with | cons a b => exact .cons a (ih b)
theorem vals_of {xs : List V} : ∀ {us : List Value}, PySem.W.EachIs (fun v x => RelV x v) us xs → Vals xs us := by
  induction xs with
  | nil => intro us h; cases h; exact .nil
  | cons x xs ih => intro us h; cases h with | cons a b => exact .cons a (ih b)
theorem call_sortKey {X : Cx} {f : Addr} (hc : X.calm = true) (hu : X.A.units + 64 < cLine) (hd : X.A.in1.in1.depth < recursionLimit) (F : KeyFn X.prog X.w X.K f) : CallRK X (.builtin "sorted") ["key"] (rSortKey X.K f) := by
  rintro pins s σ H vs zs us ws Q I r1 r2 ⟨a, xs, kt, rfl, rfl, hl, hlen, hrec, q⟩
  rw [Vals.ref1 r1, Vals.ref1 r2]
  obtain ⟨its, rv, pl, hz⟩ := I.list hl
  have lim : s.heap.NoLimit := I.ok.mod.nolimit.keeps fun b o e => (I.bs b o e).1
  refine PySem.W.sorted_key_data (vs := its) (bs := xs) (b := false) (keyD kt) pl.isList (each_of rv) ?_ (.inl fun d hd => ?_) hz ?_ ?_ ?_ (fun x => ksk_t1 f x) ?_ ?_
  · intro d hd d' hd'
    obtain ⟨x, _, rfl⟩ := List.mem_map.mp hd
    obtain ⟨y, _, rfl⟩ := List.mem_map.mp hd'
    first | rfl | simp [keyD, PySem.W.alike] | decide
  · obtain ⟨x, _, rfl⟩ := List.mem_map.mp hd
    exact ⟨_, _, rfl⟩
  · intro x _
    have : (keyD kt x).depth ≤ 1 := by
      unfold keyD
      simp only [PyData.depth, PyData.depthAll]
      omega
    omega
  · first | decide | (unfold argsOk; kernel_rfl)
  · intro x
    first | decide | (unfold argsOk; kernel_rfl)
  · intro v x rx hx h tk hk
    obtain ⟨p, ys, rfl, hs, e0, e1⟩ := hrec x hx
    cases rx
    obtain ⟨its2, rv2, tup, _⟩ := I.tuple hs
    obtain ⟨u0, g0, s0⟩ := rv2.get e0
    obtain ⟨u1, g1, s1⟩ := rv2.get e1
    obtain ⟨t0, rfl⟩ := s0
    obtain ⟨t1, rfl⟩ := s1
    exact F X.A.in1.in1 { s with heap := h, toks := tk } p its2.toArray _ _ t0 t1 (I.kIn.keeps hk) (lim.keeps hk) hd (tup.keeps hk) (by simpa using g0) (by simpa using g1)
  · intro out c h' tk hk hfree hob hlo he
    have hn : H (s.heap.objs.size + 1) = none := I.hok.fresh (Nat.le_succ _)
    have hlen2 : (inSeq kt xs).length ≤ sizeLine := by
      unfold inSeq
      rw [List.length_mergeSort]
      exact Nat.le_trans hlen (by decide)
    exact ⟨.ref _, upd H (s.heap.objs.size + 1) (.lst (inSeq kt xs)), I.laid (t' := tk) hk (Nat.le_succ _) ⟨hlen2, out, c, vals_of he, hob⟩, rfl, q _ hn⟩
end Sk

set_option Elab.async false
set_option maxRecDepth 100000
set_option maxHeartbeats 4000000
namespace Sk
open PySem PySem.Spec L2 PyProof.Rows
/-! ### f(k = v, ..): keywords alone -/
structure KwOnly (fd : FuncData) (ps ks : List Str) (n : Nat) (g : List Value → List Value) (gV : List V → List V) : Prop where
  to : ∀ (s : Shared) (ws : List Value), ws.length = n → BindsTo s fd ⟨[], ks.zip ws⟩ (ps.zip (g ws))
  rel : ∀ {zs : List V} {ws : List Value}, Vals zs ws → Vals (gV zs) (g ws)
def tCallW (sp : Sp) (n : Nat) (gV : List V → List V) (E : XK) (tk : TA) : TE := fun σ H Q => tk σ H fun zs H1 => zs.length = n ∧ sp (gV zs) H1 Q E
theorem pe_callW {X : Cx} {CX : CXT} {k n : Nat} {f : Addr} {fd : FuncData} {ps ks : List Str} {sp : Sp} {E : XK} {x : Str} {p pos : Pos} {kws : List Keyword} {tk : TA} {g : List Value → List Value} {gV : List V → List V}
    (F : FnOk X.prog X.w X.K X.mg X.base CX k f fd ps sp) (hr : Room k X.A) (hg : Gl X x) (hm : X.mg x = some (.ref f)) (hk : PySem.W.keepIn X.K (.ref f) = true) (hb : KwOnly fd ps ks n g gV) (hx : Passes CX X E) (hkw : PK X kws tk)
    (hall : (backToKw pos (keywordEach kws X.env)).all (·.1.isSome) = true := by rfl) (hks : (backToKw pos (keywordEach kws X.env)).filterMap (·.1) = ks := by rfl) (hdb : (x == ("__debug__" : Str)) = false := by decide)
    (hpl : ((backTo pos (starEach [] X.env)).any (·.1) || (backToKw pos (keywordEach kws X.env)).any (·.1.isNone)) = false := by rfl) :
    PE X (.Call (.Name x p) [] kws pos) (tCallW sp n gV E tk) := by
  refine ⟨fun pins s σ H Q I h => ?_⟩
  refine wpAny_Call_Name_kw (ld_glob I hg hm ?_ hdb)
  refine PySem.W.callWith_KW0 (h₀ := X.base) I.ok.mod.kin hk hall (thn (hkw.run pos pins s σ H _ I h) fun ws s1 z => ?_) hpl
  obtain ⟨zs, H1, I1, rz, hl, q⟩ := z
  refine ⟨I1.kIn, ?_⟩
  rw [hks]
  refine wpAny_call (codeAny_mono (F.run X.A X.stack s1 H1 ⟨[], ks.zip ws⟩ (g ws) (gV zs) Q E hr I1.env0 (hb.to s1 ws (by rw [← hl]; exact rz.length.symm)) (hb.rel rz) q) fun r s2 hq => ?_)
  match r, hq with
  | .error e, hq => exact hx pins σ H1 s1 e s2 I1 hq
  | .ok .next, hq => exact hq.elim
  | .ok .brk, hq => exact hq.elim
  | .ok .cont, hq => exact hq.elim
  | .ok (.ret u), hq => exact I1.after hq
theorem kw_one {fd : FuncData} {p : Str} (h : ∀ u : Value, bindArgs fd ⟨[], [(p, u)]⟩ = pure [(p, u)]) : KwOnly fd [p] [p] 1 id id where
  to := fun s ws hl => by
    match ws, hl with
    | [u], _ => exact .of_eq (h u)
  rel := id
/-! ### len of a set of ints -/
def rLenI (w : World) : List V → Hp → VK → Prop := fun vs H Q => ∃ (a : Addr) (l : List Int), vs = [V.ref a] ∧ H a = some (IntO w a l) ∧ Q (.int (l.length : Int)) H
theorem call_lenI {X : Cx} : CallR X (.builtin "len") (rLenI X.w) := by
  rintro pins s σ H vs us Q I r ⟨a, l, rfl, ha, q⟩
  have R : SetR X.w s.heap a (fun k => decide (k ∈ l)) l.length := setO_get (X := X) I ha
  rw [Vals.ref1 r]
  obtain ⟨o, es, ep, t, ho, hex, hd, _, _, _, hb, hf, hn, _⟩ := R
  have : scanBound < 2 ^ 63 := by decide
  refine call_len_set ho hex hd hf (by omega) ⟨.int (l.length : Int), H, I.tok _, ⟨_, by rw [hn]⟩, q⟩
/-! ### a list comprehension over a text -/
theorem lc_text {z : Str} {g : TG} {te : TE} {vs : List Nat} {σ : L2.St} {H1 : Hp} {D : Addr} {Qd : Hp → Prop} (Pv : Nat → Hp → Prop) (h0 : Pv 0 (upd H1 D (.lst [])))
    (hs : ∀ i c H, z.cps[i]? = some c → Pv i H → g (.str ⟨#[c]⟩) (wipe σ vs) H fun σ2 H2 => wipe σ2 vs = wipe σ vs ∧
      te σ2 H2 fun y H4 => ∃ acc, H4 D = some (.lst acc) ∧ acc.length < sizeLine ∧ Pv (i + 1) (upd H4 D (.lst (acc ++ [y])))) (hd : ∀ H, Pv z.cps.size H → Qd H) :
    ∃ W : Nat → Nat → Hp → Prop, (∃ m, W 0 m (upd H1 D (.lst []))) ∧ ∀ i m H, W i m H →
      ((Its z).stop i H ∧ Qd H) ∨ ((Its z).go i H ∧ ∃ Nx : Hp → Prop, (∀ H', Nx H' → ∃ m', m' < m ∧ W (i + 1) m' H') ∧ ∀ x H', (Its z).yld i H x H' → g x (wipe σ vs) H' fun σ2 H2 => wipe σ2 vs = wipe σ vs ∧ tYes σ2 H2 fun b H3 =>
        if b = true then te σ2 H3 fun y H4 => ∃ acc, H4 D = some (.lst acc) ∧ acc.length < sizeLine ∧ Nx (upd H4 D (.lst (acc ++ [y]))) else Nx H3) := by
  refine ⟨fun i m H => m = z.cps.size - i ∧ i ≤ z.cps.size ∧ Pv i H, ⟨z.cps.size, rfl, Nat.zero_le _, h0⟩, ?_⟩
  rintro i m H ⟨rfl, hi, p⟩
  by_cases c : i < z.cps.size
  · refine .inr ⟨c, Pv (i + 1), fun H' p' => ⟨z.cps.size - (i + 1), by omega, rfl, c, p'⟩, fun x H' y => ?_⟩
    obtain ⟨rfl, k, hk, rfl⟩ := y
    exact hs i k H' hk p
  · have e : i = z.cps.size := by omega
    subst e
    exact .inl ⟨Nat.le_refl _, hd H p⟩
end Sk

set_option Elab.async false
set_option maxRecDepth 100000
set_option maxHeartbeats 4000000
namespace Sk
open PySem PySem.Spec L2 PyProof.Rows
/-! ### repr of a scalar, of a list or tuple of such, of a dict with flat values -/
def keyDat : Key → PyData
  | .inl i => .int i
  | .inr z => .str z
inductive DpX (K : PySem.W.Frag) (H : Hp) : V → PyData → Prop
  | of {v : V} {d : PyData} : Dp K H v d → DpX K H v d
  | dic {a : Addr} {kvs : List (Key × V)} : H a = some (.dK kvs) → (∀ e ∈ kvs, Flat e.2) → DpX K H (.ref a) (.dict (kvs.map fun e => (keyDat e.1, toD e.2)))
structure ShowsX (d : PyData) : Prop where
  short : d.leavesShort 13 = true
  sh : d.showable = true
  dp : d.depth ≤ 60
  wt : d.weight ≤ 2 ^ 20
theorem reads_flat {h : Heap} : ∀ {v : V} {u : Value}, Flat v → RelV v u → Reads h u (toD v) []
  | .int i, _, _, r => by obtain ⟨t, rfl⟩ := r; exact .int i t
  | .str z, _, _, r => by obtain ⟨t, rfl⟩ := r; exact .str z t
  | .bl b, _, _, r => by cases r; exact .bool b
  | .non, _, _, r => by cases r; exact .none
  | .ref _, _, f, _ => by cases f
  | .ty _, _, f, _ => by cases f
  | .byt _, _, f, _ => by cases f
  | .flt _, _, f, _ => by cases f
theorem reads_entries {h : Heap} {P : Program} {w : World} : ∀ {es : List DictEntry} {kvs : List (Key × V)} {vs : List (Key × Value)}, KV kvs vs → Pairs (mixKind P w) es vs → (∀ e ∈ kvs, Flat e.2) →
    ReadsAll h (es.map (·.key)) (kvs.map fun e => keyDat e.1) [] ∧ ReadsAll h (es.map (·.val)) (kvs.map fun e => toD e.2) []
  | _, [], _, r, p, _ => by
    cases r
    cases p
    exact ⟨.nil, .nil⟩
  | _, kv :: kvs, _, r, p, f => by
    cases r with
    | @cons _ q _ qs h1 h2 =>
      cases p with
      | @cons e _ es _ p1 p2 p3 =>
        obtain ⟨i1, i2⟩ := reads_entries (h := h) h2 p3 fun e he => f e (List.mem_cons_of_mem _ he)
        have k0 : Reads h e.key (keyDat kv.1) [] := by
          rw [h1.1]
          rcases keyIs_shape p1 with ⟨i, t, e1, e2⟩ | ⟨x, t, e1, e2⟩
          · rw [e1, e2]; exact .int i t
          · rw [e1, e2]; exact .str x t
        have v0 : Reads h e.val (toD kv.2) [] := by
          rw [p2]
          exact reads_flat (f kv List.mem_cons_self) h1.2
        exact ⟨ReadsAll.cons (as := []) (bs := []) k0 i1, ReadsAll.cons (as := []) (bs := []) v0 i2⟩
def rReprX (K : PySem.W.Frag) : List V → Hp → VK → Prop := fun xs H Q => ∃ v d, xs = [v] ∧ DpX K H v d ∧ ShowsX d ∧ Q (.str d.shown) H
theorem dp_nodict {K : PySem.W.Frag} {H : Hp} : ∀ {v : V} {d : PyData}, Dp K H v d → d.hasDict = false := by
  intro v d h
  have all : ∀ n (d : PyData) (v : V), sizeOf d ≤ n → Dp K H v d → d.hasDict = false := by
    intro n
    induction n with
    | zero => intro d v hn _; cases d <;> simp at hn
    | succ n ih =>
      have lst : ∀ (ds : List PyData) (vs : List V), sizeOf ds ≤ n → DpAll K H vs ds → PyData.hasDictAll ds = false := by
        intro ds
        induction ds with
        | nil => intro vs _ _; rfl
        | cons d ds ih2 =>
          intro vs hn h
          cases h with
          | cons h1 h2 =>
            simp only [PyData.hasDictAll, Bool.or_eq_false_iff]
            have e : sizeOf (d :: ds) = 1 + sizeOf d + sizeOf ds := by simp
            exact ⟨ih d _ (by omega) h1, ih2 _ (by omega) h2⟩
      intro d v hn h
      cases h with
      | non => rfl
      | bl _ => rfl
      | int _ => rfl
      | str _ => rfl
      | @lst _ _ ds _ ha =>
        simp only [PyData.hasDict]
        have e : sizeOf (PyData.list ds) = 1 + sizeOf ds := by simp
        exact lst _ _ (by omega) ha
      | @tup _ _ ds _ ha =>
        simp only [PyData.hasDict]
        have e : sizeOf (PyData.tuple ds) = 1 + sizeOf ds := by simp
        exact lst _ _ (by omega) ha
  exact all _ d v (Nat.le_refl _) h
theorem call_reprX {X : Cx} (hg : X.A.guards = some []) (hu : X.A.units + 64 < cLine) : CallR X (.builtin "repr") (rReprX X.K) := by
  intro pins s σ H xs us Q I r h
  obtain ⟨v, d, rfl, hd, S, q⟩ := h
  have fits := PyData.shown_fits (by decide) (by decide) S.short S.wt
  have hdp := S.dp
  cases r with
  | cons r1 r2 =>
    cases r2
    cases hd with
    | of hd =>
      cases hd with
      | non =>
        cases r1
        exact PySem.P.repr_of_none ⟨.str _, H, I.tok _, ⟨_, rfl⟩, q⟩
      | bl b =>
        cases r1
        exact PySem.P.repr_of_bool ⟨.str _, H, I.tok _, ⟨_, rfl⟩, q⟩
      | int i =>
        obtain ⟨t, rfl⟩ := r1
        exact PySem.P.repr_of_int (by simpa only [PyData.showable, decide_eq_true_eq] using S.sh) ⟨.str _, H, I.tok _, ⟨_, rfl⟩, q⟩
      | str z =>
        obtain ⟨t, rfl⟩ := r1
        exact PySem.P.repr_of_str ⟨.str _, H, I.tok _, ⟨_, rfl⟩, q⟩ fits
      | lst hs ha =>
        obtain ⟨as, rd⟩ := Dp.reads I _ _ _ (.lst hs ha) r1
        cases r1
        exact repr_of_reads' rd S.sh (fun z => by rw [dp_nodict (.lst hs ha)] at z; cases z) hg (by omega) (fun _ _ e => e) (fun h' u tk hk => ⟨.str _, H, I.kept hk, ⟨u, rfl⟩, q⟩) fits
      | tup hs ha =>
        obtain ⟨as, rd⟩ := Dp.reads I _ _ _ (.tup hs ha) r1
        cases r1
        exact repr_of_reads' rd S.sh (fun z => by rw [dp_nodict (.tup hs ha)] at z; cases z) hg (by omega) (fun _ _ e => e) (fun h' u tk hk => ⟨.str _, H, I.kept hk, ⟨u, rfl⟩, q⟩) fits
    | @dic a kvs ha hf =>
      cases r1
      obtain ⟨_, ne, vs, kv, o, es, ep, e1, ex, e2, _, e3, _⟩ := dk_of I.hok ha
      obtain ⟨a1, a2⟩ := reads_entries (h := s.heap) kv e3 hf
      have rd := Reads.dict (kvs := kvs.map fun e => (keyDat e.1, toD e.2)) (as := []) (bs := []) e1 ex.1 e2 (by rw [List.map_map]; exact a1) (by rw [List.map_map]; exact a2)
      refine repr_of_reads' rd S.sh (fun _ m => ?_) hg (by omega) (fun _ _ e => e) (fun h' u tk hk => ⟨.str _, H, I.kept hk, ⟨u, rfl⟩, q⟩) fits
      have m := List.mem_singleton.mp m
      rw [← m] at ne
      simp at ne
end Sk

set_option Elab.async false
set_option maxRecDepth 100000
set_option maxHeartbeats 4000000
namespace Sk
open PySem PySem.Spec L2 PyProof.Rows
/-- a walk over a list that stays: any step -/
theorem itl_W {K : PySem.W.Frag} {a : Addr} {xs : List V} {H1 : Hp} {F : Hp → Prop} {Step : V → Hp → (Hp → Prop) → Prop} (Pv : Nat → Hp → Prop) (h0 : Pv 0 H1) (hl : ∀ i H, i ≤ xs.length → Pv i H → SqL K H a xs)
    (hs : ∀ i x H, xs[i]? = some x → Pv i H → Step x H (Pv (i + 1))) (hd : ∀ H, Pv xs.length H → F H) :
    ∃ W : Nat → Nat → Hp → Prop, (∃ m, W 0 m H1) ∧ ∀ i m H, W i m H → ((Itl K a).stop i H ∧ F H) ∨
      ((Itl K a).go i H ∧ ∃ Nx : Hp → Prop, (∀ H', Nx H' → ∃ m', m' < m ∧ W (i + 1) m' H') ∧ ∀ x H', (Itl K a).yld i H x H' → Step x H' Nx) := by
  refine ⟨fun i m H => m = xs.length - i ∧ i ≤ xs.length ∧ Pv i H, ⟨xs.length, rfl, Nat.zero_le _, h0⟩, ?_⟩
  rintro i m H ⟨rfl, hi, p⟩
  have q := hl i H hi p
  by_cases c : i < xs.length
  · refine .inr ⟨⟨xs, xs[i], q, List.getElem?_eq_getElem c⟩, Pv (i + 1), fun H' p' => ⟨xs.length - (i + 1), by omega, rfl, c, p'⟩, fun x H' y => ?_⟩
    obtain ⟨rfl, y⟩ := y
    exact hs i x _ (y xs q) p
  · have e : i = xs.length := by omega
    subst e
    exact .inl ⟨⟨xs, q, Nat.le_refl _⟩, hd H p⟩
/-! ### the one sorted list of some texts -/
def leS (a b : Str) : Prop := ¬ (b.cps.toList < a.cps.toList)
theorem rising_pw : ∀ (l : List Str) (x : Str), risingS x l = true → (x :: l).Pairwise leS
  | [], x, _ => by simp
  | y :: l, x, h => by
    have h2 : leS x y ∧ risingS y l = true := by
      unfold risingS at h
      simp only [Bool.and_eq_true, Bool.not_eq_true', decide_eq_false_iff_not] at h
      first
        | exact ⟨h.1, h.2⟩
        | (refine ⟨?_, h.2⟩; intro z; have := h.1; rw [ltCps_eq, decide_eq_false_iff_not] at this; exact this z)
    have ih := rising_pw l y h2.2
    refine List.pairwise_cons.mpr ⟨fun z hz => ?_, ih⟩
    rcases List.mem_cons.mp hz with rfl | hz
    · exact h2.1
    · have h3 := (List.pairwise_cons.mp ih).1 z hz
      intro q
      rcases Std.lt_trichotomy y.cps.toList x.cps.toList with c | c | c
      · exact h2.1 c
      · exact h3 (by rw [c]; exact q)
      · exact h3 (List.lt_trans q c)
theorem sorted_pw {l : List Str} (h : sortedS l = true) : l.Pairwise leS := by
  cases l with
  | nil => exact .nil
  | cons x r => exact rising_pw r x h
def Canon (ks ps : List Str) : Prop := sortedS ks = true ∧ ks.Nodup ∧ ∀ z, z ∈ ks ↔ z ∈ ps
theorem canon_one {ks ls ps : List Str} (h : Canon ks ps) (h' : Canon ls ps) : ks = ls := by
  have p : ks.Perm ls := (List.perm_ext_iff_of_nodup h.2.1 h'.2.1).mpr fun z => (h.2.2 z).trans (h'.2.2 z).symm
  refine p.eq_of_pairwise (le := leS) (fun a b _ _ h1 h2 => ?_) (sorted_pw h.1) (sorted_pw h'.1)
  have e : a.cps.toList = b.cps.toList := by
    rcases Std.lt_trichotomy a.cps.toList b.cps.toList with c | c | c
    · exact absurd c h2
    · exact c
    · exact absurd c h1
  cases a
  cases b
  congr 1
  exact Array.toList_inj.mp e
end Sk

set_option Elab.async false
set_option maxRecDepth 100000
set_option maxHeartbeats 4000000
namespace Sk
open PySem PySem.Spec L2 PyProof.Rows
/-- name = {key: value for ..}, where the name's place is reused -/
theorem ps_setDc {X : Cx} {slot : Nat} {nm : Str} {np sp pos : Pos} {ke ve tg it : Expr} {sc : Scope} {own : List (Str × Nat)} {wi : TI} {g : TG} {tk tv : TE}
    (calm : X.calm = true) (nd : X.N.Nodup) (sl : X.N[slot]? = some nm) (lo : X.env.scope.names.lookup nm = some .local)
    (sw : swapsWith (.DictComp ke ve [⟨tg, it, [], 0⟩] sc pos) (some (.Name nm np)) sp.line X.env = pure true) (walk : PI X tg it wi) (ok : BlkOk X.N X.env.scope sc own)
    (hg : InBlk X sc fun Y => PG Y tg g) (hk : InBlk X sc fun Y => PE Y ke tk) (hv : InBlk X sc fun Y => PE Y ve tv) (hs : ∀ x, foldedSetIterable it X.env x = pure x := by intro _; rfl) :
    PS X (.Assign [.Name nm np] (.DictComp ke ve [⟨tg, it, [], 0⟩] sc pos) sp) (tAsg (tDc wi g tYes tk tv (own.map (·.2))) (gName slot)) := by
  refine ⟨fun pins s σ H D I want => ?_⟩
  rw [exec_Assign_Name_used _ _ _ _ sw]
  refine wpAny_bind (wpAny_standAt (wpAny_bind ?_))
  have want : tDc wi g tYes tk tv (own.map (·.2)) σ H (fun x Hx => gName slot x σ Hx D.nx) := want
  show wpAny _ X.A (comprehension (.DictComp ke ve [⟨tg, it, [], 0⟩] sc pos) sc X.env (firstIterPos [⟨tg, it, [], 0⟩] pos) newDict false (eval it X.env) (some (assign (.Name nm np) X.env)) >>= fun _ => pure ()) _ _ s
  refine wpAny_bind (thn (dc_core (Qf := fun _ t => SP X pins D .next t) calm nd I walk ok hg (fun _ _ _ _ _ => pts_nil) hk hv hs want fun L C t m Hx J q hn fo => ?_) fun _ t z => wpAny_pure (wpAny_pure z))
  show wpAny _ _ (assign (.Name nm np) X.env (.ref L)) _ _ _
  refine wpAny_assign_Name (store_ok2 (v := V.ref L) J nd sl (.inl lo) rfl (fun t2 J2 ⟨a, same, at_⟩ => ?_) (.inr lo))
  obtain ⟨c0, c1, c2, c3, c4, c5⟩ := fo
  have apart : C ≠ a := by
    rcases at_ with z | z
    · rw [z]
      exact c1
    · exact fun e => c4 nm a z e.symm
  exact ⟨m, hn.sameBut same apart, fun h3 same3 => ⟨_, Hx, J2.turned (t' := t2.toks) (fun b o hb e => (same3.2 b hb).trans e) c0 c1 c3 c4 c5, q⟩⟩
theorem sw_dict {ke ve : Expr} {gs : List Comprehension} {sc : Scope} {pos np : Pos} {nm : Str} {l : Nat} {env : Env} (fn : env.scope.kind = .function) (lo : env.scope.names.lookup nm = some .local) (ln : (np.line == pos.line) = true)
    (no : (sc.names.any fun (n, k) => n == nm && (k == .local || k == .cell)) = false) : swapsWith (.DictComp ke ve gs sc pos) (some (.Name nm np)) l env = pure true := by
  have ky : env.kindOf nm = some .local := lo
  have bk : env.blockKind = .function := by
    unfold Env.blockKind
    rw [fn]
    rfl
  unfold swapsWith
  simp only [bk, ky, no, Expr.pos, ln]
  rfl
end Sk

set_option Elab.async false
set_option maxRecDepth 100000
set_option maxHeartbeats 4000000
namespace Sk
open PySem PySem.Spec L2 PyProof.Rows PySem.Froz
/-! ### set(a list of texts) -/
def gath (l : List Str) : List Str := l.foldl (fun t k => plus k t) []
theorem gath_snoc (l : List Str) (k : Str) : gath (l ++ [k]) = plus k (gath l) := by
  unfold gath
  rw [List.foldl_append]
  rfl
theorem gath_go (l : List Str) : ∀ t : List Str, (∀ z, z ∈ l.foldl (fun t k => plus k t) t ↔ z ∈ t ∨ z ∈ l) ∧ (l.foldl (fun t k => plus k t) t).length ≤ t.length + l.length := by
  induction l with
  | nil => intro t; simp
  | cons a l ih =>
    intro t
    have lp : (plus a t).length ≤ t.length + 1 := by
      unfold plus
      split <;> simp
    refine ⟨fun z => ?_, ?_⟩
    · rw [List.foldl_cons, (ih _).1, mem_plus, List.mem_cons]
      constructor
      · rintro ((h | h) | h)
        · exact .inr (.inl h)
        · exact .inl h
        · exact .inr (.inr h)
      · rintro (h | h | h)
        · exact .inl (.inr h)
        · exact .inl (.inl h)
        · exact .inr h
    · rw [List.foldl_cons, List.length_cons]
      have := (ih (plus a t)).2
      omega
theorem gath_mem (l : List Str) (z : Str) : z ∈ gath l ↔ z ∈ l := by
  unfold gath
  rw [(gath_go l []).1]
  simp
theorem gath_len (l : List Str) : (gath l).length ≤ l.length := by
  have := (gath_go l []).2
  rw [List.length_nil, Nat.zero_add] at this
  exact this
section
variable {P : Program} {w : World} {A : Around} {E : Value → Shared → Prop} {s : Shared}
theorem tx_loop {I : Addr} {fp wr : List Addr} {G : Array GenState → Array GenState → Prop} {n : Nat} {Pv : Nat → Value → Prop} {St : Nat → Shared → Prop} {R : Result → Shared → Prop}
    (walk : WalksS P w A.in1 I fp wr G n Pv St) (D : Addr) (off : D ∉ fp) (zs : List Str) (size : n = zs.length) (room : zs.length + 1 < scanBound) (item : ∀ i v, Pv i v → ∃ k t, zs[i]? = some k ∧ v = .str k t) :
    ∀ (left i : Nat) (s : Shared), n - i = left → i ≤ n → St i s → TxIn P w s.heap D (gath (zs.take i)) → (∀ s', Moved (D :: wr) G s s' → TxIn P w s'.heap D (gath zs) → R (.ok (.ret .none)) s') →
      codeAny (model P w) A (.builtin "set.update.loop" ⟨[.ref D, .ref I], []⟩) R s := by
  have offw : D ∉ wr := fun h => off (walk.sub _ h)
  have wider : ∀ b ∈ wr, b ∈ D :: wr := fun b hb => List.mem_cons_of_mem _ hb
  intro left
  induction left with
  | zero =>
    intro i s e hi st T done
    have hi : i = n := by omega
    subst hi
    refine codeAny_builtin PyProof.Rows.F.entry_set_update_loop ?_
    rw [Around.under_plainId PyProof.Rows.F.plain_set_update_loop]
    show wpAny _ A.in1 (pyNext (.ref I) >>= _) _ _ s
    refine wpAny_bind (walk.done s _ _ st fun s1 mv => ?_)
    rw [List.take_of_length_le (by omega)] at T
    show wpAny _ A.in1 (ret Value.none) _ _ s1
    exact wpAny_pure (done s1 (mv.mono wider) (T.at fun o q => mv.heap D o offw q))
  | succ left ih =>
    intro i s e hi st T done
    refine codeAny_builtin PyProof.Rows.F.entry_set_update_loop ?_
    rw [Around.under_plainId PyProof.Rows.F.plain_set_update_loop]
    show wpAny _ A.in1 (pyNext (.ref I) >>= _) _ _ s
    refine wpAny_bind (walk.item i s _ _ (by omega) st fun v s1 hv st1 mv => ?_)
    obtain ⟨k, u, hk0, rfl⟩ := item i v hv
    have T1 : TxIn P w s1.heap D (gath (zs.take i)) := T.at fun o q => mv.heap D o offw q
    have tk : zs.take (i + 1) = zs.take i ++ [k] := by rw [List.take_add_one, hk0]; rfl
    have few := gath_len (zs.take i)
    rw [List.length_take] at few
    obtain ⟨⟨es, ep, t⟩, ho, RT⟩ := id T1
    have key : (strKind P w).is k (.str k u) = true := is_str k u
    have next : ∀ h' : Heap, (∀ b o, b ≠ D → s1.heap.get? b = some o → h'.get? b = some o) → TxIn P w h' D (plus k (gath (zs.take i))) →
        Code.quiet (.builtin "set.update.loop" ⟨[.ref D, .ref I], []⟩) = true ∧ codeAny (model P w) A (.builtin "set.update.loop" ⟨[.ref D, .ref I], []⟩) R { s1 with heap := h', toks := s1.toks + 1 } := fun h' keep T2 => by
      refine ⟨plainId_quiet PyProof.Rows.F.plain_set_update_loop _, ih (i + 1) _ (by omega) (by omega) (walk.frame _ s1 _ _ st1 (Nat.le_succ _) fun b hb o q => keep b o (fun z => off (by rw [← z]; exact hb)) q) (by rw [tk, gath_snoc]; exact T2) fun s2 mv2 T3 => ?_⟩
      exact done s2 (Moved.trans walk.gtrans ((mv.mono wider).then_heap (Nat.le_succ _) fun b o hb q => keep b o (fun z => hb (by rw [z]; exact List.mem_cons_self)) q) mv2) T3
    show wpAny _ A.in1 (holding [Value.str k u] (setAdd D (.str k u)) >>= _) _ _ s1
    refine wpAny_bind (wpAny_holding ?_)
    unfold setAdd
    refine wpAny_holding (wpAny_bind ((strKind P w).pyHash key ?_))
    by_cases hk : k ∈ gath (zs.take i)
    · have el : ElemsOf (strKind P w) es.toList := RT.ok.el
      have fit : t.fits es.size = true := RT.ok.fit
      have sz : es.size < scanBound := by
        have := RT.ok.sz
        dsimp only at this
        omega
      obtain ⟨e, he, hq⟩ := (RT.ok.mem k).mp hk
      have hd : (sObj "set" (es, ep, t)).data = .set es ep t := rfl
      unfold setAddHashed setAddHashedIn
      refine wpAny_holding (wpAny_bind (wpAny_setState_of (s := { s1 with toks := s1.toks + 1 }) ho hd fit ?_))
      dsimp only
      rw [byScan_of rfl sz el]
      simp only [↓reduceIte]
      unfold setAddByScan
      refine wpAny_bind (wpAny_bind (wpAny_rule (wpAny_bind (wpAny_setScan_of (knd := strKind P w) (k := k) key ho hd fit el ?_))))
      cases c : List.findIdx? (fun e => (strKind P w).is k e.2) es.toList with
      | none =>
        have z := List.findIdx?_eq_none_iff.mp c e he
        rw [hq] at z
        cases z
      | some j =>
        dsimp only
        have q := next s1.heap (fun _ _ _ e => e) (by unfold plus; rw [if_pos hk]; exact ⟨_, ho, RT⟩)
        first
          | exact wpAny_pure (wpAny_pure (wpAny_pure q))
          | exact wpAny_pure (wpAny_pure q)
          | exact wpAny_pure q
    · refine add_x (s := { s1 with toks := s1.toks + 1 }) ho RT.ok hk (by omega) ?_
      have q := next _ (fun b o n e => by rw [Heap.get?_update_other _ _ (Ne.symm n)]; exact e) ⟨_, get_upd _ ho rfl, by unfold plus; rw [if_neg hk]; exact RT.new u hk⟩
      first
        | exact wpAny_pure q
        | exact q
theorem strs_get : ∀ {us : List Value} {zs : List Str} {i : Nat} {v : Value}, StrsAre us zs → us[i]? = some v → ∃ k t, zs[i]? = some k ∧ v = .str k t
  | _, _, _, _, .nil, q => by simp at q
  | _, _, 0, _, .cons k t h, q => ⟨k, t, rfl, by simpa using q.symm⟩
  | _, _, i + 1, _, .cons k t h, q => by
    obtain ⟨a, b, c, d⟩ := strs_get (i := i) h (by simpa using q)
    exact ⟨a, b, by simpa using c, d⟩
theorem set_texts {l : Addr} {items : Array Value} (zs : List Str) {Q : Value → Shared → Prop} (calm : A.handled = none) (list : s.heap.IsList l items) (tx : StrsAre items.toList zs) (room : zs.length + 1 < scanBound)
    (want : ∀ (h' : Heap) (tk : Nat), TxIn P w h' s.heap.objs.size (gath zs) → (∀ b o, s.heap.get? b = some o → h'.get? b = some o) → Q (.ref s.heap.objs.size) { s with heap := h', toks := tk }) :
    wpAny (model P w) A (call (.type "set") [.ref l]) Q E s := by
  have size : items.size = zs.length := by rw [← StrsAre.len_eq tx, Array.length_toList]
  obtain ⟨mc, mt, mro⟩ := PySem.F.called_set.mro
  have made := PySem.F.called_set.made
  have below := PySem.F.called_set.sub
  refine wpAny_call (codeAny_of_tree ?_)
  show wpAny _ _ (callAny (.type "set") _) _ _ _
  refine wpAny_pure ⟨Code.quiet_builtin _ (by decide +kernel), codeAny_builtin PySem.F.entry_type_call ?_⟩
  rw [Around.under_plain (weight_type_call_type "set" [.ref l] []) (by rfl)]
  have f1 := PySem.F.called_set.notType
  have f2 := PySem.F.called_set.canCreate
  have f3 := PySem.F.typeCall_set_1 (.ref l)
  (repeat (any_goals (first | assumption | wp_step)))
  refine codeAny_mono (code_set_led1 (.ref l) (E := E) (Q₁ := fun got t => got = .ref s.heap.objs.size ∧ t = { s with heap := s.heap.push (bareSet w) }) ⟨rfl, rfl⟩) fun r s1 hr => ?_
  match r, hr with
  | .error e, hr => exact hr
  | .ok .next, hr => exact hr.elim
  | .ok .brk, hr => exact hr.elim
  | .ok .cont, hr => exact hr.elim
  | .ok (.ret got), hr =>
    obtain ⟨rfl, rfl⟩ := hr
    have new : (s.heap.push (bareSet w)).get? s.heap.objs.size = some (bareSet w) := Heap.get?_push_size _ rfl
    have isSet : Shared.TypeIs { s with heap := s.heap.push (bareSet w) } (.ref s.heap.objs.size) "set" := ⟨_, new, rfl⟩
    have i1 := PySem.F.called_set.init.lookup
    have i2 := PySem.F.called_set.init.bind (.ref s.heap.objs.size)
    (repeat (any_goals (first | assumption | wp_step)))
    refine codeAny_mono (codeAny_call_builtin (R := wants (fun r t => r = .none ∧ ∃ h' tk, t = { s with heap := h', toks := tk } ∧ TxIn P w h' s.heap.objs.size (gath zs) ∧ (∀ b o, s.heap.get? b = some o → h'.get? b = some o)) E)
      PySem.F.called_set.init.plain PySem.F.entry_set_init (check_set_init_1 isSet ?_)) fun r t hr => ?_
    · obtain ⟨⟨lc, ld, dat, sl⟩, at_l, c1, ln, c2⟩ := list
      simp only at c1 c2
      subst c1
      subst c2
      have at_l2 : (s.heap.push (bareSet w)).get? l = some { cls := .type "list", dict := ld, data := .seq items ln, slots := sl } := Heap.get?_push_of_some _ at_l
      have g1 := PySem.F.sub_list_set
      have g2 := PySem.F.sub_list_frozenset
      have g3 : (Value.type "list" == Value.type "dict") = false := by decide +kernel
      have list2 : (s.heap.push (bareSet w)).IsList l items := ⟨_, at_l2, rfl, ln, rfl⟩
      unfold Builtin.«set.__init__» noKeywords Builtin.Frozenset.updateFrom
      generalize hPI : pyIter = PI
      wp_walk
      subst hPI
      refine wpAny_pyIter_list list2 (wpAny_bind (wpAny_runValue ?_))
      have lt := Heap.lt_size at_l
      have quiet : A.in1.in1.in1.handled = none := by rw [Around.in1_handled, Around.in1_handled, Around.in1_handled]; exact calm
      have sz1 : (s.heap.push (bareSet w)).objs.size = s.heap.objs.size + 1 := Heap.size_push ..
      have ne1 : l ≠ (s.heap.push (bareSet w)).objs.size := by
        rw [sz1]
        exact Nat.ne_of_lt (Nat.lt_succ_of_lt lt)
      have off : s.heap.objs.size ∉ [(s.heap.push (bareSet w)).objs.size, l] := by
        rw [sz1]
        intro z
        rcases List.mem_cons.mp z with z | z
        · exact Nat.ne_of_lt (Nat.lt_succ_self _) z
        · exact Nat.ne_of_gt lt (List.mem_singleton.mp z)
      refine tx_loop ((Walks.list quiet _ l ne1 items).toS) s.heap.objs.size off zs size room (fun i v hv => ?_) (items.size - 0) 0 _ (by omega) (Nat.zero_le _) ⟨⟨_, Heap.get?_push_size _ rfl, rfl, rfl⟩, list2.push _⟩ ?_ fun t mv T => ?_
      · exact strs_get tx (by rw [Array.getElem?_toList]; exact hv)
      · exact (txIn_fresh s.heap).at fun o q => Heap.get?_push_of_some _ q
      · obtain ⟨h', tg, td, tk, to⟩ := t
        have eg : tg = s.gens := mv.gens
        have ed : td = s.drawn := mv.drawn
        have eo : to = s.os := mv.os
        subst eg
        subst ed
        subst eo
        show wpAny _ _ _ _ _ _
        refine wpAny_pure ?_
        show wpAny _ _ (ret Value.none) _ _ _
        refine wpAny_pure ⟨rfl, h', tk, rfl, T, fun b o e => ?_⟩
        have hb := Heap.lt_size e
        refine mv.heap b o (fun z => ?_) (Heap.get?_push_of_some _ (Heap.get?_push_of_some _ e))
        rcases List.mem_cons.mp z with z | z
        · exact Nat.ne_of_lt hb z
        · have z := List.mem_singleton.mp z
          rw [sz1] at z
          exact Nat.ne_of_lt (Nat.lt_succ_of_lt hb) z
    · match r, hr with
      | .error e, hr => exact hr
      | .ok .next, hr => exact hr.elim
      | .ok .brk, hr => exact hr.elim
      | .ok .cont, hr => exact hr.elim
      | .ok (.ret got), hr =>
        obtain ⟨rfl, h', tk, rfl, T, keep⟩ := hr
        (repeat (any_goals (first | assumption | wp_step)))
        exact want _ _ T keep
end
/-- set(xs), xs a list of texts -/
def rSetTx (P : Program) (w : World) (K : PySem.W.Frag) : List V → Hp → VK → Prop := fun vs H Q => ∃ (a : Addr) (zs : List Str), vs = [V.ref a] ∧ SqL K H a (zs.map V.str) ∧ zs.length + 1 < scanBound ∧
  ∀ p, H p = none → Q (.ref p) (upd H p (TxO P w p (gath zs)))
theorem call_setTx {X : Cx} (hc : X.calm = true) : CallR X (.type "set") (rSetTx X.prog X.w X.K) := by
  rintro pins s σ H vs us Q I r ⟨a, zs, rfl, ha, room, q⟩
  rw [Vals.ref1 r]
  obtain ⟨its, rv, pl, hz⟩ := I.list ha
  refine set_texts (items := its.toArray) zs (I.ok.hd hc) pl.isList (by simpa using strs_of_vals rv) room fun h' tk T keep => ?_
  have n0 : H s.heap.objs.size = none := I.hok.fresh (Nat.le_refl _)
  exact ⟨.ref s.heap.objs.size, _, I.laid (t' := tk) keep (Nat.le_refl _) (txO_ok T), rfl, q _ n0⟩
/-- xs.count(z), xs a list of texts -/
def occ (l : List Str) (y : Str) : Int := ((l.filter fun z => decide (z = y)).length : Int)
def sameTx (k : Str) (v : Value) : Bool := match v with
  | .str z _ => z.cps.toList == k.cps.toList
  | _ => false
theorem sameTx_eq (z k : Str) : (z.cps.toList == k.cps.toList) = decide (z = k) := by
  rw [Bool.eq_iff_iff]
  simp only [beq_iff_eq, decide_eq_true_eq]
  constructor
  · intro e
    cases z
    cases k
    congr 1
    exact Array.toList_inj.mp e
  · intro e
    rw [e]
theorem count_tx {k : Str} : ∀ {us : List Value} {zs : List Str}, StrsAre us zs → ((us.countP (sameTx k) : Nat) : Int) = occ zs k
  | _, _, .nil => rfl
  | _, _, .cons z t h => by
    have ih := count_tx (k := k) h
    have e : sameTx k (.str z t) = decide (z = k) := sameTx_eq z k
    unfold occ at ih ⊢
    rw [List.countP_cons, List.filter_cons, e]
    by_cases c : z = k
    · rw [decide_eq_true c]
      simp only [if_true, List.length_cons]
      omega
    · rw [decide_eq_false c]
      simp only [Bool.false_eq_true, if_false]
      omega
theorem same_gives {k : Str} {t : Tok} : ∀ {us : List Value} {zs : List Str}, StrsAre us zs → ∀ y ∈ us, MeetsSeq.EqGives y (.str k t) (sameTx k y)
  | _, _, .nil => fun y hy => by cases hy
  | _, _, .cons z u h => fun y hy => by
    rcases List.mem_cons.mp hy with rfl | hy
    · exact SeqRoads2.EqGives.str z k u t
    · exact same_gives h y hy
def rCntS (K : PySem.W.Frag) : V → List V → Hp → VK → Prop := fun x xs H Q => ∃ (p : Addr) (zs : List Str) (k : Str), x = .ref p ∧ xs = [.str k] ∧ SqL K H p (zs.map V.str) ∧ Q (.int (occ zs k)) H
theorem mt_countS {X : Cx} : MtR X "list.count" (rCntS X.K) := by
  rintro pins s σ H x xs v us Q I rx rxs ⟨p, zs, k, rfl, rfl, hs, q⟩
  cases rx
  obtain ⟨u, rfl, ru⟩ := rxs.one
  obtain ⟨t, rfl⟩ := ru
  obtain ⟨its, rv, ⟨⟨cls, dd, data, sl⟩, n, ho, c1, c2, c3⟩, _⟩ := I.list hs
  simp only at c1 c3
  subst c1
  subst c3
  have tx := strs_of_vals rv
  refine call_meets PySem.F.slot_list_count ⟨_, ho, rfl⟩ PySem.F.entry_list_count (PySem.F.args_list_count_2 _ _) (SeqAt.list_countAt p its.toArray n dd sl (.str k t) (sameTx k))
    ⟨ho, fun y hy => (same_gives tx y (by simpa using hy)).at _ _, .int (occ zs k), H, I.tok _, ⟨s.toks, ?_⟩, q⟩
  show Value.int ((its.toArray.toList.countP (sameTx k) : Nat) : Int) s.toks = _
  have e : ((its.countP (sameTx k) : Nat) : Int) = occ zs k := count_tx tx
  rw [← e]
end Sk

set_option Elab.async false
set_option maxRecDepth 100000
set_option maxHeartbeats 4000000
namespace Sk
open PySem PySem.Spec L2 PyProof.Rows
/-! ### putting one after the other in gives the sorted list -/
section
variable (kt : V → Int × Int)
def kLt (a b : V) : Prop := (kt a).1 < (kt b).1 ∨ ((kt a).1 = (kt b).1 ∧ (kt a).2 < (kt b).2)
instance (a b : V) : Decidable (kLt kt a b) := by unfold kLt; infer_instance
def kB (x y : V) : Bool := decide (kLt kt y x)
theorem ins_split (x : V) : ∀ {due : List V}, due.Pairwise (kLt kt) → (∀ y ∈ due, kt y ≠ kt x) → ∃ A B, due = A ++ B ∧ due.filter (kB kt x) = A ∧ (∀ a ∈ A, kLt kt a x) ∧ ∀ b ∈ B, kLt kt x b
  | [], _, _ => ⟨[], [], rfl, rfl, (fun _ h => nomatch h), fun _ h => nomatch h⟩
  | y :: r, h, ne => by
    obtain ⟨h1, h2⟩ := List.pairwise_cons.mp h
    by_cases c : kLt kt y x
    · obtain ⟨A, B, e, f, a, b⟩ := ins_split x h2 fun z hz => ne z (List.mem_cons_of_mem _ hz)
      refine ⟨y :: A, B, by rw [e]; rfl, ?_, fun z hz => ?_, b⟩
      · rw [List.filter_cons_of_pos (by unfold kB; exact decide_eq_true c), f]
      · rcases List.mem_cons.mp hz with rfl | hz
        · exact c
        · exact a z hz
    · have n := ne y (List.mem_cons_self ..)
      have xy : kLt kt x y := by
        unfold kLt at c ⊢
        by_cases e : (kt y).1 = (kt x).1
        · have : (kt y).2 ≠ (kt x).2 := fun q => n (Prod.ext e q)
          omega
        · omega
      have all : ∀ b ∈ y :: r, kLt kt x b := fun b hb => by
        rcases List.mem_cons.mp hb with rfl | hb
        · exact xy
        · have := h1 b hb
          unfold kLt at this xy ⊢
          omega
      refine ⟨[], y :: r, rfl, ?_, (fun _ h => nomatch h), all⟩
      refine List.filter_eq_nil_iff.mpr fun b hb q => ?_
      have h5 := all b hb
      have h6 : kLt kt b x := of_decide_eq_true q
      unfold kLt at h5 h6
      omega
/-- one more, put in behind those that are less -/
def putIn (x : V) (due : List V) : List V := due.take (due.filter (kB kt x)).length ++ [x] ++ due.drop (due.filter (kB kt x)).length
theorem putIn_ok {x : V} {due : List V} (h : due.Pairwise (kLt kt)) (ne : ∀ y ∈ due, kt y ≠ kt x) : (putIn kt x due).Pairwise (kLt kt) ∧ (putIn kt x due).Perm (due ++ [x]) := by
  obtain ⟨A, B, e, f, a, b⟩ := ins_split kt x h ne
  have p : putIn kt x due = A ++ [x] ++ B := by
    unfold putIn
    rw [f, e, List.take_left, List.drop_left]
  rw [p]
  rw [e] at h ⊢
  obtain ⟨h1, h2, h3⟩ := List.pairwise_append.mp h
  refine ⟨List.pairwise_append.mpr ⟨List.pairwise_append.mpr ⟨h1, List.pairwise_singleton _ _, fun y hy z hz => by rw [List.mem_singleton.mp hz]; exact a y hy⟩, h2, fun y hy z hz => ?_⟩, ?_⟩
  · rcases List.mem_append.mp hy with hy | hy
    · exact h3 y hy z hz
    · rw [List.mem_singleton.mp hy]
      exact b z hz
  · rw [List.append_assoc, List.append_assoc]
    exact List.Perm.append_left A List.perm_append_comm
def putAll (xs : List V) : List V := xs.foldl (fun due x => putIn kt x due) []
theorem putAll_snoc (xs : List V) (x : V) : putAll kt (xs ++ [x]) = putIn kt x (putAll kt xs) := by
  unfold putAll
  rw [List.foldl_append]
  rfl
theorem putAll_ok (xs : List V) (h : (xs.map kt).Nodup) : (putAll kt xs).Pairwise (kLt kt) ∧ (putAll kt xs).Perm xs := by
  have go : ∀ m : List V, (m.reverse.map kt).Nodup → (putAll kt m.reverse).Pairwise (kLt kt) ∧ (putAll kt m.reverse).Perm m.reverse := fun m => by
    induction m with
    | nil => exact fun _ => ⟨List.Pairwise.nil, .refl _⟩
    | cons x m ih =>
      intro nd
      rw [List.reverse_cons] at nd ⊢
      rw [List.map_append, List.nodup_append] at nd
      obtain ⟨n1, _, n3⟩ := nd
      obtain ⟨i1, i2⟩ := ih n1
      rw [putAll_snoc]
      obtain ⟨o1, o2⟩ := putIn_ok kt (x := x) i1 fun y hy => n3 _ (List.mem_map_of_mem (i2.mem_iff.mp hy)) _ (List.mem_singleton.mpr rfl)
      exact ⟨o1, o2.trans (i2.append_right _)⟩
  have := go xs.reverse
  rw [List.reverse_reverse] at this
  exact this h
theorem dataLe_kt (a b : V) : PySem.W.dataLe false (keyD kt) a b = decide ((kt a).1 < (kt b).1 ∨ ((kt a).1 = (kt b).1 ∧ (kt a).2 ≤ (kt b).2)) := by
  have e := PySem.W.dataLe_ii (β := V) (fun p => (kt p).1) (fun p => (kt p).2)
  exact congrFun (congrFun e a) b
theorem putAll_sorted (xs : List V) (h : (xs.map kt).Nodup) : putAll kt xs = inSeq kt xs := by
  obtain ⟨p1, p2⟩ := putAll_ok kt xs h
  have q1 : (inSeq kt xs).Pairwise fun a b => PySem.W.dataLe false (keyD kt) a b = true := by
    unfold inSeq
    refine List.pairwise_mergeSort (fun a b c h1 h2 => ?_) (fun a b => ?_) xs
    · rw [dataLe_kt] at h1 h2 ⊢
      simp only [decide_eq_true_eq] at h1 h2 ⊢
      omega
    · rw [dataLe_kt, dataLe_kt]
      simp only [Bool.or_eq_true, decide_eq_true_eq]
      omega
  have q2 : (inSeq kt xs).Perm xs := List.mergeSort_perm _ _
  have inj : ∀ a ∈ xs, ∀ b ∈ xs, kt a = kt b → a = b := fun a ha b hb e => by
    obtain ⟨i, hi, rfl⟩ := List.getElem_of_mem ha
    obtain ⟨j, hj, rfl⟩ := List.getElem_of_mem hb
    have := (List.getElem_inj (xs := xs.map kt) (h₀ := by rw [List.length_map]; exact hi) (h₁ := by rw [List.length_map]; exact hj) h).mp (by rw [List.getElem_map, List.getElem_map]; exact e)
    subst this
    rfl
  refine (p2.trans q2.symm).eq_of_pairwise (le := fun a b => PySem.W.dataLe false (keyD kt) a b = true) (fun a b ha hb h1 h2 => ?_) (p1.imp fun {a b} hab => ?_) q1
  · rw [dataLe_kt] at h1 h2
    simp only [decide_eq_true_eq] at h1 h2
    exact inj a (p2.mem_iff.mp ha) b (q2.mem_iff.mp hb) (Prod.ext (by omega) (by omega))
  · rw [dataLe_kt]
    unfold kLt at hab
    simp only [decide_eq_true_eq]
    omega
end
theorem lexLt_two (a b c d : Int) : HT.lexLt [a, b] [c, d] = decide (a < c ∨ (a = c ∧ b < d)) := by
  simp only [HT.lexLt]
  by_cases h : a = c
  · subst h
    simp
    omega
  · simp [h]
end Sk

set_option Elab.async false
set_option maxRecDepth 100000
set_option maxHeartbeats 4000000
namespace Sk
open PySem L2 PyProof.Rows
def top (i : Nat) : Stmt := PySem.Challenge.pw_stockcounts_k02_sequences_and_stretches.main.body.getD i (.Pass ⟨0, 0, 0, 0⟩)
structure Df (K : PySem.W.Frag) (mg : Str → Option Value) (x : Str) (st : Stmt) (f : Addr) (fd : FuncData) : Prop where
  F : Fun K x x st f fd
  g : mg x = some (.ref f)
structure Bi (mg : Str → Option Value) : Prop where
  len : mg "len" = none
  range : mg "range" = none
  max : mg "max" = none
  min : mg "min" = none
  repr : mg "repr" = none
  isinstance : mg "isinstance" = none
  sorted : mg "sorted" = none
  dict_ : mg "dict" = none
  set_ : mg "set" = none
structure Cs (mg : Str → Option Value) : Prop where
  out : ∃ t, mg "OUTSIDE" = some (.str "-" t)

theorem urn_turn {m e : Int} (h0 : 0 ≤ m) (h1 : m < 2 ^ 32) (he : Builtin.Int.intBits e ≤ 1048576) : CMul m 70001 ∧ CMulX e e ∧ CPowX (m * 70001 + e * e + 37) 2 := by
  have hn : e.natAbs < 2 ^ 1048576 := by
    by_cases z : e = 0
    · subst z
      exact Nat.pow_pos (by decide)
    · have z' : e.natAbs ≠ 0 := by omega
      refine (Nat.log2_lt z').mp ?_
      unfold Builtin.Int.intBits at he
      rw [if_neg (by simpa using z)] at he
      omega
  have hb : ∀ x : Int, x.natAbs < 2 ^ 3000000 → Builtin.Int.intBits x ≤ 3000000 := fun x h => intBits_lt h
  refine ⟨Or.inr ⟨by decide, by decide⟩, ?_, by decide, ?_⟩
  · intro z
    rw [Bool.and_eq_true] at z
    have z2 := z.2
    unfold Builtin.Int.intTooBig at z2
    have z3 := of_decide_eq_true z2
    have e1 : bitsLine = 134217728 := by decide
    rw [e1] at z3
    omega
  · have hm : (m * 70001 + e * e + 37).natAbs < 2 ^ 3000000 := by
      have t1 : (e * e).natAbs < 2 ^ (1048576 + 1048576) := wide_lt hn hn
      have t2 : (m * 70001 + 37).natAbs < 2 ^ 64 := by omega
      have t3 : (2 : Nat) ^ 64 ≤ 2 ^ (1048576 + 1048576) := Nat.pow_le_pow_right (by decide) (by decide)
      have t4 : (2 : Nat) ^ (1048576 + 1048576 + 1) ≤ 2 ^ 3000000 := Nat.pow_le_pow_right (by decide) (by decide)
      rw [Nat.pow_succ] at t4
      have t5 : (m * 70001 + e * e + 37).natAbs ≤ (m * 70001 + 37).natAbs + (e * e).natAbs := by omega
      generalize (2 : Nat) ^ (1048576 + 1048576) = A at *
      generalize (2 : Nat) ^ 3000000 = B at *
      omega
    have := hb _ hm
    show (Builtin.Int.intBits (m * 70001 + e * e + 37) : Int) * 2 ≤ 134217728
    omega
theorem mod_bd (x : Int) {k : Int} (hk : 0 < k) : 0 ≤ x % k ∧ x % k < k := ⟨Int.emod_nonneg _ (by omega), Int.emod_lt_of_pos _ hk⟩
section
variable {P : Program} {w : World} {K : PySem.W.Frag} {mg : Str → Option Value} {base : Heap}
abbrev s_urn : Stmt := top 8
abbrev N_urn : List Str := ["script", "start", "mixed", "entry", "digits"]
abbrev P_urn : List Str := ["script", "start"]
theorem sc_urn : FnScope N_urn P_urn (defScope s_urn) := ⟨rfl, rfl, rfl, by decide +kernel, rfl, by decide +kernel, by decide +kernel⟩
theorem bi_urn {f : Addr} {fd : FuncData} {x : Str} {K : PySem.W.Frag} (F : Fun K x x s_urn f fd) : Binds K fd P_urn [] :=
  F.binds fun _ _ _ _ _ _ us hl => match us, hl with | [_, _], _ => rfl
theorem ok_urn {f : Addr} {fd : FuncData} (D : Df K mg "_law_urn" s_urn f fd) (T : Bi mg) : FnOk P w K mg base CX0 2 f fd P_urn (spUrn K) := by
  refine D.F.ok sc_urn (fun vs H Q E h => ?_) (fun cdv A outer s H vs Q E hr h => ?_)
  · obtain ⟨a, st, ns, rfl, _⟩ := h
    rfl
  · obtain ⟨a, st, ns, rfl, hS, hst, hbits, k⟩ := h
    have hu := hu_of hr
    refine ⟨_, (pss_cons (ps_set (i := 2) sc_urn.nd rfl (Or.inl rfl) (pe_op op_add pe_int (pe_op op_mul (pv 1) pe_int)))
      (pss_cons (ps_for PassesOwn.never rfl (pi_list (pv 0)) (pg_name (i := 3) sc_urn.nd rfl (Or.inl rfl))
      (pss_one (ps_set (i := 2) sc_urn.nd rfl (Or.inl rfl) (pe_op op_add (pe_op op_mod (pe_op op_powX (pe_op op_add (pe_op op_add (pe_op op_mul (pv 2) pe_int) (pe_op op_mulX (pv 3) (pv 3))) pe_int) pe_int) pe_int) pe_int))))
      (pss_cons (ps_set (i := 4) sc_urn.nd rfl (Or.inl rfl) (pe_ifExp (PW.pt (pw_and (pt_cmpR op_lt (pv 1) (pe_callB (call_len_seq) (by rfl) T.len PySem.boot_len (pa_cons (pv 0) pa_nil)) (nomark _)) (pw_and1 (pt_cmpR op_ge (pe_ix ix_list (pv 0) (pv 1) (fun _ _ => rfl)) (pe_op op_pow pe_int pe_int) (nomark _))))) (pe_op op_sub (pe_ix ix_list (pv 0) (pv 1) (fun _ _ => rfl)) (pe_op op_pow pe_int pe_int)) pe_int))
      (pss_one (ps_ret (pe_disp (pps_cons pe_str (pv 4) (pps_cons pe_str (pv 2) pps_nil)) (by rfl) (by rfl) (fun z => by cases z) (by decide))))))), ?_⟩
    refine ⟨_, rfl, _, _, rfl, rfl, Or.inl ⟨by omega, by omega⟩, _, _, rfl, rfl, ?_⟩
    refine ⟨_, rfl, a, rfl, ⟨_, hS⟩, for_list (K := K) (a := a) (xs := ns.map V.int) (fun i σ H' => ∃ (m : Int) (v : Option V), σ = [some (.ref a), some (.int (st : Int)), some (.int m), v, none] ∧ H' = H ∧ 0 ≤ m ∧ m < 2 ^ 32)
      ⟨_, none, rfl, rfl, by omega, by omega⟩ (fun i σ H' _ ⟨_, _, _, e, _⟩ => by rw [e]; exact hS) ?_ ?_⟩
    · rintro i y σ H' hi ⟨m, v, rfl, rfl, h0, h1⟩
      obtain ⟨z, hz, rfl⟩ : ∃ z, z ∈ ns ∧ y = V.int z := by
        obtain ⟨z, hz, e⟩ := List.mem_map.mp (List.mem_of_getElem? hi)
        exact ⟨z, hz, e.symm⟩
      obtain ⟨c1, c2, c3⟩ := urn_turn h0 h1 (hbits z hz)
      refine ⟨_, rfl, _, _, rfl, rfl, c1, _, rfl, _, rfl, _, _, rfl, rfl, c2, _, _, rfl, rfl, _, _, rfl, rfl, _, _, rfl, rfl, c3, _, _, rfl, rfl, (by show (0 : Int) < 2147483489; decide), _, _, rfl, rfl, ?_⟩
      obtain ⟨b0, b1⟩ := mod_bd ((m * 70001 + z * z + 37) ^ (2 : Int).toNat) (k := 2147483489) (by decide)
      refine ⟨_, some (.int z), rfl, rfl, ?_, ?_⟩ <;> omega
    · rintro σ H' ⟨m, v, rfl, rfl, h0, h1⟩
      have fin : ∀ dg : Int, 0 ≤ dg → ∀ (p : Addr), H' p = none → Q (.ref p) (upd (upd H' p (.dK [])) p (urnO dg m)) := fun dg hd p hp => by
        refine k p _ hp (fun b o e => ?_) ⟨dg, m, upd_same, hd, h0, h1⟩
        rw [upd_ne (ne_of_none e hp), upd_ne (ne_of_none e hp)]
        exact e
      -- digits
      refine ⟨_, rfl, _, rfl, a, _, rfl, .inl hS, _, _, rfl, rfl, _, rfl, ?_⟩
      refine ite2 (fun c => ?_) (fun c => ?_)
      · have c := of_decide_eq_true c
        rw [List.length_map] at c
        obtain ⟨n, hn⟩ : ∃ n, ns[st]? = some n := ⟨ns[st]'(by omega), by simp⟩
        have ha : atI (ns.map V.int) (st : Int) = some (.int n) := atI_nat (by rw [List.getElem?_map, hn]; rfl)
        refine ⟨_, rfl, _, rfl, a, _, _, _, rfl, rfl, hS, ha, _, _, rfl, rfl, ⟨by decide, by decide, by decide⟩, _, _, rfl, rfl, _, rfl, ?_⟩
        refine ite2 (fun c2 => ?_) (fun c2 => ?_)
        · have c2 := of_decide_eq_true c2
          refine ⟨_, rfl, _, rfl, a, _, _, _, rfl, rfl, hS, ha, _, _, rfl, rfl, ⟨by decide, by decide, by decide⟩, _, _, rfl, rfl, ?_⟩
          intro p hp
          refine ⟨_, rfl, _, rfl, upd_same, [(Sum.inr "digits", _), (Sum.inr "mixed", _)], rfl, (by show 2 ≤ 15; decide), ?_⟩
          exact fin _ (by omega) p hp
        · intro p hp
          refine ⟨_, rfl, _, rfl, upd_same, [(Sum.inr "digits", _), (Sum.inr "mixed", _)], rfl, (by show 2 ≤ 15; decide), ?_⟩
          exact fin 0 (by omega) p hp
      · refine iteF ?_
        intro p hp
        refine ⟨_, rfl, _, rfl, upd_same, [(Sum.inr "digits", _), (Sum.inr "mixed", _)], rfl, (by show 2 ≤ 15; decide), ?_⟩
        exact fin 0 (by omega) p hp
abbrev s_draw : Stmt := top 9
abbrev N_draw : List Str := ["urn", "size", "found"]
abbrev P_draw : List Str := ["urn", "size"]
theorem sc_draw : FnScope N_draw P_draw (defScope s_draw) := ⟨rfl, rfl, rfl, by decide +kernel, rfl, by decide +kernel, by decide +kernel⟩
theorem bi_draw {f : Addr} {fd : FuncData} {x : Str} {K : PySem.W.Frag} (F : Fun K x x s_draw f fd) : Binds K fd P_draw [] :=
  F.binds fun _ _ _ _ _ _ us hl => match us, hl with | [_, _], _ => rfl
theorem dm : ¬ (("digits" : Str) = "mixed") := by decide +kernel
theorem md : ¬ (("mixed" : Str) = "digits") := by decide +kernel
theorem put_d (dg mx z : Int) : putK ([(Sum.inr "digits", V.int dg), (Sum.inr "mixed", V.int mx)] : List (Key × V)) (Sum.inr "digits") (.int z) = ([(Sum.inr "digits", V.int z), (Sum.inr "mixed", V.int mx)] : List (Key × V)) := by
  first | rfl | decide +kernel | simp [putK]
theorem put_m (dg mx z : Int) : putK ([(Sum.inr "digits", V.int dg), (Sum.inr "mixed", V.int mx)] : List (Key × V)) (Sum.inr "mixed") (.int z) = ([(Sum.inr "digits", V.int dg), (Sum.inr "mixed", V.int z)] : List (Key × V)) := by
  first | rfl | decide +kernel | simp [putK, dm]
theorem val_d (dg mx : Int) : valV ([(Sum.inr "digits", V.int dg), (Sum.inr "mixed", V.int mx)] : List (Key × V)) (Sum.inr "digits") = some (.int dg) := by
  first | rfl | decide +kernel | simp [valV]
theorem val_m (dg mx : Int) : valV ([(Sum.inr "digits", V.int dg), (Sum.inr "mixed", V.int mx)] : List (Key × V)) (Sum.inr "mixed") = some (.int mx) := by
  first | rfl | decide +kernel | simp [valV, dm]
theorem get_d {H : Hp} {u : Addr} {dg mx : Int} (e : H u = some (urnO dg mx)) : DGet H u (.str "digits") (some (.int dg)) := by
  have h := DGet.k (k := (Sum.inr "digits" : Key)) e
  rw [val_d] at h
  exact h
theorem get_m {H : Hp} {u : Addr} {dg mx : Int} (e : H u = some (urnO dg mx)) : DGet H u (.str "mixed") (some (.int mx)) := by
  have h := DGet.k (k := (Sum.inr "mixed" : Key)) e
  rw [val_m] at h
  exact h
theorem dput_d {H : Hp} {u : Addr} {dg mx : Int} (z : Int) (e : H u = some (urnO dg mx)) : DPut H u (.str "digits") (.int z) (upd H u (urnO z mx)) := by
  have h := DPut.k (k := (Sum.inr "digits" : Key)) (v := .int z) e (by show 2 < sizeLine; decide)
  rw [put_d] at h
  exact h
theorem dput_m {H : Hp} {u : Addr} {dg mx : Int} (z : Int) (e : H u = some (urnO dg mx)) : DPut H u (.str "mixed") (.int z) (upd H u (urnO dg z)) := by
  have h := DPut.k (k := (Sum.inr "mixed" : Key)) (v := .int z) e (by show 2 < sizeLine; decide)
  rw [put_m] at h
  exact h
theorem ok_draw {f : Addr} {fd : FuncData} (D : Df K mg "_law_draw" s_draw f fd) : FnOk P w K mg base CX0 1 f fd P_draw spDraw := by
  refine D.F.ok sc_draw (fun vs H Q E h => ?_) (fun cdv A outer s H vs Q E hr h => ?_)
  · obtain ⟨u, n, rfl, _⟩ := h
    rfl
  · obtain ⟨u, n, rfl, ⟨dg, mx, e, d0, m0, m1⟩, n1, n2, k⟩ := h
    have hu := hu_of hr
    refine ⟨_, (pss_cons (ps_if (pt_cmpR op_ge (pe_dget hu (pv 0) pe_str (fun _ _ => rfl)) (pv 1) (nomark _)) (pss_cons (ps_set (i := 2) sc_draw.nd rfl (Or.inl rfl) (pe_op op_mod (pe_dget hu (pv 0) pe_str (fun _ _ => rfl)) (pv 1)))
        (pss_cons (ps_dput hu (pv 0) pe_str (pe_op op_fdiv (pe_dget hu (pv 0) pe_str (fun _ _ => rfl)) (pv 1)) rfl)
        (pss_one (ps_ret (pv 2))))) pss_nil)
      (pss_cons (ps_dput hu (pv 0) pe_str (pe_op op_mod (pe_op op_add (pe_op op_mul (pe_dget hu (pv 0) pe_str (fun _ _ => rfl)) pe_int) pe_int) pe_int) rfl)
      (pss_one (ps_ret (pe_op op_mod (pe_op op_fdiv (pe_op op_mod (pe_op op_pow (pe_op op_mod (pe_op op_pow (pe_dget hu (pv 0) pe_str (fun _ _ => rfl)) pe_int) pe_int) pe_int) pe_int) pe_int) (pv 1)))))), ?_⟩
    refine ⟨_, rfl, u, _, rfl, get_d e, _, rfl, _, _, rfl, rfl, _, rfl, ?_⟩
    refine ite2 (fun c => ?_) (fun c => ?_)
    · refine ⟨_, rfl, u, _, rfl, get_d e, _, rfl, _, _, rfl, rfl, (by show 0 < n; omega), ?_⟩
      refine ⟨_, rfl, u, _, rfl, get_d e, _, rfl, _, _, rfl, rfl, ⟨by omega, by omega⟩, _, rfl, u, _, rfl, dput_d _ e, _, rfl, ?_⟩
      obtain ⟨b0, b1⟩ := mod_bd dg (k := n) (by omega)
      exact k _ _ b0 b1 ⟨_, mx, upd_same, Int.ediv_nonneg d0 (by omega), m0, m1⟩ Mo.at
    · refine ⟨_, rfl, u, _, rfl, get_m e, _, _, rfl, rfl, Or.inl ⟨by omega, by omega⟩, _, _, rfl, rfl, _, _, rfl, rfl, (by show (0 : Int) < 2147483647; decide), _, rfl, u, _, rfl, dput_m _ e, ?_⟩
      obtain ⟨b0, b1⟩ := mod_bd (mx * 45991 + 6043) (k := 2147483647) (by decide)
      obtain ⟨c0, c1⟩ := mod_bd (((mx * 45991 + 6043) % 2147483647) ^ (2 : Int).toNat) (k := 2147483587) (by decide)
      refine ⟨_, rfl, u, _, rfl, get_m (dg := dg) upd_same, _, _, rfl, rfl, ⟨by decide, by decide, by omega⟩, _, _, rfl, rfl, (by show (0 : Int) < 2147483587; decide), _, _, rfl, rfl, ⟨by decide, by decide, by omega⟩,
        _, _, rfl, rfl, (by show (0 : Int) < 1000000021; decide), _, _, rfl, rfl, ⟨by decide, by decide⟩, _, rfl, _, _, rfl, rfl, (by show 0 < n; omega), ?_⟩
      obtain ⟨g0, g1⟩ := mod_bd ((((((mx * 45991 + 6043) % 2147483647) ^ (2 : Int).toNat) % 2147483587) ^ (3 : Int).toNat) % 1000000021 / 17) (k := n) (by omega)
      exact k _ _ g0 g1 ⟨dg, _, upd_same, d0, b0, by omega⟩ Mo.at
abbrev s_choose : Stmt := top 10
abbrev N_choose : List Str := ["urn", "things"]
abbrev P_choose : List Str := ["urn", "things"]
theorem sc_choose : FnScope N_choose P_choose (defScope s_choose) := ⟨rfl, rfl, rfl, by decide +kernel, rfl, by decide +kernel, by decide +kernel⟩
theorem bi_choose {f : Addr} {fd : FuncData} {x : Str} {K : PySem.W.Frag} (F : Fun K x x s_choose f fd) : Binds K fd P_choose [] :=
  F.binds fun _ _ _ _ _ _ us hl => match us, hl with | [_, _], _ => rfl
theorem ok_choose {f f1 : Addr} {fd fd1 : FuncData} (D : Df K mg "_law_choose" s_choose f fd) (D_draw : Df K mg "_law_draw" s_draw f1 fd1) (T : Bi mg) : FnOk P w K mg base CX0 2 f fd P_choose spChoose := by
  have G_draw := ok_draw (P := P) (w := w) (base := base) D_draw
  have b_draw := bi_draw D_draw.F
  refine D.F.ok sc_choose (fun vs H Q E h => ?_) (fun cdv A outer s H vs Q E hr h => ?_)
  · obtain ⟨u, l, xs, rfl, _⟩ := h
    rfl
  · obtain ⟨u, l, xs, rfl, U, hl, n1, n2, k⟩ := h
    refine ⟨_, (pss_one (ps_ret (pe_ix ix_list (pv 1) (pe_call G_draw (hr.mono (by decide)) rfl D_draw.g D_draw.F.kp b_draw .nil pass0 (pa_cons (pv 0) (pa_cons (pe_callB (call_len_seq) (by rfl) T.len PySem.boot_len (pa_cons (pv 1) pa_nil)) pa_nil))) (fun _ _ => rfl)))), ?_⟩
    refine ⟨_, rfl, _, rfl, _, rfl, l, _, rfl, .inl (.of hl), u, _, rfl, U, by omega, by omega, fun r H' r0 r1 U' m => ?_⟩
    obtain ⟨j, rfl⟩ : ∃ j : Nat, r = (j : Int) := ⟨r.toNat, by omega⟩
    have hj : j < xs.length := by omega
    refine ⟨l, xs, _, _, rfl, rfl, .of (U.lst m hl), atI_nat (List.getElem?_eq_getElem hj), ?_⟩
    exact k _ _ (List.getElem_mem hj) U' m
end
end Sk

set_option Elab.async false
set_option maxRecDepth 100000
set_option maxHeartbeats 4000000
namespace Sk
open PySem L2 PyProof.Rows

/-! ### records as the law draws them -/
def MarkV (v : V) : Prop := v = .non ∨ ∃ i : Int, v = .int i ∧ 1 ≤ i ∧ i ≤ 12
def places : List Str := ["a", "b", "c", "shelf", "van"]
def out1 : Str := "-"
theorem out_no : out1 ∉ places := by decide +kernel
def IsRec (n : Int) (zs : List Str) (xs : List V) : Prop :=
  (∃ (t : Int) (z : Str) (c : Int) (k : V), xs = [.int n, .int t, .str z, .int c, k] ∧ 0 ≤ t ∧ t < 20 ∧ z ∈ zs ∧ 0 ≤ c ∧ c < 7 ∧ MarkV k) ∨
  (∃ (t : Int) (o g : Str) (c : Int) (k : V), xs = [.int n, .int t, .str o, .str g, .int c, k] ∧ 0 ≤ t ∧ t < 20 ∧ o ∈ out1 :: zs ∧ g ∈ out1 :: zs ∧ g ≠ o ∧ 0 ≤ c ∧ c < 7 ∧ MarkV k)
def spMark : Sp := fun vs H Q _ => ∃ (u : Addr), vs = [.ref u] ∧ Urn H u ∧ ∀ (v : V) (H' : Hp), MarkV v → Urn H' u → Mo u H H' → Q v H'
def spEntry : Sp := fun vs H Q _ => ∃ (u l : Addr) (n : Int) (zs : List Str), vs = [.ref u, .int n, .ref l] ∧ Urn H u ∧ H l = some (.lst (zs.map V.str)) ∧ 1 ≤ zs.length ∧ zs.length ≤ 10 ∧ (∀ z ∈ zs, z ∈ places) ∧
  ∀ (p : Addr) (xs : List V) (H' : Hp), H p = none → IsRec n zs xs → H' p = some (.tup xs) → Urn H' u → Mo u H H' → Q (.ref p) H'
theorem Mo.free {u p : Addr} {H H' : Hp} (m : Mo u H H') (U : Urn H u) (U' : Urn H' u) (h : H' p = none) : H p = none := by
  cases q : H p with
  | none => rfl
  | some o =>
    by_cases e : p = u
    · subst e
      obtain ⟨dg, mx, e1, _⟩ := U'
      rw [h] at e1
      cases e1
    · rw [m p o e q] at h
      cases h
theorem flat_place {z : Str} (h : z ∈ places) : Flat (.str z) := by
  have : places.all (fun z => flatB (.str z)) = true := by decide +kernel
  exact List.all_eq_true.mp this z h
theorem flat_out : Flat (.str out1) := by decide +kernel
theorem flat_mark {v : V} (h : MarkV v) : Flat v := by
  rcases h with rfl | ⟨i, rfl, h1, h2⟩
  · rfl
  · exact decide_eq_true (by omega)
theorem flat_int {i : Int} (h0 : -1000000000 ≤ i) (h1 : i ≤ 1000000000) : Flat (.int i) := decide_eq_true (by omega)
section
variable {P : Program} {w : World} {K : PySem.W.Frag} {mg : Str → Option Value} {base : Heap}
abbrev s_mark : Stmt := top 11
abbrev N_mark : List Str := ["urn"]
abbrev P_mark : List Str := ["urn"]
theorem sc_mark : FnScope N_mark P_mark (defScope s_mark) := ⟨rfl, rfl, rfl, by decide +kernel, rfl, by decide +kernel, by decide +kernel⟩
theorem bi_mark {f : Addr} {fd : FuncData} {x : Str} {K : PySem.W.Frag} (F : Fun K x x s_mark f fd) : Binds K fd P_mark [] :=
  F.binds fun _ _ _ _ _ _ us hl => match us, hl with | [_], _ => rfl
theorem ok_mark {f f1 f2 : Addr} {fd fd1 fd2 : FuncData} (D : Df K mg "_law_mark" s_mark f fd) (D_draw : Df K mg "_law_draw" s_draw f1 fd1) (D_choose : Df K mg "_law_choose" s_choose f2 fd2) (T : Bi mg) : FnOk P w K mg base CX0 3 f fd P_mark spMark := by
  have G_draw := ok_draw (P := P) (w := w) (base := base) D_draw
  have b_draw := bi_draw D_draw.F
  have G_choose := ok_choose (P := P) (w := w) (base := base) D_choose D_draw T
  have b_choose := bi_choose D_choose.F
  refine D.F.ok sc_mark (fun vs H Q E h => ?_) (fun cdv A outer s H vs Q E hr h => ?_)
  · obtain ⟨u, rfl, _⟩ := h
    rfl
  · obtain ⟨u, rfl, U, k⟩ := h
    refine ⟨_, (pss_one (ps_ret (pe_call G_choose (hr.mono (by decide)) rfl D_choose.g D_choose.F.kp b_choose .nil pass0 (pa_cons (pv 0) (pa_cons (pe_lst (pa_cons pe_int (pa_cons pe_int (pa_cons pe_int (pa_cons pe_int (pa_cons pe_int (pa_cons (pe_op op_add pe_int (pe_call G_draw (hr.mono (by decide)) rfl D_draw.g D_draw.F.kp b_draw .nil pass0 (pa_cons (pv 0) (pa_cons pe_int pa_nil)))) (pa_cons pe_non pa_nil)))))))) pa_nil))))), ?_⟩
    refine ⟨_, rfl, _, rfl, u, _, rfl, U, by decide, by decide, fun r H1 r0 r1 U1 m1 => ?_⟩
    refine ⟨_, _, rfl, rfl, (by show 7 ≤ sizeLine; decide), fun l hl => ⟨u, l, _, rfl, U1.new hl, upd_same, (by show 1 ≤ 7; decide), (by show 7 ≤ 1000; decide), fun x H2 hx U2 m2 => k x H2 ?_ U2 (m1.trans ((Mo.new hl).trans m2))⟩⟩
    simp only [List.mem_cons, List.not_mem_nil, or_false] at hx
    rcases hx with rfl | rfl | rfl | rfl | rfl | rfl | rfl
    all_goals first | exact Or.inl rfl | exact Or.inr ⟨_, rfl, by omega, by omega⟩
abbrev s_entry : Stmt := top 12
abbrev N_entry : List Str := ["urn", "number", "ends", "moment", "size", "origin", "goal", "end"]
abbrev P_entry : List Str := ["urn", "number", "ends"]
theorem sc_entry : FnScope N_entry P_entry (defScope s_entry) := ⟨rfl, rfl, rfl, by decide +kernel, rfl, by decide +kernel, by decide +kernel⟩
theorem bi_entry {f : Addr} {fd : FuncData} {x : Str} {K : PySem.W.Frag} (F : Fun K x x s_entry f fd) : Binds K fd P_entry [] :=
  F.binds fun _ _ _ _ _ _ us hl => match us, hl with | [_, _, _], _ => rfl
theorem mem_str {zs : List Str} {x : V} (h : x ∈ zs.map V.str) : ∃ z, z ∈ zs ∧ x = .str z := by
  obtain ⟨z, hz, e⟩ := List.mem_map.mp h
  exact ⟨z, hz, e.symm⟩
theorem ok_entry {f f1 f2 f3 : Addr} {fd fd1 fd2 fd3 : FuncData} (D : Df K mg "_law_entry" s_entry f fd) (D_draw : Df K mg "_law_draw" s_draw f1 fd1) (D_choose : Df K mg "_law_choose" s_choose f2 fd2) (D_mark : Df K mg "_law_mark" s_mark f3 fd3) (T : Bi mg) : FnOk P w K mg base CX0 4 f fd P_entry spEntry := by
  have G_draw := ok_draw (P := P) (w := w) (base := base) D_draw
  have b_draw := bi_draw D_draw.F
  have G_choose := ok_choose (P := P) (w := w) (base := base) D_choose D_draw T
  have b_choose := bi_choose D_choose.F
  have G_mark := ok_mark (P := P) (w := w) (base := base) D_mark D_draw D_choose T
  have b_mark := bi_mark D_mark.F
  refine D.F.ok sc_entry (fun vs H Q E h => ?_) (fun cdv A outer s H vs Q E hr h => ?_)
  · obtain ⟨u, l, n, zs, rfl, _⟩ := h
    rfl
  · obtain ⟨u, l, n, zs, rfl, U, hl, z1, z2, zp, k⟩ := h
    refine ⟨_, (pss_cons (ps_par (i := 3) (j := 4) rfl sc_entry.nd rfl rfl (by decide) rfl rfl (pa_cons (pe_call G_choose (hr.mono (by decide)) rfl D_choose.g D_choose.F.kp b_choose .nil pass0 (pa_cons (pv 0) (pa_cons (pe_lst (pa_cons (pe_call G_draw (hr.mono (by decide)) rfl D_draw.g D_draw.F.kp b_draw .nil pass0 (pa_cons (pv 0) (pa_cons pe_int pa_nil))) (pa_cons (pe_call G_draw (hr.mono (by decide)) rfl D_draw.g D_draw.F.kp b_draw .nil pass0 (pa_cons (pv 0) (pa_cons pe_int pa_nil))) pa_nil))) pa_nil))) (pa_cons (pe_call G_draw (hr.mono (by decide)) rfl D_draw.g D_draw.F.kp b_draw .nil pass0 (pa_cons (pv 0) (pa_cons pe_int pa_nil))) pa_nil)) (by rfl))
      (pss_cons (ps_if (pt_cmpR op_lt (pe_call G_draw (hr.mono (by decide)) rfl D_draw.g D_draw.F.kp b_draw .nil pass0 (pa_cons (pv 0) (pa_cons pe_int pa_nil))) pe_int (nomark _)) (pss_one (ps_ret (pe_tup (pa_cons (pv 1) (pa_cons (pv 3) (pa_cons (pe_call G_choose (hr.mono (by decide)) rfl D_choose.g D_choose.F.kp b_choose .nil pass0 (pa_cons (pv 0) (pa_cons (pv 2) pa_nil))) (pa_cons (pv 4) (pa_cons (pe_call G_mark (hr.mono (by decide)) rfl D_mark.g D_mark.F.kp b_mark .nil pass0 (pa_cons (pv 0) pa_nil)) pa_nil)))))))) pss_nil)
      (pss_cons (ps_set (i := 5) sc_entry.nd rfl (Or.inr rfl) (pe_call G_choose (hr.mono (by decide)) rfl D_choose.g D_choose.F.kp b_choose .nil pass0 (pa_cons (pv 0) (pa_cons (pe_op op_cat (pe_lst (pa_cons pe_str (pa_cons pe_str pa_nil))) (pv 2)) pa_nil))))
      (pss_cons (ps_set (i := 6) sc_entry.nd rfl (Or.inl rfl) (pe_call G_choose (hr.mono (by decide)) rfl D_choose.g D_choose.F.kp b_choose .nil pass0 (pa_cons (pv 0) (pa_cons (pe_lc (own := [("end", 7)]) (g := gName 7) rfl sc_entry.nd (pi_list (pe_op op_cat (pe_lst (pa_cons pe_str pa_nil)) (pv 2))) (blkOk_by (N := N_entry) (sc := defScope s_entry) (by decide +kernel)) (fun _ _ _ _ _ => pg_name (i := 7) sc_entry.nd rfl (Or.inl rfl)) (fun _ _ _ _ _ => (pts_one (pt_cmpR op_ne (pv 7) (pv 5) (nomark _)))) (fun _ _ _ _ _ => (pv 7))) pa_nil))))
      (pss_one (ps_ret (pe_tup (pa_cons (pv 1) (pa_cons (pv 3) (pa_cons (pv 5) (pa_cons (pv 6) (pa_cons (pv 4) (pa_cons (pe_call G_mark (hr.mono (by decide)) rfl D_mark.g D_mark.F.kp b_mark .nil pass0 (pa_cons (pv 0) pa_nil)) pa_nil))))))))))))), ?_⟩
    -- moment, size
    refine ⟨_, rfl, _, rfl, u, _, rfl, U, by decide, by decide, fun ra H1 a0 a1 U1 m1 => ?_⟩
    refine ⟨_, rfl, u, _, rfl, U1, by decide, by decide, fun rb H2 b0 b1 U2 m2 => ?_⟩
    refine ⟨(by show 2 ≤ sizeLine; decide), fun l1 hl1 => ⟨u, l1, _, rfl, U2.new hl1, upd_same, (by show 1 ≤ 2; decide), (by show 2 ≤ 1000; decide), fun t H3 ht U3 m3 => ?_⟩⟩
    obtain ⟨t, rfl, t0, t1⟩ : ∃ i : Int, t = .int i ∧ 0 ≤ i ∧ i < 20 := by
      simp only [List.mem_cons, List.not_mem_nil, or_false] at ht
      rcases ht with rfl | rfl
      · exact ⟨_, rfl, a0, by omega⟩
      · exact ⟨_, rfl, b0, by omega⟩
    refine ⟨_, rfl, u, _, rfl, U3, by decide, by decide, fun c H4 c0 c1 U4 m4 => ?_⟩
    have M4 : Mo u H H4 := ((m1.trans m2).add hl1).trans (m3.trans m4)
    have L4 : H4 l = some (.lst (zs.map V.str)) := U.lst M4 hl
    refine ⟨_, _, rfl, ?_⟩
    -- if _law_draw(urn, 5) < 2
    refine ⟨_, rfl, u, _, rfl, U4, by decide, by decide, fun rc H5 _ _ U5 m5 => ?_⟩
    have L5 : H5 l = some (.lst (zs.map V.str)) := U4.lst m5 L4
    have M5 := M4.trans m5
    refine ⟨_, _, rfl, rfl, _, rfl, ?_⟩
    refine ite2 (fun _ => ?_) (fun _ => ?_)
    · refine ⟨_, rfl, _, rfl, _, rfl, _, rfl, u, l, _, rfl, U5, L5, by rw [List.length_map]; exact z1, by rw [List.length_map]; omega, fun x H6 hx U6 m6 => ?_⟩
      obtain ⟨z, hz, rfl⟩ := mem_str hx
      refine ⟨_, rfl, _, rfl, u, rfl, U6, fun mk H7 hm U7 m7 => ⟨(by show 5 ≤ sizeLine; decide), fun p hp => ?_⟩⟩
      have M7 := (M5.trans m6).trans m7
      exact k p _ _ (M7.free U U7 hp) (Or.inl ⟨t, z, c, mk, rfl, t0, t1, hz, c0, c1, hm⟩) upd_same (U7.new hp) (M7.add hp)
    · -- origin
      refine ⟨_, rfl, (by show 2 ≤ sizeLine; decide), fun l2 hl2 => ?_⟩
      have U5' := U5.new (o := .lst [.str out1, .str out1]) hl2
      have n2 : l ≠ l2 := fun q => by
        subst q
        rw [L5] at hl2
        cases hl2
      refine ⟨_, rfl, l2, l, _, _, rfl, rfl, upd_same, (by rw [upd_ne n2]; exact L5), (by rw [List.length_map]; show 2 + zs.length ≤ sizeLine; exact Nat.le_trans (Nat.add_le_add_left z2 2) (by decide)), fun p2 hp2 => ?_⟩
      refine ⟨u, p2, _, rfl, U5'.new hp2, upd_same, (by show 1 ≤ (_ ++ _ : List V).length; rw [List.length_append, List.length_map]; omega), (by show (_ ++ _ : List V).length ≤ 1000; rw [List.length_append, List.length_map]; show 2 + zs.length ≤ 1000; omega), fun x H6 hx U6 m6 => ?_⟩
      obtain ⟨o, ho, rfl⟩ : ∃ o, o ∈ out1 :: zs ∧ x = .str o := by
        rcases List.mem_append.mp hx with hx | hx
        · refine ⟨out1, List.mem_cons_self, ?_⟩
          simp only [List.mem_cons, List.not_mem_nil, or_false, or_self] at hx
          exact hx
        · obtain ⟨z, hz, rfl⟩ := mem_str hx
          exact ⟨z, List.mem_cons_of_mem _ hz, rfl⟩
      have M6 : Mo u H H6 := ((M5.add hl2).add hp2).trans m6
      have L6 : H6 l = some (.lst (zs.map V.str)) := U.lst M6 hl
      -- goal
      refine ⟨_, rfl, (by show 1 ≤ sizeLine; decide), fun l3 hl3 => ?_⟩
      have n3 : l ≠ l3 := fun q => by
        subst q
        rw [L6] at hl3
        cases hl3
      have U6' := U6.new (o := .lst [.str out1]) hl3
      refine ⟨_, rfl, l3, l, _, _, rfl, rfl, upd_same, (by rw [upd_ne n3]; exact L6), (by rw [List.length_map]; show 1 + zs.length ≤ sizeLine; exact Nat.le_trans (Nat.add_le_add_left z2 1) (by decide)), fun p3 hp3 => ?_⟩
      have M7 := (M6.add hl3).add (o := .lst ((out1 :: zs).map V.str)) hp3
      have U7 := U6'.new (o := .lst ((out1 :: zs).map V.str)) hp3
      refine ⟨p3, rfl, ⟨_, .of upd_same⟩, fun q hq => ?_⟩
      have n4 : p3 ≠ q := fun e => by
        subst e
        rw [upd_same] at hq
        cases hq
      refine lc_list (K := K) (a := p3) (xs := (out1 :: zs).map V.str)
        (fun i H' => ∃ hs : List Str, H' q = some (.lst (hs.map V.str)) ∧ hs = ((out1 :: zs).take i).filter (fun z => decide (z ≠ o)) ∧ Urn H' u ∧ Mo u H H' ∧ H' p3 = some (.lst ((out1 :: zs).map V.str)))
        ⟨[], upd_same, rfl, U7.new hq, M7.add hq, by rw [upd_ne n4]; exact upd_same⟩ (fun i H' _ ⟨_, _, _, _, _, e⟩ => .of e) ?_ ?_
      · rintro i x H' hi ⟨hs, e1, e2, U8, M8, e3⟩
        rw [List.getElem?_map] at hi
        obtain ⟨z, hz, rfl⟩ := Option.map_eq_some_iff.mp hi
        have hlen : i < (out1 :: zs).length := (List.getElem?_eq_some_iff.mp hz).1
        have tk : (out1 :: zs).take (i + 1) = (out1 :: zs).take i ++ [z] := by rw [List.take_add_one, hz]; rfl
        have hsl : hs.length ≤ 11 := by
          rw [e2]
          refine Nat.le_trans (List.length_filter_le _ _) ?_
          rw [List.length_take]
          have : (out1 :: zs).length = zs.length + 1 := rfl
          omega
        refine ⟨rfl, _, rfl, _, rfl, rfl, _, rfl, ?_⟩
        have nq : q ≠ u := U8.neL e1
        by_cases c : z = o
        · have d : (!decide (V.str z = V.str o)) = false := by rw [c]; simp
          rw [d]
          refine iteF ⟨hs, e1, ?_, U8, M8, e3⟩
          rw [tk, List.filter_append, ← e2, List.filter_cons_of_neg (by simpa using c), List.filter_nil, List.append_nil]
        · have d : (!decide (V.str z = V.str o)) = true := by simpa using c
          rw [d]
          refine iteT ⟨_, rfl, _, e1, (by rw [List.length_map]; exact Nat.lt_of_le_of_lt hsl (by decide)), hs ++ [z], ?_, ?_, ?_, ?_, ?_⟩
          · rw [upd_same, List.map_append]
            rfl
          · rw [tk, List.filter_append, ← e2, List.filter_cons_of_pos (by simpa using c), List.filter_nil]
          · obtain ⟨dg, mx, e5, r⟩ := U8
            exact ⟨dg, mx, by rw [upd_ne nq.symm]; exact e5, r⟩
          · intro b ob nb eb
            have : b ≠ q := fun e => by
              subst e
              have hq' : H b = none := M7.free U U7 hq
              rw [eb] at hq'
              cases hq'
            rw [upd_ne this]
            exact M8 b ob nb eb
          · rw [upd_ne n4]
            exact e3
      · rintro H' ⟨hs, e1, e2, U8, M8, e3⟩
        rw [List.length_map, List.take_length] at e2
        have hmem : ∀ g, g ∈ hs ↔ g ∈ out1 :: zs ∧ g ≠ o := fun g => by
          rw [e2, List.mem_filter]
          simp
        have h1 : 1 ≤ hs.length := by
          obtain ⟨z0, hz0⟩ : ∃ z0, z0 ∈ zs := by
            cases zs with
            | nil => simp at z1
            | cons a r => exact ⟨a, List.mem_cons_self⟩
          have : ∃ g, g ∈ hs := by
            by_cases c : o = out1
            · exact ⟨z0, (hmem z0).mpr ⟨List.mem_cons_of_mem _ hz0, fun e => out_no (by rw [← c, ← e]; exact zp z0 hz0)⟩⟩
            · exact ⟨out1, (hmem out1).mpr ⟨List.mem_cons_self, fun e => c e.symm⟩⟩
          obtain ⟨g, hg⟩ := this
          exact List.length_pos_of_mem hg
        have h2 : hs.length ≤ 11 := by
          rw [e2]
          refine Nat.le_trans (List.length_filter_le _ _) ?_
          show zs.length + 1 ≤ 11
          omega
        refine ⟨u, q, _, rfl, U8, e1, by rw [List.length_map]; exact h1, by rw [List.length_map]; omega, fun x H9 hx U9 m9 => ?_⟩
        obtain ⟨g, hg, rfl⟩ := mem_str hx
        obtain ⟨g1, g2⟩ := (hmem g).mp hg
        refine ⟨_, rfl, _, rfl, _, rfl, _, rfl, _, rfl, _, rfl, u, rfl, U9, fun mk H10 hm U10 m10 => ⟨(by show 6 ≤ sizeLine; decide), fun p hp => ?_⟩⟩
        have M10 := (M8.trans m9).trans m10
        exact k p _ _ (M10.free U U10 hp) (Or.inr ⟨t, o, g, c, mk, rfl, t0, t1, ho, g1, g2, c0, c1, hm⟩) upd_same (U10.new hp) (M10.add hp)
end
end Sk

set_option Elab.async false
set_option maxRecDepth 100000
set_option maxHeartbeats 4000000
namespace Sk
open PySem L2 PyProof.Rows

theorem same_upd {H H' : Hp} {q : Addr} {o o2 : HO} (h : Same (upd H q o) H') : Same (upd H q o2) (upd H' q o2) := fun b x e => by
  by_cases c : b = q
  · subst c
    rw [upd_same] at e ⊢
    exact e
  · rw [upd_ne c] at e ⊢
    exact h b x (by rw [upd_ne c]; exact e)
theorem same_new {H : Hp} {q : Addr} {o : HO} (h : H q = none) : Same H (upd H q o) := fun b x e => by
  rw [upd_ne (ne_of_none e h)]
  exact e
theorem same_rid {H H' : Hp} {q : Addr} {o : HO} (h : H q = none) (s : Same (upd H q o) H') : Same H H' := (same_new h).trans s
section
variable {P : Program} {w : World} {K : PySem.W.Frag} {mg : Str → Option Value} {base : Heap}

theorem key_part {A : Around} {E : Value → Shared → Prop} {s : Shared} {env : Env} {m : Str → Option Value} {p : Addr} {its : Array Value} {i : Nat} {x : Value} {np sp cp : Pos} {ck : Nat} {Q : Value → Shared → Prop}
    (hk : env.scope.kind = .function) (hl : env.kindOf "record" = some .local) (hn : s.heap.Ns env.locals m) (hv : m "record" = some (.ref p)) (ht : IsTup s.heap p its) (hx : its[i]? = some x) (hi : (i : Int) < 2 ^ 62)
    (h : Q x { s with toks := s.toks + 1 }) (hs : ∀ o k, subscripted (.Constant (.int (i : Int)) ck cp) false o k = operate [o, k] (getItem o k) := by intro _ _; rfl) : wpAny (model P w) A (eval (.Subscript (.Name "record" np) (.Constant (.int (i : Int)) ck cp) sp) env) Q E s := by
  refine Subscript_ (wpAny_Name (wpAny_loadName_local hk hl hn hv ?_))
  refine wpAny_Constant_int ?_
  have lt : i < its.size := (Array.getElem?_eq_some_iff.mp hx).1
  exact subscriptTail_builtinR (x := x) ht.typeIs slot_tuple_getitem.lookup (getItem_tuple (j := i) (Q := fun r s' => r = x ∧ Q r s') ht (by omega) (by omega) (by rw [seqIndex_of (by omega) (by omega)]; rfl) hx ⟨rfl, h⟩) (hs _ _)
end
section
variable {P : Program} {w : World} {K : PySem.W.Frag} {mg : Str → Option Value} {base : Heap}
abbrev s_key : Stmt := top 4
abbrev N_key : List Str := ["record"]
abbrev P_key : List Str := ["record"]
theorem sc_key : FnScope N_key P_key (defScope s_key) := ⟨rfl, rfl, rfl, by decide +kernel, rfl, by decide +kernel, by decide +kernel⟩
theorem bi_key {f : Addr} {fd : FuncData} {x : Str} {K : PySem.W.Frag} (F : Fun K x x s_key f fd) : Binds K fd P_key [] :=
  F.binds fun _ _ _ _ _ _ us hl => match us, hl with | [_], _ => rfl
theorem key_fn {f : Addr} {fd : FuncData} (D : Df K mg "_time_and_id" s_key f fd) : KeyFn P w K f := by
  have B := bi_key D.F
  obtain ⟨oc, od, kV, doc, pm, an, cv, ct, osl, rfl, lk, hcd⟩ := D.F.ex
  intro A s p its t i t0 t1 KX lim hroom ht g0 g1
  refine wpAny_call (codeAny_call_function hroom (KX _ _ lk) rfl sc_key.co sc_key.gen rfl (PySem.W.codeRec_of KX hcd) (B s [.ref p] KX rfl _ _ _ _ ?_))
  refine wpAny_newFunctionEnv_cells sc_key.kind (fun y hy => ?_) (fun env he s1 x1 => ?_)
  · have hy : y ∈ [(("record" : Str), Value.ref p)] := hy
    rw [List.mem_singleton] at hy
    subst hy
    exact Or.inl rfl
  · subst he
    refine ⟨lim.keeps x1.toInCall.keep, codeAny_func ?_⟩
    obtain ⟨h1, tk, rfl, hk⟩ := x1.done
    have ns := x1.toInCall.ns
    have ht1 : IsTup h1 p its := ht.keeps hk
    refine wpAny_execs_cons (wpAny_Return_some (wpAny_Tuple_spliced ?_))
    refine Calls.spliced_cons (key_part (i := 1) (x := .int t t1) rfl rfl ns rfl ht1 g1 (by decide) ?_)
    refine Calls.spliced_cons (key_part (i := 0) (x := .int i t0) rfl rfl ns rfl ht1 g0 (by decide) ?_)
    refine Calls.spliced_nil ?_
    refine ⟨show 2 ≤ sizeLine by decide, ?_⟩
    refine ⟨_, _, rfl, fun b o e => Heap.get?_push_of_some _ (hk b o e), ?_⟩
    exact .tuple (Heap.get?_push_size _ rfl) rfl rfl (.cons (.int _ _) (.cons (.int _ _) .nil))
end
end Sk

set_option Elab.async false
set_option maxRecDepth 100000
set_option maxHeartbeats 4000000
namespace Sk
open PySem L2 PyProof.Rows

def spWith (K : PySem.W.Frag) : Sp := fun vs H Q _ => ∃ (p : Addr) (xs : List V) (v : V), vs = [.ref p, v] ∧ SqT K H p xs ∧ 2 ≤ xs.length ∧ xs.length ≤ 6 ∧
  ∀ (r : Addr) (H' : Hp), H r = none → Same H H' → H' r = some (.tup (cutV xs none (some (-1)) ++ [v])) → Q (.ref r) H'
/-- a record whose ends (with "-") are es -/
def RecP (K : PySem.W.Frag) (H : Hp) (x : V) (es : List Str) : Prop := ∃ p xs, x = .ref p ∧ SqT K H p xs ∧ 5 ≤ xs.length ∧ xs.length ≤ 6 ∧ cutV xs (some 2) (some (-2)) = es.map V.str
theorem RecP.same {K : PySem.W.Frag} {H H' : Hp} {x : V} {es : List Str} (h : RecP K H x es) (s : Same H H') : RecP K H' x es := by
  obtain ⟨p, xs, rfl, hs, a, b, c⟩ := h
  exact ⟨p, xs, rfl, Same.seqT s hs, a, b, c⟩
def outs (es : List Str) : List Str := es.filter fun z => !decide (z = ("-" : Str))
def spIn (K : PySem.W.Frag) : Sp := fun vs H Q _ => ∃ (x : V) (es : List Str), vs = [x] ∧ RecP K H x es ∧ ∀ (q : Addr) (H' : Hp), H q = none → Same H H' → H' q = some (.lst ((outs es).map V.str)) → Q (.ref q) H'
def spSeq (K : PySem.W.Frag) : Sp := fun vs H Q _ => ∃ (a : Addr) (xs : List V) (kt : V → Int × Int), vs = [.ref a] ∧ SqL K H a xs ∧ xs.length ≤ 1000 ∧ (∀ x ∈ xs, RecAt K H x (kt x).1 (kt x).2) ∧ ∀ q, H q = none → Q (.ref q) (upd H q (.lst (inSeq kt xs)))
theorem RecP.few {K : PySem.W.Frag} {H : Hp} {x : V} {es : List Str} (h : RecP K H x es) : es.length ≤ 6 := by
  obtain ⟨p, xs, _, _, _, b, c⟩ := h
  have := cutV_length xs (some 2) (some (-2))
  rw [c, List.length_map] at this
  omega
section
variable {P : Program} {w : World} {K : PySem.W.Frag} {mg : Str → Option Value} {base : Heap}
abbrev s_in : Stmt := top 2
abbrev N_in : List Str := ["record", "end"]
abbrev P_in : List Str := ["record"]
theorem sc_in : FnScope N_in P_in (defScope s_in) := ⟨rfl, rfl, rfl, by decide +kernel, rfl, by decide +kernel, by decide +kernel⟩
theorem bi_in {f : Addr} {fd : FuncData} {x : Str} {K : PySem.W.Frag} (F : Fun K x x s_in f fd) : Binds K fd P_in [] :=
  F.binds fun _ _ _ _ _ _ us hl => match us, hl with | [_], _ => rfl
theorem ok_in {f : Addr} {fd : FuncData} (D : Df K mg "places_in" s_in f fd) (C : Cs mg) : FnOk P w K mg base CX0 1 f fd P_in (spIn K) := by
  obtain ⟨tw, h_out⟩ := id C.out
  refine D.F.ok sc_in (fun vs H Q E h => ?_) (fun cdv A outer s H vs Q E hr h => ?_)
  · obtain ⟨x, es, rfl, _⟩ := h
    rfl
  · obtain ⟨x, es, rfl, R, k⟩ := h
    have few := R.few
    obtain ⟨p, xs, rfl, hS, l5, l6, hes⟩ := R
    refine ⟨_, (pss_one (ps_ret (pe_lc (own := [("end", 1)]) (g := gName 1) rfl sc_in.nd (pi_tup (pe_slice sl_tup (pv 0) (po_some pe_int) (po_some (pe_un un_neg pe_int)))) (blkOk_by (N := N_in) (sc := defScope s_in) (by decide +kernel)) (fun _ _ _ _ _ => pg_name (i := 1) sc_in.nd rfl (Or.inl rfl)) (fun _ _ _ _ _ => (pts_one (pt_cmpR op_ne (pv 1) (pe_glob (v := .str "-") rfl h_out ⟨_, rfl⟩) (nomark _)))) (fun _ _ _ _ _ => (pv 1))))), ?_⟩
    have hc : ¬ (HT.sIx xs.length 0 (some 2) = 0 ∧ HT.sIx xs.length xs.length (some (-2)) = xs.length) := by
      generalize xs.length = n at *
      rcases (by omega : n = 5 ∨ n = 6) with rfl | rfl <;> decide
    refine ⟨_, rfl, _, rfl, _, rfl, _, rfl, p, xs, rfl, hS, hc, fun q hq => ?_⟩
    have sq : Same H (upd H q (.tup (cutV xs (some 2) (some (-2))))) := same_new hq
    rw [hes] at sq ⊢
    have at_q : upd H q (.tup (es.map V.str)) q = some (.tup (es.map V.str)) := upd_same
    generalize upd H q (.tup (es.map V.str)) = H1 at *
    refine ⟨q, rfl, ⟨_, .of at_q⟩, fun q2 hq2 => ?_⟩
    refine lc_tup (xs := es.map V.str) (fun i H' => H' = upd H1 q2 (.lst ((outs (es.take i)).map V.str))) rfl (fun i H' _ e => ?_) (fun i y H' hy e => ?_) (fun H' e => ?_)
    · subst e
      exact Same.seqT (same_new hq2) (.of at_q)
    · subst e
      rw [List.getElem?_map] at hy
      cases ez : es[i]? with
      | none => rw [ez] at hy; cases hy
      | some z =>
        rw [ez] at hy
        cases hy
        have tk : es.take (i + 1) = es.take i ++ [z] := by rw [List.take_add_one, ez]; rfl
        refine ⟨rfl, _, rfl, rfl, ?_⟩
        refine ⟨_, rfl, ?_⟩
        by_cases c : z = ("-" : Str)
        · have o : outs (es.take i ++ [z]) = outs (es.take i) := by
            unfold outs
            rw [List.filter_append, c]
            exact List.append_nil _
          have e0 : (!decide (V.str z = V.str ("-" : Str))) = false := by rw [decide_eq_true (by rw [c])]; rfl
          show (if (!decide (V.str z = V.str ("-" : Str))) = true then _ else _)
          rw [e0, tk, o]
          exact iteF rfl
        · have o : outs (es.take i ++ [z]) = outs (es.take i) ++ [z] := by
            unfold outs
            rw [List.filter_append]
            congr 1
            rw [List.filter_cons, decide_eq_false c]
            rfl
          have e0 : (!decide (V.str z = V.str ("-" : Str))) = true := by rw [decide_eq_false (fun e => c (V.str.inj e))]; rfl
          show (if (!decide (V.str z = V.str ("-" : Str))) = true then _ else _)
          rw [e0, tk, o]
          refine iteT ⟨_, rfl, (outs (es.take i)).map V.str, upd_same, ?_, ?_⟩
          · rw [List.length_map]
            exact Nat.lt_of_le_of_lt (Nat.le_trans (List.length_filter_le _ _) (Nat.le_trans (by rw [List.length_take]; exact Nat.min_le_right _ _) few)) (by decide)
          · rw [List.map_append]
            exact upd_upd_same
    · subst e
      rw [List.length_map, List.take_length]
      refine k q2 _ ?_ (sq.trans (same_new hq2)) upd_same
      cases e : H q2 with
      | none => rfl
      | some o => exact absurd (sq _ _ e) (by rw [hq2]; simp)
abbrev s_seq : Stmt := top 3
abbrev N_seq : List Str := ["records"]
abbrev P_seq : List Str := ["records"]
theorem sc_seq : FnScope N_seq P_seq (defScope s_seq) := ⟨rfl, rfl, rfl, by decide +kernel, rfl, by decide +kernel, by decide +kernel⟩
theorem bi_seq {f : Addr} {fd : FuncData} {x : Str} {K : PySem.W.Frag} (F : Fun K x x s_seq f fd) : Binds K fd P_seq [] :=
  F.binds fun _ _ _ _ _ _ us hl => match us, hl with | [_], _ => rfl
theorem ok_seq {f f1 : Addr} {fd fd1 : FuncData} (D : Df K mg "in_sequence" s_seq f fd) (D_key : Df K mg "_time_and_id" s_key f1 fd1) (T : Bi mg) : FnOk P w K mg base CX0 1 f fd P_seq (spSeq K) := by
  refine D.F.ok sc_seq (fun vs H Q E h => ?_) (fun cdv A outer s H vs Q E hr h => ?_)
  · obtain ⟨a, xs, kt, rfl, _⟩ := h
    rfl
  · obtain ⟨a, xs, kt, rfl, hl, hn, hrec, k⟩ := h
    have hu64 := hr.units
    have hd64 := hr.depth
    have KF : KeyFn P w K f1 := key_fn D_key
    refine ⟨_, (pss_one (ps_ret (pe_callBK (call_sortKey rfl hu64 hd64 KF) (by rfl) T.sorted PyProof.Rows.boot_sorted (pa_cons (pv 0) pa_nil) (pk_cons (pe_glob (v := .ref _) rfl D_key.g rfl) pk_nil)))), ?_⟩
    exact ⟨_, rfl, a, xs, kt, rfl, rfl, hl, hn, hrec, k⟩
end
end Sk

set_option Elab.async false
set_option maxRecDepth 100000
set_option maxHeartbeats 4000000
namespace Sk
open PySem L2 PyProof.Rows

theorem same_self {H : Hp} {q : Addr} {o : HO} (h : H q = some o) : Same (upd H q o) H := fun b x e => by
  by_cases c : b = q
  · subst c
    rw [upd_same] at e
    rw [h]
    exact e
  · rw [upd_ne c] at e
    exact e
def txs (l : List Str) : List Str := l.foldl (fun t k => plus k t) []
theorem txs_snoc (l : List Str) (k : Str) : txs (l ++ [k]) = plus k (txs l) := by
  unfold txs
  rw [List.foldl_append]
  rfl
theorem txs_go (l : List Str) : ∀ t : List Str, (∀ z, z ∈ l.foldl (fun t k => plus k t) t ↔ z ∈ t ∨ z ∈ l) ∧ (l.foldl (fun t k => plus k t) t).length ≤ t.length + l.length := by
  induction l with
  | nil => intro t; simp
  | cons a l ih =>
    intro t
    have lp : (plus a t).length ≤ t.length + 1 := by
      unfold plus
      split <;> simp
    refine ⟨fun z => ?_, ?_⟩
    · rw [List.foldl_cons, (ih _).1, mem_plus, List.mem_cons]
      constructor
      · rintro ((h | h) | h)
        · exact .inr (.inl h)
        · exact .inl h
        · exact .inr (.inr h)
      · rintro (h | h | h)
        · exact .inl (.inr h)
        · exact .inl (.inl h)
        · exact .inr h
    · rw [List.foldl_cons, List.length_cons]
      have := (ih (plus a t)).2
      omega
theorem txs_mem (l : List Str) (z : Str) : z ∈ txs l ↔ z ∈ l := by
  unfold txs
  rw [(txs_go l []).1]
  simp
theorem txs_len (l : List Str) : (txs l).length ≤ l.length := by
  have := (txs_go l []).2
  rw [List.length_nil, Nat.zero_add] at this
  exact this
/-- the places of records, one by one -/
def ends (ev : V → List Str) (xs : List V) : List Str := xs.flatMap fun x => outs (ev x)
theorem ends_snoc (ev : V → List Str) (xs : List V) (x : V) : ends ev (xs ++ [x]) = ends ev xs ++ outs (ev x) := by
  unfold ends
  rw [List.flatMap_append]
  simp
theorem ends_len {K : PySem.W.Frag} {H : Hp} (ev : V → List Str) : ∀ (xs : List V), (∀ x ∈ xs, RecP K H x (ev x)) → (ends ev xs).length ≤ 6 * xs.length
  | [], _ => by simp [ends]
  | x :: xs, h => by
    have ih := ends_len ev xs fun y hy => h y (List.mem_cons_of_mem _ hy)
    have f := (h x (List.mem_cons_self ..)).few
    have g : (outs (ev x)).length ≤ (ev x).length := List.length_filter_le _ _
    have e : ends ev (x :: xs) = outs (ev x) ++ ends ev xs := rfl
    rw [e, List.length_append, List.length_cons]
    omega
def spPlaces (K : PySem.W.Frag) : Sp := fun vs H Q _ => ∃ (a : Addr) (xs : List V) (ev : V → List Str), vs = [.ref a] ∧ SqL K H a xs ∧ xs.length ≤ 500 ∧ (∀ x ∈ xs, RecP K H x (ev x)) ∧
  ∀ (ks : List Str) (q : Addr) (H' : Hp), Canon ks (ends ev xs) → ks.length ≤ (ends ev xs).length → H q = none → Same H H' → H' q = some (.lst (ks.map V.str)) → Q (.ref q) H'
section
variable {P : Program} {w : World} {K : PySem.W.Frag} {mg : Str → Option Value} {base : Heap}
abbrev s_places : Stmt := top 5
abbrev N_places : List Str := ["records", "record", "place"]
abbrev P_places : List Str := ["records"]
theorem sc_places : FnScope N_places P_places (defScope s_places) := ⟨rfl, rfl, rfl, by decide +kernel, rfl, by decide +kernel, by decide +kernel⟩
theorem bi_places {f : Addr} {fd : FuncData} {x : Str} {K : PySem.W.Frag} (F : Fun K x x s_places f fd) : Binds K fd P_places [] :=
  F.binds fun _ _ _ _ _ _ us hl => match us, hl with | [_], _ => rfl
theorem ok_places {f f1 : Addr} {fd fd1 : FuncData} (D : Df K mg "places_of" s_places f fd) (D_in : Df K mg "places_in" s_in f1 fd1) (G_in : FnOk P w K mg base CX0 1 f1 fd1 P_in (spIn K)) (T : Bi mg) : FnOk P w K mg base CX0 2 f fd P_places (spPlaces K) := by
  have b_in := bi_in D_in.F
  refine D.F.ok sc_places (fun vs H Q E h => ?_) (fun cdv A outer s H vs Q E hr h => ?_)
  · obtain ⟨a, xs, ev, rfl, _⟩ := h
    rfl
  · obtain ⟨a, xs, ev, rfl, hl, hn, hrec, k⟩ := h
    refine ⟨_, (pss_one (ps_ret (pe_callB (call_sortTx rfl) (by rfl) T.sorted PyProof.Rows.boot_sorted (pa_cons (pe_sc2 (C := texts _ _) (own := [("record", 1), ("place", 2)]) (vs1 := [2]) (wi1 := iList K (tCall (spIn K) [] E0 (tCons (tVar 1) tNil))) (g := gName 1) (g1 := gName 2) rfl sc_places.nd (pi_list (pv 0)) (blkOk_by (N := N_places) (sc := defScope s_places) (by decide +kernel)) (by decide) (fun _ _ _ _ _ => pg_name (i := 1) sc_places.nd rfl (Or.inl rfl)) (fun _ _ _ _ _ => pi_list (pe_call G_in (hr.mono (by decide)) rfl D_in.g D_in.F.kp b_in .nil pass0 (pa_cons (pv 1) pa_nil))) (fun _ _ _ _ _ => pg_name (i := 2) sc_places.nd rfl (Or.inl rfl)) (fun _ _ _ _ _ => (pv 2))) pa_nil)))), ?_⟩
    refine ⟨_, rfl, a, rfl, ⟨xs, hl⟩, fun d hd => ?_⟩
    refine itl_W (xs := xs) (fun i H' => Same (upd H d (TxO P w d (txs (ends ev (xs.take i))))) H') (Same.refl _) (fun i H' _ p' => (same_rid hd p').seq hl) (fun i x H' hx p' => ?_) (fun H' p' => ?_)
    · have s1 := same_rid hd p'
      have hx0 := List.mem_of_getElem? hx
      have few := (hrec x hx0).few
      have tk : xs.take (i + 1) = xs.take i ++ [x] := by rw [List.take_add_one, hx]; rfl
      have le := ends_len (K := K) (H := H) ev (xs.take i) fun y hy => hrec y (List.mem_of_mem_take hy)
      have li : (xs.take i).length ≤ 500 := by rw [List.length_take]; exact Nat.le_trans (Nat.min_le_right _ _) hn
      have fo : (outs (ev x)).length ≤ 6 := Nat.le_trans (List.length_filter_le _ _) few
      refine ⟨rfl, _, rfl, x, ev x, rfl, (hrec x hx0).same s1, fun q H4 hq s4 eq => ⟨q, rfl, ⟨_, .of eq⟩, ?_⟩⟩
      have d4 : H4 d = some (TxO P w d (txs (ends ev (xs.take i)))) := s4 _ _ (p' _ _ upd_same)
      have qd : q ≠ d := fun e => by
        subst e
        rw [p' _ _ upd_same] at hq
        cases hq
      refine itl_W (xs := (outs (ev x)).map V.str) (fun j H5 => Same (upd H4 d (TxO P w d (txs (ends ev (xs.take i) ++ (outs (ev x)).take j)))) H5) ?_ (fun j H5 _ p5 => .of (p5 _ _ (by rw [upd_ne qd]; exact eq))) (fun j y H5 hy p5 => ?_) (fun H5 p5 => ?_)
      · rw [List.take_zero, List.append_nil]
        exact same_self d4
      · rw [List.getElem?_map] at hy
        cases ez : (outs (ev x))[j]? with
        | none => rw [ez] at hy; cases hy
        | some z =>
          rw [ez] at hy
          cases hy
          refine ⟨rfl, _, rfl, txs (ends ev (xs.take i) ++ (outs (ev x)).take j), _, p5 _ _ upd_same, ⟨z, rfl, ?_, rfl⟩, ?_⟩
          · have := txs_len (ends ev (xs.take i) ++ (outs (ev x)).take j)
            rw [List.length_append, List.length_take] at this
            show _ < 4096
            omega
          · have t2 : (outs (ev x)).take (j + 1) = (outs (ev x)).take j ++ [z] := by rw [List.take_add_one, ez]; rfl
            rw [t2, ← List.append_assoc, txs_snoc]
            exact same_upd p5
      · rw [List.length_map, List.take_length] at p5
        rw [tk, ends_snoc]
        exact (same_upd (p'.trans s4)).trans p5
    · rw [List.take_length] at p'
      have le := ends_len (K := K) (H := H) ev xs hrec
      have tl := txs_len (ends ev xs)
      refine ⟨d, txs (ends ev xs), rfl, p' _ _ upd_same, show _ < 4096 by omega, fun ks q hp hso nd hq => ?_⟩
      have s1 := same_rid hd p'
      refine k ks q _ ⟨hso, hp.nodup_iff.mpr nd, fun z => (hp.mem_iff).trans (txs_mem _ z)⟩ (by rw [hp.length_eq]; omega) ?_ (s1.trans (same_new hq)) upd_same
      cases e : H q with
      | none => rfl
      | some o => exact absurd (s1 _ _ e) (by rw [hq]; simp)
end
end Sk

set_option Elab.async false
set_option maxRecDepth 100000
set_option maxHeartbeats 4000000
namespace Sk
open PySem L2 PyProof.Rows

def tab (ks : List Str) (g : Str → Int) : List (Key × V) := ks.map fun z => ((Sum.inr z : Key), V.int (g z))
theorem tab_val {g : Str → Int} {z : Str} : ∀ {ks : List Str}, z ∈ ks → valV (tab ks g) (.inr z) = some (.int (g z))
  | [], h => nomatch h
  | k :: ks, h => by
    show valV (((Sum.inr k : Key), V.int (g k)) :: tab ks g) (.inr z) = _
    by_cases c : k = z
    · subst c
      exact valV_pos rfl
    · rw [valV_neg (fun e => c (Sum.inr.inj e))]
      exact tab_val ((List.mem_cons.mp h).resolve_left fun e => c e.symm)
theorem tab_non {g : Str → Int} {z : Str} : ∀ {ks : List Str}, z ∉ ks → valV (tab ks g) (.inr z) = none
  | [], _ => rfl
  | k :: ks, h => by
    show valV (((Sum.inr k : Key), V.int (g k)) :: tab ks g) (.inr z) = _
    rw [valV_neg (fun e => h (by rw [Sum.inr.inj e]; exact List.mem_cons_self ..))]
    exact tab_non fun m => h (List.mem_cons_of_mem _ m)
theorem tab_put {ks : List Str} {g : Str → Int} {z : Str} {n : Int} (h : z ∈ ks) : putK (tab ks g) (.inr z) (.int n) = tab ks (fun y => if y = z then n else g y) := by
  unfold putK
  rw [valV_any, tab_val h]
  show (if true = true then _ else _) = _
  rw [if_pos rfl]
  unfold tab
  rw [List.map_map]
  refine List.map_congr_left fun y _ => ?_
  show (if (Sum.inr y : Key) = .inr z then _ else _) = _
  by_cases c : y = z
  · rw [if_pos (by rw [c])]
    show (_, V.int n) = (_, V.int (if y = z then n else g y))
    rw [if_pos c]
  · rw [if_neg (fun e => c (Sum.inr.inj e))]
    show (_, V.int (g y)) = (_, V.int (if y = z then n else g y))
    rw [if_neg c]
theorem tab_same {ks : List Str} {g g' : Str → Int} (h : ∀ z, g z = g' z) : tab ks g = tab ks g' := by
  have : g = g' := funext h
  rw [this]
theorem occ_snoc (l : List Str) (z y : Str) : 1 + occ (l ++ [z]) y = if y = z then 1 + occ l z + 1 else 1 + occ l y := by
  unfold occ
  rw [List.filter_append, List.length_append]
  by_cases c : y = z
  · subst c
    rw [if_pos rfl, List.filter_cons, decide_eq_true rfl]
    simp
    omega
  · rw [if_neg c, List.filter_cons, decide_eq_false (fun e => c e.symm)]
    simp
def spStr (K : PySem.W.Frag) : Sp := fun vs H Q _ => ∃ (a : Addr) (xs : List V) (ev : V → List Str), vs = [.ref a] ∧ SqL K H a xs ∧ xs.length ≤ 500 ∧ (∀ x ∈ xs, RecP K H x (ev x)) ∧
  ∀ (ks : List Str) (q : Addr) (H' : Hp), Canon ks (ends ev xs) → ks.length ≤ (ends ev xs).length → H q = none → Same H H' → H' q = some (.dK (tab ks fun z => 1 + occ (ends ev xs) z)) → Q (.ref q) H'
section
variable {P : Program} {w : World} {K : PySem.W.Frag} {mg : Str → Option Value} {base : Heap}
abbrev s_stretches : Stmt := top 6
abbrev N_stretches : List Str := ["records", "numbers", "record", "place"]
abbrev P_stretches : List Str := ["records"]
theorem sc_stretches : FnScope N_stretches P_stretches (defScope s_stretches) := ⟨rfl, rfl, rfl, by decide +kernel, rfl, by decide +kernel, by decide +kernel⟩
theorem bi_stretches {f : Addr} {fd : FuncData} {x : Str} {K : PySem.W.Frag} (F : Fun K x x s_stretches f fd) : Binds K fd P_stretches [] :=
  F.binds fun _ _ _ _ _ _ us hl => match us, hl with | [_], _ => rfl
theorem ok_stretches {f f1 f2 : Addr} {fd fd1 fd2 : FuncData} (D : Df K mg "stretches_of" s_stretches f fd) (D_places : Df K mg "places_of" s_places f1 fd1) (G_places : FnOk P w K mg base CX0 2 f1 fd1 P_places (spPlaces K))
    (D_in : Df K mg "places_in" s_in f2 fd2) (G_in : FnOk P w K mg base CX0 1 f2 fd2 P_in (spIn K)) (T : Bi mg) : FnOk P w K mg base CX0 3 f fd P_stretches (spStr K) := by
  have b_places := bi_places D_places.F
  have b_in := bi_in D_in.F
  refine D.F.ok sc_stretches (fun vs H Q E h => ?_) (fun cdv A outer s H vs Q E hr h => ?_)
  · obtain ⟨a, xs, ev, rfl, _⟩ := h
    rfl
  · obtain ⟨a, xs, ev, rfl, hl, hn, hrec, k⟩ := h
    have hu64 := hr.units
    have hu : (cxOf CX0 P w K mg base N_stretches "stretches_of" (defScope s_stretches) f cdv A outer s H E).nox.A.units + 1 < cLine := by
      have : (A.deeper (envOfC "stretches_of" (defScope s_stretches) s.heap.objs.size f cdv)).units + 64 < cLine := hu64
      show (A.deeper _).units + 1 < cLine
      omega
    refine ⟨_, (pss_cons (ps_setDc (slot := 1) (own := [("place", 3)]) (g := gName 3) rfl sc_stretches.nd rfl rfl (sw_dict rfl rfl rfl (by decide +kernel)) (pi_list (pe_call G_places (hr.mono (by decide)) rfl D_places.g D_places.F.kp b_places .nil pass0 (pa_cons (pv 0) pa_nil))) (blkOk_by (N := N_stretches) (sc := defScope s_stretches) (by decide +kernel)) (fun _ _ _ _ _ => pg_name (i := 3) sc_stretches.nd rfl (Or.inl rfl)) (fun _ _ _ _ _ => (pv 3)) (fun _ _ _ _ _ => pe_int))
      (pss_cons (ps_for PassesOwn.never rfl (pi_list (pv 0)) (pg_name (i := 2) sc_stretches.nd rfl (Or.inl rfl))
      (pss_one (ps_for PassesOwn.never rfl (pi_list (pe_call G_in (hr.mono (by decide)) rfl D_in.g D_in.F.kp b_in .nil pass0 (pa_cons (pv 2) pa_nil))) (pg_name (i := 3) sc_stretches.nd rfl (Or.inl rfl))
        (pss_one (ps_daug hu (pv 1) (pv 3) pe_int in_add (fun _ _ _ => rfl))))))
      (pss_one (ps_ret (pv 1))))), ?_⟩
    refine ⟨_, rfl, a, xs, ev, rfl, hl, hn, hrec, fun ks q H1 can kl0 hq s1 eq => ⟨q, rfl, ⟨_, .of eq⟩, fun d hd => ?_⟩⟩
    have kl : ks.length ≤ 3000 := by
      have := ends_len (K := K) (H := H) ev xs hrec
      omega
    have h0d : H d = none := by
      cases e : H d with
      | none => rfl
      | some o => exact absurd (s1 _ _ e) (by rw [hd]; simp)
    refine itl_W (xs := ks.map V.str) (fun i H' => H' = upd H1 d (.dK (tab (ks.take i) fun _ => 1))) rfl (fun i H' _ e => ?_) (fun i y H' hy e => ?_) (fun H' e => ?_)
    · subst e
      exact .of (same_new hd _ _ eq)
    · subst e
      rw [List.getElem?_map] at hy
      cases ez : ks[i]? with
      | none => rw [ez] at hy; cases hy
      | some z =>
        rw [ez] at hy
        cases hy
        have tk : ks.take (i + 1) = ks.take i ++ [z] := by rw [List.take_add_one, ez]; rfl
        have nm : z ∉ ks.take i := fun m => by
          obtain ⟨j, hj, e⟩ := List.getElem_of_mem m
          rw [List.length_take] at hj
          rw [List.getElem_take] at e
          have lt : i < ks.length := (List.getElem?_eq_some_iff.mp ez).1
          have e2 : ks[i] = z := (List.getElem?_eq_some_iff.mp ez).2
          have := (List.getElem_inj (h₀ := by omega) (h₁ := lt) can.2.1).mp (e.trans e2.symm)
          omega
        refine ⟨rfl, _, rfl, tab (ks.take i) (fun _ => 1), .inr z, rfl, upd_same, ?_, ?_⟩
        · unfold tab
          rw [List.length_map, List.length_take]
          exact Nat.lt_of_le_of_lt (Nat.le_trans (Nat.min_le_right _ _) kl) (by decide)
        · rw [putK_new _ (tab_non nm), tk]
          unfold tab
          rw [List.map_append]
          exact upd_upd_same
    · subst e
      rw [List.length_map, List.take_length]
      have sq : Same H (upd H1 d (.dK (tab ks fun _ => 1))) := s1.trans (same_new hd)
      refine ⟨_, rfl, a, rfl, ⟨xs, sq.seq hl⟩, ?_⟩
      refine for_list (xs := xs) (fun i σ H' => (∃ v2 v3, σ = [some (.ref a), some (.ref d), v2, v3]) ∧ Same (upd H1 d (.dK (tab ks fun z => 1 + occ (ends ev (xs.take i)) z))) H') ⟨⟨_, _, rfl⟩, Same.refl _⟩
        (fun i σ H' _ p' => ((s1.trans (same_new hd)).trans p'.2).seq hl) (fun i x σ H' hx p' => ?_) (fun σ H' p' => ?_)
      · obtain ⟨⟨v2, v3, rfl⟩, p'⟩ := p'
        have sx := (s1.trans (same_new hd)).trans p'
        have hx0 := List.mem_of_getElem? hx
        have tk : xs.take (i + 1) = xs.take i ++ [x] := by rw [List.take_add_one, hx]; rfl
        refine ⟨_, rfl, x, ev x, rfl, (hrec x hx0).same sx, fun r H4 hr4 s4 eq4 => ⟨r, rfl, ⟨_, .of eq4⟩, ?_⟩⟩
        have rd : r ≠ d := fun e => by
          subst e
          rw [p' _ _ upd_same] at hr4
          cases hr4
        have d4 := s4 _ _ (p' _ _ upd_same)
        refine for_list (xs := (outs (ev x)).map V.str) (fun j σ H5 => (∃ v3, σ = [some (.ref a), some (.ref d), some x, v3]) ∧ Same (upd H4 d (.dK (tab ks fun z => 1 + occ (ends ev (xs.take i) ++ (outs (ev x)).take j) z))) H5)
          ⟨⟨_, rfl⟩, ?_⟩ (fun j σ H5 _ p5 => .of (p5.2 _ _ (by rw [upd_ne rd]; exact eq4))) (fun j y σ H5 hy p5 => ?_) (fun σ H5 p5 => ?_)
        · rw [List.take_zero, List.append_nil]
          exact same_self d4
        · obtain ⟨⟨v3, rfl⟩, p5⟩ := p5
          rw [List.getElem?_map] at hy
          cases ez : (outs (ev x))[j]? with
          | none => rw [ez] at hy; cases hy
          | some z =>
            rw [ez] at hy
            cases hy
            have zin : z ∈ ks := (can.2.2 z).mpr (List.mem_flatMap.mpr ⟨x, hx0, List.mem_of_getElem? ez⟩)
            have t2 : (outs (ev x)).take (j + 1) = (outs (ev x)).take j ++ [z] := by rw [List.take_add_one, ez]; rfl
            have at5 := p5 _ _ upd_same
            have get : DGet H5 d (V.str z) (some (V.int (1 + occ (ends ev (xs.take i) ++ (outs (ev x)).take j) z))) := by
              have := DGet.k (k := (.inr z : Key)) at5
              rw [tab_val zin] at this
              exact this
            have few : (tab ks fun z => 1 + occ (ends ev (xs.take i) ++ (outs (ev x)).take j) z).length < sizeLine := by
              unfold tab
              rw [List.length_map]
              exact Nat.lt_of_le_of_lt kl (by decide)
            refine ⟨_, rfl, _, rfl, d, _, rfl, get, _, 1, rfl, rfl, _, DPut.k (k := (.inr z : Key)) at5 few, ⟨_, rfl⟩, ?_⟩
            rw [tab_put zin, t2, ← List.append_assoc]
            rw [tab_same (g' := fun y => 1 + occ (ends ev (xs.take i) ++ (outs (ev x)).take j ++ [z]) y) fun y => (occ_snoc _ z y).symm]
            exact same_upd p5
        · obtain ⟨⟨v3, rfl⟩, p5⟩ := p5
          rw [List.length_map, List.take_length] at p5
          refine ⟨⟨_, _, rfl⟩, ?_⟩
          rw [tk, ends_snoc]
          exact (same_upd (p'.trans s4)).trans p5
      · obtain ⟨⟨v2, v3, rfl⟩, p'⟩ := p'
        rw [List.take_length] at p'
        exact ⟨_, rfl, k ks d _ can kl0 h0d ((s1.trans (same_new hd)).trans p') (p' _ _ upd_same)⟩
end
end Sk

set_option Elab.async false
set_option maxRecDepth 100000
set_option maxHeartbeats 4000000
namespace Sk
open PySem L2 PyProof.Rows

/-! ### what is shown -/
theorem shows_flat {v : V} (h : Flat v) : ShowsX (toD v) := by
  obtain ⟨a, b, _, d, e⟩ := flat_leaf h
  exact ⟨a, b, by rw [d]; decide, Nat.le_trans e (by decide)⟩
theorem Shows.x {d : PyData} (h : Shows d) : ShowsX d := ⟨h.short, h.sh, h.dp, h.wt⟩
def Rowy (d : PyData) : Prop := ∃ ys : List V, d = .tuple (ys.map toD) ∧ (∀ y ∈ ys, Flat y) ∧ ys.length ≤ 10
theorem rowy_one {d : PyData} (h : Rowy d) : d.leavesShort 13 = true ∧ d.showable = true ∧ d.depth ≤ 1 ∧ d.weight ≤ 410 := by
  obtain ⟨ys, rfl, f, l⟩ := h
  obtain ⟨b1, b2, b3, b4, b5⟩ := flat_all f
  exact ⟨by simp only [PyData.leavesShort]; exact b1, by simp only [PyData.showable]; exact b2, by simp only [PyData.depth]; omega, by simp only [PyData.weight]; omega⟩
theorem rowy_all : ∀ {ds : List PyData}, (∀ d ∈ ds, Rowy d) → PyData.leavesShortAll 13 ds = true ∧ PyData.showableAll ds = true ∧ PyData.depthAll ds ≤ 1 ∧ PyData.weightAll ds ≤ 411 * ds.length
  | [], _ => ⟨by simp only [PyData.leavesShortAll], by simp only [PyData.showableAll], by simp only [PyData.depthAll]; omega, by simp only [PyData.weightAll]; omega⟩
  | d :: ds, h => by
    obtain ⟨a1, a2, a3, a4⟩ := rowy_one (h d (List.mem_cons_self ..))
    obtain ⟨b1, b2, b3, b4⟩ := rowy_all (ds := ds) fun e he => h e (List.mem_cons_of_mem _ he)
    refine ⟨?_, ?_, ?_, ?_⟩
    · simp only [PyData.leavesShortAll, a1, b1, Bool.and_self]
    · simp only [PyData.showableAll, a2, b2, Bool.and_self]
    · simp only [PyData.depthAll]
      omega
    · simp only [PyData.weightAll, List.length_cons]
      omega
theorem shows_rows {ds : List PyData} (h : ∀ d ∈ ds, Rowy d) (l : ds.length ≤ 1000) : ShowsX (.list ds) := by
  obtain ⟨b1, b2, b3, b4⟩ := rowy_all h
  exact ⟨by simp only [PyData.leavesShort]; exact b1, by simp only [PyData.showable]; exact b2, by simp only [PyData.depth]; omega, by simp only [PyData.weight]; omega⟩
def kvD (kvs : List (Key × V)) : List (PyData × PyData) := kvs.map fun e => (keyDat e.1, toD e.2)
def FlatK (e : Key × V) : Prop := Flat e.2 ∧ Flat (kV e.1)
theorem keyDat_eq : ∀ k : Key, keyDat k = toD (kV k)
  | .inl _ => rfl
  | .inr _ => rfl
theorem kv_all : ∀ {kvs : List (Key × V)}, (∀ e ∈ kvs, FlatK e) → PyData.leavesShortKv 13 (kvD kvs) = true ∧ PyData.showableKv (kvD kvs) = true ∧ PyData.depthKv (kvD kvs) = 0 ∧ PyData.weightKv (kvD kvs) ≤ 82 * kvs.length
  | [], _ => ⟨by simp only [kvD, List.map_nil, PyData.leavesShortKv], by simp only [kvD, List.map_nil, PyData.showableKv], rfl, by simp only [kvD, List.map_nil, PyData.weightKv]; omega⟩
  | e :: kvs, h => by
    obtain ⟨f1, f2⟩ := h e (List.mem_cons_self ..)
    obtain ⟨a1, a2, _, a4, a5⟩ := flat_leaf f1
    obtain ⟨c1, c2, _, c4, c5⟩ := flat_leaf f2
    rw [← keyDat_eq] at c1 c2 c4 c5
    obtain ⟨b1, b2, b3, b4⟩ := kv_all (kvs := kvs) fun x hx => h x (List.mem_cons_of_mem _ hx)
    have s : kvD (e :: kvs) = (keyDat e.1, toD e.2) :: kvD kvs := rfl
    rw [s]
    refine ⟨?_, ?_, ?_, ?_⟩
    · simp only [PyData.leavesShortKv, a1, c1, b1, Bool.and_self]
    · simp only [PyData.showableKv, a2, c2, b2, Bool.and_self]
    · simp only [PyData.depthKv, a4, c4, b3, Nat.max_self]
    · simp only [PyData.weightKv, List.length_cons]
      omega
theorem shows_dict {kvs : List (Key × V)} (h : ∀ e ∈ kvs, FlatK e) (l : kvs.length ≤ 1000) : ShowsX (.dict (kvD kvs)) := by
  obtain ⟨b1, b2, b3, b4⟩ := kv_all h
  exact ⟨by simp only [PyData.leavesShort]; exact b1, by simp only [PyData.showable]; exact b2, by simp only [PyData.depth]; omega, by simp only [PyData.weight]; omega⟩
/-! ### pairs of the same -/
theorem DpX.same {K : PySem.W.Frag} {H H' : Hp} {v : V} {d : PyData} (s : Same H H') (h : DpX K H v d) : DpX K H' v d := by
  cases h with
  | of h => exact .of (dp_same s h)
  | dic e f => exact .dic (s _ _ e) f
def PairOk (K : PySem.W.Frag) (H : Hp) (x : V) : Prop := ∃ p v1 v2 d, x = .ref p ∧ SqT K H p [v1, v2] ∧ DpX K H v1 d ∧ DpX K H v2 d ∧ ShowsX d
theorem PairOk.same {K : PySem.W.Frag} {H H' : Hp} {x : V} (h : PairOk K H x) (s : Same H H') : PairOk K H' x := by
  obtain ⟨p, v1, v2, d, rfl, hs, a, b, c⟩ := h
  exact ⟨p, v1, v2, d, rfl, Same.seqT s hs, a.same s, b.same s, c⟩
theorem pair_flat {K : PySem.W.Frag} {H : Hp} {t : Addr} {v : V} (h : H t = some (.tup [v, v])) (f : Flat v) : PairOk K H (.ref t) := ⟨t, v, v, toD v, rfl, .of h, .of (dp_flat f), .of (dp_flat f), shows_flat f⟩
theorem all_app {K : PySem.W.Frag} {H : Hp} {xs ys : List V} (a : ∀ x ∈ xs, PairOk K H x) (b : ∀ x ∈ ys, PairOk K H x) : ∀ x ∈ xs ++ ys, PairOk K H x := fun x hx => (List.mem_append.mp hx).elim (a x) (b x)
theorem all_one {K : PySem.W.Frag} {H : Hp} {x : V} (a : PairOk K H x) : ∀ y ∈ [x], PairOk K H y := fun y hy => by rw [List.mem_singleton.mp hy]; exact a
theorem all_two {K : PySem.W.Frag} {H : Hp} {x z : V} (a : PairOk K H x) (b : PairOk K H z) : ∀ y ∈ [x, z], PairOk K H y := fun y hy => by
  rcases List.mem_cons.mp hy with rfl | hy
  · exact a
  · rw [List.mem_singleton.mp hy]
    exact b
theorem all_same {K : PySem.W.Frag} {H H' : Hp} {xs : List V} (s : Same H H') (a : ∀ x ∈ xs, PairOk K H x) : ∀ x ∈ xs, PairOk K H' x := fun x hx => (a x hx).same s
/-- the heap without one -/
def del (H : Hp) (L : Addr) : Hp := fun b => if b = L then none else H b
theorem del_at {H : Hp} {L : Addr} : del H L L = none := if_pos rfl
theorem del_ne {H : Hp} {L b : Addr} (h : b ≠ L) : del H L b = H b := if_neg h
/-- a list of pairs that grows in its place -/
def Core (K : PySem.W.Frag) (H0 H : Hp) (L : Addr) (ps : List V) : Prop := ∃ Hc, Hc L = none ∧ Same H0 Hc ∧ Same Hc H ∧ H L = some (.lst ps) ∧ ∀ x ∈ ps, PairOk K Hc x
theorem core_new {K : PySem.W.Frag} {H0 H : Hp} {L : Addr} {ps : List V} (h : H L = none) (s : Same H0 H) (a : ∀ x ∈ ps, PairOk K H x) : Core K H0 (upd H L (.lst ps)) L ps := ⟨H, h, s, same_new h, upd_same, a⟩
theorem Core.base {K : PySem.W.Frag} {H0 H : Hp} {L : Addr} {ps : List V} (c : Core K H0 H L ps) : Same H0 H := by
  obtain ⟨Hc, _, a, b, _⟩ := c
  exact a.trans b
theorem core_add {K : PySem.W.Frag} {H0 H H' : Hp} {L : Addr} {ps : List V} {x : V} (c : Core K H0 H L ps) (s : Same H H') (p : PairOk K (del H' L) x) : Core K H0 (upd H' L (.lst (ps ++ [x]))) L (ps ++ [x]) := by
  obtain ⟨Hc, n, a, b, e, al⟩ := c
  have sd : Same Hc (del H' L) := fun y o h => by
    have ne : y ≠ L := fun z => by rw [z, n] at h; cases h
    rw [del_ne ne]
    exact s _ _ (b _ _ h)
  refine ⟨del H' L, del_at, a.trans sd, fun y o h => ?_, upd_same, all_app (all_same sd al) (all_one p)⟩
  have ne : y ≠ L := fun z => by rw [z, del_at] at h; cases h
  rw [upd_ne ne]
  rw [del_ne ne] at h
  exact h
theorem Urn.same {H H' : Hp} {u : Addr} (U : Urn H u) (s : Same H H') : Urn H' u := by
  obtain ⟨dg, mx, e, r⟩ := U
  exact ⟨dg, mx, s _ _ e, r⟩

theorem pair_rows {K : PySem.W.Frag} {H : Hp} {t q1 q2 : Addr} {I : List V} (ht : H t = some (.tup [.ref q1, .ref q2])) (h1 : H q1 = some (.lst I)) (h2 : H q2 = some (.lst I)) (dm : V → PyData)
    (al : ∀ y ∈ I, Dp K H y (dm y) ∧ Rowy (dm y)) (len : I.length ≤ 1000) : PairOk K H (.ref t) := by
  have da : ∀ {l : List V}, (∀ y ∈ l, Dp K H y (dm y) ∧ Rowy (dm y)) → DpAll K H l (l.map dm) := fun {l} => by
    induction l with
    | nil => exact fun _ => .nil
    | cons y l ih => exact fun h => .cons (h y (List.mem_cons_self ..)).1 (ih fun z hz => h z (List.mem_cons_of_mem _ hz))
  refine ⟨t, _, _, .list (I.map dm), rfl, .of ht, .of (.lst (.of h1) (da al)), .of (.lst (.of h2) (da al)), shows_rows (fun d hd => ?_) (by rw [List.length_map]; exact len)⟩
  obtain ⟨y, hy, rfl⟩ := List.mem_map.mp hd
  exact (al y hy).2
theorem pair_texts {K : PySem.W.Frag} {H : Hp} {t q1 q2 : Addr} {ks : List Str} (ht : H t = some (.tup [.ref q1, .ref q2])) (h1 : H q1 = some (.lst (ks.map V.str))) (h2 : H q2 = some (.lst (ks.map V.str)))
    (al : ∀ z ∈ ks, Flat (.str z)) (len : ks.length ≤ 1000) : PairOk K H (.ref t) := by
  have f : ∀ x ∈ ks.map V.str, Flat x := fun x hx => by
    obtain ⟨z, hz, rfl⟩ := List.mem_map.mp hx
    exact al z hz
  exact ⟨t, _, _, .list ((ks.map V.str).map toD), rfl, .of ht, .of (.lst (.of h1) (dpAll_flat f)), .of (.lst (.of h2) (dpAll_flat f)), (shows_lst f (by rw [List.length_map]; exact len)).x⟩
theorem pair_tups {K : PySem.W.Frag} {H : Hp} {t q1 q2 : Addr} {ys : List V} (ht : H t = some (.tup [.ref q1, .ref q2])) (h1 : H q1 = some (.tup ys)) (h2 : H q2 = some (.tup ys))
    (al : ∀ y ∈ ys, Flat y) (len : ys.length ≤ 1000) : PairOk K H (.ref t) :=
  ⟨t, _, _, .tuple (ys.map toD), rfl, .of ht, .of (.tup (.of h1) (dpAll_flat al)), .of (.tup (.of h2) (dpAll_flat al)), (shows_tup al len).x⟩
theorem pair_dict {K : PySem.W.Frag} {H : Hp} {t q1 q2 : Addr} {kvs : List (Key × V)} (ht : H t = some (.tup [.ref q1, .ref q2])) (h1 : H q1 = some (.dK kvs)) (h2 : H q2 = some (.dK kvs))
    (al : ∀ e ∈ kvs, FlatK e) (len : kvs.length ≤ 1000) : PairOk K H (.ref t) :=
  ⟨t, _, _, _, rfl, .of ht, .dic h1 (fun e he => (al e he).1), .dic h2 (fun e he => (al e he).1), shows_dict al len⟩

/-! ### lists of records as the law draws them -/
def nums : List Int := [3, 8, 1, 20, 4, 9, 15, 2, 7, 30, 5, 6]
def IsEntry (H : Hp) (n : Int) (x : V) : Prop := ∃ p ys zs, x = .ref p ∧ H p = some (.tup ys) ∧ (∀ z ∈ zs, z ∈ places) ∧ IsRec n zs ys
def Listed (H : Hp) (xs : List V) : Prop := ∀ (i : Nat) (x : V), xs[i]? = some x → ∃ n, nums[i]? = some n ∧ IsEntry H n x
def spEntries : Sp := fun vs H Q _ => ∃ (u : Addr) (m : Int), vs = [.ref u, .int m] ∧ Urn H u ∧ 0 ≤ m ∧ m ≤ 11 ∧
  ∀ (q : Addr) (H' : Hp) (xs : List V), H q = none → Urn H' u → Mo u H H' → H' q = some (.lst xs) → Listed H' xs → Q (.ref q) H'
theorem cut_front {xs : List V} {hi : Option Int} {i : Nat} {x : V} (h : (cutV xs none hi)[i]? = some x) : xs[i]? = some x := by
  unfold cutV at h
  rw [HT.sIx_none, List.drop_zero] at h
  rw [List.getElem?_take] at h
  split at h
  · exact h
  · cases h
def spLends (K : PySem.W.Frag) : Sp := fun vs H Q _ => ∃ (x : V) (es : List Str), vs = [x] ∧ RecP K H x es ∧ ∀ (q : Addr) (H' : Hp), H q = none → Same H H' → H' q = some (.lst ((outs es).map V.str)) → Q (.ref q) H'
section
variable {P : Program} {w : World} {K : PySem.W.Frag} {mg : Str → Option Value} {base : Heap}
abbrev s_lends : Stmt := top 14
abbrev N_lends : List Str := ["entry", "end"]
abbrev P_lends : List Str := ["entry"]
theorem sc_lends : FnScope N_lends P_lends (defScope s_lends) := ⟨rfl, rfl, rfl, by decide +kernel, rfl, by decide +kernel, by decide +kernel⟩
theorem bi_lends {f : Addr} {fd : FuncData} {x : Str} {K : PySem.W.Frag} (F : Fun K x x s_lends f fd) : Binds K fd P_lends [] :=
  F.binds fun _ _ _ _ _ _ us hl => match us, hl with | [_], _ => rfl
theorem ok_lends {f : Addr} {fd : FuncData} (D : Df K mg "_law_ends" s_lends f fd) : FnOk P w K mg base CX0 1 f fd P_lends (spLends K) := by
  refine D.F.ok sc_lends (fun vs H Q E h => ?_) (fun cdv A outer s H vs Q E hr h => ?_)
  · obtain ⟨x, es, rfl, _⟩ := h
    rfl
  · obtain ⟨x, es, rfl, R, k⟩ := h
    have few := R.few
    obtain ⟨p, xs, rfl, hS, l5, l6, hes⟩ := R
    refine ⟨_, (pss_one (ps_ret (pe_lc (own := [("end", 1)]) (g := gName 1) rfl sc_lends.nd (pi_tup (pe_slice sl_tup (pv 0) (po_some pe_int) (po_some (pe_un un_neg pe_int)))) (blkOk_by (N := N_lends) (sc := defScope s_lends) (by decide +kernel)) (fun _ _ _ _ _ => pg_name (i := 1) sc_lends.nd rfl (Or.inl rfl)) (fun _ _ _ _ _ => (pts_one (pt_cmpR op_ne (pv 1) pe_str (nomark _)))) (fun _ _ _ _ _ => (pv 1))))), ?_⟩
    have hc : ¬ (HT.sIx xs.length 0 (some 2) = 0 ∧ HT.sIx xs.length xs.length (some (-2)) = xs.length) := by
      generalize xs.length = n at *
      rcases (by omega : n = 5 ∨ n = 6) with rfl | rfl <;> decide
    refine ⟨_, rfl, _, rfl, _, rfl, _, rfl, p, xs, rfl, hS, hc, fun q hq => ?_⟩
    have sq : Same H (upd H q (.tup (cutV xs (some 2) (some (-2))))) := same_new hq
    rw [hes] at sq ⊢
    have at_q : upd H q (.tup (es.map V.str)) q = some (.tup (es.map V.str)) := upd_same
    generalize upd H q (.tup (es.map V.str)) = H1 at *
    refine ⟨q, rfl, ⟨_, .of at_q⟩, fun q2 hq2 => ?_⟩
    refine lc_tup (xs := es.map V.str) (fun i H' => H' = upd H1 q2 (.lst ((outs (es.take i)).map V.str))) rfl (fun i H' _ e => ?_) (fun i y H' hy e => ?_) (fun H' e => ?_)
    · subst e
      exact Same.seqT (same_new hq2) (.of at_q)
    · subst e
      rw [List.getElem?_map] at hy
      cases ez : es[i]? with
      | none => rw [ez] at hy; cases hy
      | some z =>
        rw [ez] at hy
        cases hy
        have tk : es.take (i + 1) = es.take i ++ [z] := by rw [List.take_add_one, ez]; rfl
        refine ⟨rfl, _, rfl, rfl, ?_⟩
        refine ⟨_, rfl, ?_⟩
        by_cases c : z = ("-" : Str)
        · have o : outs (es.take i ++ [z]) = outs (es.take i) := by
            unfold outs
            rw [List.filter_append, c]
            exact List.append_nil _
          have e0 : (!decide (V.str z = V.str ("-" : Str))) = false := by rw [decide_eq_true (by rw [c])]; rfl
          show (if (!decide (V.str z = V.str ("-" : Str))) = true then _ else _)
          rw [e0, tk, o]
          exact iteF rfl
        · have o : outs (es.take i ++ [z]) = outs (es.take i) ++ [z] := by
            unfold outs
            rw [List.filter_append]
            congr 1
            rw [List.filter_cons, decide_eq_false c]
            rfl
          have e0 : (!decide (V.str z = V.str ("-" : Str))) = true := by rw [decide_eq_false (fun e => c (V.str.inj e))]; rfl
          show (if (!decide (V.str z = V.str ("-" : Str))) = true then _ else _)
          rw [e0, tk, o]
          refine iteT ⟨_, rfl, (outs (es.take i)).map V.str, upd_same, ?_, ?_⟩
          · rw [List.length_map]
            exact Nat.lt_of_le_of_lt (Nat.le_trans (List.length_filter_le _ _) (Nat.le_trans (by rw [List.length_take]; exact Nat.min_le_right _ _) few)) (by decide)
          · rw [List.map_append]
            exact upd_upd_same
    · subst e
      rw [List.length_map, List.take_length]
      refine k q2 _ ?_ (sq.trans (same_new hq2)) upd_same
      cases e : H q2 with
      | none => rfl
      | some o => exact absurd (sq _ _ e) (by rw [hq2]; simp)
abbrev s_entries : Stmt := top 13
abbrev N_entries : List Str := ["urn", "most", "numbers", "ends", "number"]
abbrev P_entries : List Str := ["urn", "most"]
theorem sc_entries : FnScope N_entries P_entries (defScope s_entries) := ⟨rfl, rfl, rfl, by decide +kernel, rfl, by decide +kernel, by decide +kernel⟩
theorem bi_entries {f : Addr} {fd : FuncData} {x : Str} {K : PySem.W.Frag} (F : Fun K x x s_entries f fd) : Binds K fd P_entries [] :=
  F.binds fun _ _ _ _ _ _ us hl => match us, hl with | [_, _], _ => rfl
theorem ok_entries {f f1 f2 f3 : Addr} {fd fd1 fd2 fd3 : FuncData} (D : Df K mg "_law_entries" s_entries f fd) (D_draw : Df K mg "_law_draw" s_draw f1 fd1) (G_draw : FnOk P w K mg base CX0 1 f1 fd1 P_draw spDraw)
    (D_choose : Df K mg "_law_choose" s_choose f2 fd2) (G_choose : FnOk P w K mg base CX0 2 f2 fd2 P_choose spChoose) (D_entry : Df K mg "_law_entry" s_entry f3 fd3) (G_entry : FnOk P w K mg base CX0 4 f3 fd3 P_entry spEntry) (T : Bi mg) : FnOk P w K mg base CX0 5 f fd P_entries spEntries := by
  have b_draw := bi_draw D_draw.F
  have b_choose := bi_choose D_choose.F
  have b_entry := bi_entry D_entry.F
  refine D.F.ok sc_entries (fun vs H Q E h => ?_) (fun cdv A outer s H vs Q E hr h => ?_)
  · obtain ⟨u, m, rfl, _⟩ := h
    rfl
  · obtain ⟨u, m, rfl, U, m0, m1, k⟩ := h
    refine ⟨_, (pss_cons (ps_set (i := 2) sc_entries.nd rfl (Or.inl rfl) (pe_lst (pa_cons pe_int (pa_cons pe_int (pa_cons pe_int (pa_cons pe_int (pa_cons pe_int (pa_cons pe_int (pa_cons pe_int (pa_cons pe_int (pa_cons pe_int (pa_cons pe_int (pa_cons pe_int (pa_cons pe_int pa_nil))))))))))))))
      (pss_cons (ps_set (i := 3) sc_entries.nd rfl (Or.inr rfl) (pe_call G_choose (hr.mono (by decide)) rfl D_choose.g D_choose.F.kp b_choose .nil pass0 (pa_cons (pv 0) (pa_cons (pe_lst (pa_cons (pe_lst (pa_cons pe_str pa_nil)) (pa_cons (pe_lst (pa_cons pe_str (pa_cons pe_str pa_nil))) (pa_cons (pe_lst (pa_cons pe_str (pa_cons pe_str (pa_cons pe_str pa_nil)))) (pa_cons (pe_lst (pa_cons pe_str (pa_cons pe_str pa_nil))) pa_nil))))) pa_nil))))
      (pss_one (ps_ret (pe_lc (own := [("number", 4)]) (g := gName 4) (tt := tYes) rfl sc_entries.nd (pi_list (pe_slice sl_list (pv 2) po_none (po_some (pe_call G_draw (hr.mono (by decide)) rfl D_draw.g D_draw.F.kp b_draw .nil pass0 (pa_cons (pv 0) (pa_cons (pe_op op_add (pv 1) pe_int) pa_nil)))))) (blkOk_by (N := N_entries) (sc := defScope s_entries) (by decide +kernel)) (fun _ _ _ _ _ => pg_name (i := 4) sc_entries.nd rfl (Or.inl rfl)) (fun _ _ _ _ _ => pts_nil) (fun _ _ _ _ _ => (pe_call G_entry (hr.mono (by decide)) rfl D_entry.g D_entry.F.kp b_entry .nil pass0 (pa_cons (pv 0) (pa_cons (pv 4) (pa_cons (pv 3) pa_nil)))))))))), ?_⟩
    refine ⟨(by show 12 ≤ sizeLine; decide), fun l0 hl0 => ?_⟩
    have s0 := same_new (o := HO.lst (nums.map V.int)) hl0
    have e0 : upd H l0 (HO.lst (nums.map V.int)) l0 = some (HO.lst (nums.map V.int)) := upd_same
    have U0 := U.new (o := HO.lst (nums.map V.int)) hl0
    have M0 := Mo.new (u := u) (o := HO.lst (nums.map V.int)) hl0
    change _ at e0
    have gl : upd H l0 (HO.lst [V.int 3, V.int 8, V.int 1, V.int 20, V.int 4, V.int 9, V.int 15, V.int 2, V.int 7, V.int 30, V.int 5, V.int 6]) = upd H l0 (HO.lst (nums.map V.int)) := rfl
    rw [gl]
    generalize upd H l0 (HO.lst (nums.map V.int)) = H0 at *
    -- the places
    refine ⟨_, rfl, (by show 1 ≤ sizeLine; decide), fun a1 h1 => ⟨(by show 2 ≤ sizeLine; decide), fun a2 h2 => ⟨(by show 3 ≤ sizeLine; decide), fun a3 h3 => ⟨(by show 2 ≤ sizeLine; decide), fun a4 h4 => ⟨(by show 4 ≤ sizeLine; decide), fun a5 h5 => ?_⟩⟩⟩⟩⟩
    have c1 := same_new (o := HO.lst ((["a"] : List Str).map V.str)) h1
    have c2 := same_new (o := HO.lst ((["a", "b"] : List Str).map V.str)) h2
    have c3 := same_new (o := HO.lst ((["b", "a", "c"] : List Str).map V.str)) h3
    have c4 := same_new (o := HO.lst ((["shelf", "van"] : List Str).map V.str)) h4
    have c5 := same_new (o := HO.lst [V.ref a1, V.ref a2, V.ref a3, V.ref a4]) h5
    have U5 := ((((U0.new (o := HO.lst ((["a"] : List Str).map V.str)) h1).new (o := HO.lst ((["a", "b"] : List Str).map V.str)) h2).new (o := HO.lst ((["b", "a", "c"] : List Str).map V.str)) h3).new (o := HO.lst ((["shelf", "van"] : List Str).map V.str)) h4).new (o := HO.lst [V.ref a1, V.ref a2, V.ref a3, V.ref a4]) h5
    refine ⟨u, a5, _, rfl, U5, upd_same, (by show 1 ≤ 4; decide), (by show 4 ≤ 1000; decide), fun x H6 hx U6 m6 => ?_⟩
    have M6 : Mo u H H6 := ((((((M0.trans (Same.mo c1)).trans (Same.mo c2)).trans (Same.mo c3)).trans (Same.mo c4)).trans (Same.mo c5))).trans m6
    have ed : ∃ (la : Addr) (zs : List Str), x = .ref la ∧ H6 la = some (.lst (zs.map V.str)) ∧ 1 ≤ zs.length ∧ zs.length ≤ 10 ∧ ∀ z ∈ zs, z ∈ places := by
      have al : ∀ zs ∈ ([["a"], ["a", "b"], ["b", "a", "c"], ["shelf", "van"]] : List (List Str)), ∀ z ∈ zs, z ∈ places := by decide +kernel
      simp only [List.mem_cons, List.not_mem_nil, or_false] at hx
      rcases hx with rfl | rfl | rfl | rfl
      · exact ⟨a1, ["a"], rfl, U5.lst m6 (c5 _ _ (c4 _ _ (c3 _ _ (c2 _ _ upd_same)))), by decide, by decide, al _ (by simp)⟩
      · exact ⟨a2, ["a", "b"], rfl, U5.lst m6 (c5 _ _ (c4 _ _ (c3 _ _ upd_same))), by decide, by decide, al _ (by simp)⟩
      · exact ⟨a3, ["b", "a", "c"], rfl, U5.lst m6 (c5 _ _ (c4 _ _ upd_same)), by decide, by decide, al _ (by simp)⟩
      · exact ⟨a4, ["shelf", "van"], rfl, U5.lst m6 (c5 _ _ upd_same), by decide, by decide, al _ (by simp)⟩
    obtain ⟨la, zs, rfl, el, z1, z2, zp⟩ := ed
    have e6 : H6 l0 = some (.lst (nums.map V.int)) := U5.lst m6 (c5 _ _ (c4 _ _ (c3 _ _ (c2 _ _ (c1 _ _ e0)))))
    -- the slice
    refine ⟨_, rfl, _, rfl, _, rfl, _, _, rfl, rfl, u, _, rfl, U6, by omega, by omega, fun r H7 r0 r1 U7 m7 => ?_⟩
    have e7 := U6.lst m7 e6
    have l7 := U6.lst m7 el
    refine ⟨_, rfl, l0, _, rfl, .of e7, fun p hp => ⟨p, rfl, ⟨_, .of upd_same⟩, fun q hq => ?_⟩⟩
    have t1 := same_new (o := HO.lst (cutV (nums.map V.int) none (some r))) hp
    have t2 := same_new (o := HO.lst []) hq
    have U8 := (U7.new (o := HO.lst (cutV (nums.map V.int) none (some r))) hp).new (o := HO.lst []) hq
    have M8 := ((M6.trans m7).trans (Same.mo t1)).trans (Same.mo t2)
    have ep := t2 _ _ (upd_same (H := H7) (a := p) (o := HO.lst (cutV (nums.map V.int) none (some r))))
    have l8 := t2 _ _ (t1 _ _ l7)
    have hq0 : H q = none := by
      cases e : H q with
      | none => rfl
      | some o =>
        by_cases qu : q = u
        · subst qu
          obtain ⟨dg, mx, eu, _⟩ := U7.new (o := HO.lst (cutV (nums.map V.int) none (some r))) hp
          rw [hq] at eu
          cases eu
        · have := ((M6.trans m7).trans (Same.mo t1)) q o qu e
          rw [hq] at this
          cases this
    have npq : p ≠ q := ne_of_none upd_same hq
    have nlq : la ≠ q := ne_of_none (t1 _ _ l7) hq
    refine lc_list (xs := cutV (nums.map V.int) none (some r)) (fun i H' => ∃ acc, H' q = some (.lst acc) ∧ acc.length = i ∧ Listed H' acc ∧ Urn H' u ∧ Mo u H H' ∧ H' p = some (.lst (cutV (nums.map V.int) none (some r))) ∧ H' la = some (.lst (zs.map V.str)))
      ⟨[], upd_same, rfl, fun i x h => by simp at h, U8, M8, ep, l8⟩ (fun i H' _ ⟨_, _, _, _, _, _, e, _⟩ => .of e) (fun i x H' hx ⟨acc, g1, g2, g3, g4, g5, g6, g7⟩ => ?_) (fun H' ⟨acc, g1, g2, g3, g4, g5, g6, g7⟩ => ?_)
    · have hx2 := cut_front hx
      rw [List.getElem?_map] at hx2
      cases en : nums[i]? with
      | none => rw [en] at hx2; cases hx2
      | some n =>
        rw [en] at hx2
        cases hx2
        have li : acc.length < 12 := by
          rw [g2]
          exact (List.getElem?_eq_some_iff.mp en).1
        refine ⟨rfl, _, rfl, _, rfl, _, rfl, u, la, n, zs, rfl, g4, g7, z1, z2, zp, fun pe ys H9 hpe R e9 U9 m9 => ?_⟩
        have eq9 := g4.lst m9 g1
        refine ⟨acc, eq9, Nat.lt_trans li (by decide), acc ++ [.ref pe], upd_same, by rw [List.length_append, g2]; rfl, ?_, ?_, ?_, ?_, ?_⟩
        · have keepT : ∀ {b : Addr} {ts : List V}, H9 b = some (.tup ts) → upd H9 q (.lst (acc ++ [.ref pe])) b = some (.tup ts) := fun {b ts} hb => by
            rw [upd_ne (fun z => by subst z; rw [eq9] at hb; cases hb)]
            exact hb
          intro j y hy
          by_cases c : j < acc.length
          · rw [List.getElem?_append_left c] at hy
            obtain ⟨n2, a2, p2, ys2, zs2, b2, b3, b4, b5⟩ := g3 j y hy
            exact ⟨n2, a2, p2, ys2, zs2, b2, keepT (g4.tup m9 b3), b4, b5⟩
          · rw [List.getElem?_append_right (by omega)] at hy
            have : j = acc.length := by
              by_cases c2 : j - acc.length = 0
              · omega
              · rw [List.getElem?_eq_none (by rw [List.length_singleton]; omega)] at hy
                cases hy
            subst this
            rw [Nat.sub_self] at hy
            cases hy
            rw [g2]
            exact ⟨n, en, pe, ys, zs, rfl, keepT e9, zp, R⟩
        · obtain ⟨dg, mx, eu, rr⟩ := U9
          exact ⟨dg, mx, by rw [upd_ne (fun z => by rw [z] at eu; rw [eq9] at eu; cases eu)]; exact eu, rr⟩
        · intro b o nb eb
          rw [upd_ne (ne_of_none eb hq0)]
          exact m9 _ _ nb (g5 _ _ nb eb)
        · rw [upd_ne npq]
          exact g4.lst m9 g6
        · rw [upd_ne nlq]
          exact g4.lst m9 g7
    · exact k q H' acc hq0 g4 g5 g1 g3
end
end Sk

set_option Elab.async false
set_option maxRecDepth 100000
set_option maxHeartbeats 4000000
namespace Sk
open PySem L2 PyProof.Rows

/-! ### what a list of entries is -/
def ktH (H : Hp) : V → Int × Int
  | .ref p => match H p with
    | some (.tup (.int i :: .int t :: _)) => (t, i)
    | _ => (0, 0)
  | _ => (0, 0)
def unS : V → Str
  | .str z => z
  | _ => "-"
def evH (H : Hp) : V → List Str
  | .ref p => match H p with
    | some (.tup ys) => (cutV ys (some 2) (some (-2))).map unS
    | _ => []
  | _ => []
def dmH (H : Hp) : V → PyData
  | .ref p => match H p with
    | some (.tup ys) => .tuple (ys.map toD)
    | _ => .none
  | _ => .none
theorem entry_facts {K : PySem.W.Frag} {H H' : Hp} {n : Int} {x : V} (h : IsEntry H n x) (h0 : 0 ≤ n) (h1 : n ≤ 100) (s : Same H H') :
    RecAt K H' x (ktH H x).1 (ktH H x).2 ∧ (ktH H x).2 = n ∧ RecP K H' x (evH H x) ∧ (∀ z ∈ outs (evH H x), z ∈ places) ∧ Dp K H' x (dmH H x) ∧ Rowy (dmH H x) := by
  obtain ⟨p, ys, zs, rfl, hp, hz, R⟩ := h
  have hp' := s _ _ hp
  have e3 : dmH H (.ref p) = .tuple (ys.map toD) := by unfold dmH; simp only [hp]
  have e2 : evH H (.ref p) = (cutV ys (some 2) (some (-2))).map unS := by unfold evH; simp only [hp]
  have inZ : ∀ {z : Str}, z ∈ out1 :: zs → z ∈ out1 :: places := fun {z} hm => by
    rcases List.mem_cons.mp hm with rfl | hm
    · exact List.mem_cons_self ..
    · exact List.mem_cons_of_mem _ (hz z hm)
  have fl : ∀ {z : Str}, z ∈ out1 :: places → Flat (.str z) := fun {z} hm => by
    rcases List.mem_cons.mp hm with rfl | hm
    · exact flat_out
    · exact flat_place hm
  have noOut : ∀ es : List Str, (∀ z ∈ es, z ∈ out1 :: places) → ∀ z ∈ outs es, z ∈ places := fun es he z hm => by
    obtain ⟨m1, m2⟩ := List.mem_filter.mp hm
    rcases List.mem_cons.mp (he z m1) with rfl | q
    · exact absurd m2 (by decide +kernel)
    · exact q
  rcases R with ⟨t, z, c, k, rfl, t0, t1, hzz, c0, c1, hm⟩ | ⟨t, o, g, c, k, rfl, t0, t1, ho, hg, hne, c0, c1, hm⟩
  · have e1 : ktH H (.ref p) = (t, n) := by unfold ktH; simp only [hp]
    rw [e1, e2, e3]
    have ce : cutV [V.int n, .int t, .str z, .int c, k] (some 2) (some (-2)) = [z].map V.str := rfl
    refine ⟨⟨p, _, rfl, .of hp', rfl, rfl⟩, rfl, ⟨p, _, rfl, .of hp', (by show 5 ≤ 5; decide), (by show 5 ≤ 6; decide), by rw [ce]; rfl⟩, ?_, ?_, ?_⟩
    · rw [ce]
      exact noOut [z] fun y hy => by rw [List.mem_singleton.mp hy]; exact List.mem_cons_of_mem _ (hz z hzz)
    · have fa : ∀ y ∈ [V.int n, .int t, .str z, .int c, k], Flat y := fun y hy => by
        simp only [List.mem_cons, List.not_mem_nil, or_false] at hy
        rcases hy with rfl | rfl | rfl | rfl | rfl
        · exact flat_int (by omega) (by omega)
        · exact flat_int (by omega) (by omega)
        · exact flat_place (hz z hzz)
        · exact flat_int (by omega) (by omega)
        · exact flat_mark hm
      exact .tup (.of hp') (dpAll_flat fa)
    · refine ⟨_, rfl, fun y hy => ?_, (by show 5 ≤ 10; decide)⟩
      simp only [List.mem_cons, List.not_mem_nil, or_false] at hy
      rcases hy with rfl | rfl | rfl | rfl | rfl
      · exact flat_int (by omega) (by omega)
      · exact flat_int (by omega) (by omega)
      · exact flat_place (hz z hzz)
      · exact flat_int (by omega) (by omega)
      · exact flat_mark hm
  · have e1 : ktH H (.ref p) = (t, n) := by unfold ktH; simp only [hp]
    rw [e1, e2, e3]
    have ce : cutV [V.int n, .int t, .str o, .str g, .int c, k] (some 2) (some (-2)) = [o, g].map V.str := rfl
    have fa : ∀ y ∈ [V.int n, .int t, .str o, .str g, .int c, k], Flat y := fun y hy => by
      simp only [List.mem_cons, List.not_mem_nil, or_false] at hy
      rcases hy with rfl | rfl | rfl | rfl | rfl | rfl
      · exact flat_int (by omega) (by omega)
      · exact flat_int (by omega) (by omega)
      · exact fl (inZ ho)
      · exact fl (inZ hg)
      · exact flat_int (by omega) (by omega)
      · exact flat_mark hm
    refine ⟨⟨p, _, rfl, .of hp', rfl, rfl⟩, rfl, ⟨p, _, rfl, .of hp', (by show 5 ≤ 6; decide), (by show 6 ≤ 6; decide), by rw [ce]; rfl⟩, ?_, .tup (.of hp') (dpAll_flat fa), ⟨_, rfl, fa, (by show 6 ≤ 10; decide)⟩⟩
    rw [ce]
    exact noOut [o, g] fun y hy => by
      rcases List.mem_cons.mp hy with rfl | hy
      · exact inZ ho
      · rw [List.mem_singleton.mp hy]
        exact inZ hg
theorem nums_bd : ∀ n ∈ nums, 0 ≤ n ∧ n ≤ 100 := by decide +kernel
theorem nums_nd : nums.Nodup := by decide +kernel
structure Rows (K : PySem.W.Frag) (H : Hp) (xs : List V) (kt : V → Int × Int) (ev : V → List Str) (dm : V → PyData) : Prop where
  recA : ∀ {H' : Hp}, Same H H' → ∀ x ∈ xs, RecAt K H' x (kt x).1 (kt x).2
  ends : ∀ {H' : Hp}, Same H H' → ∀ x ∈ xs, RecP K H' x (ev x)
  dp : ∀ {H' : Hp}, Same H H' → ∀ x ∈ xs, Dp K H' x (dm x) ∧ Rowy (dm x)
  pl : ∀ x ∈ xs, ∀ z ∈ outs (ev x), z ∈ places
  nd : (xs.map kt).Nodup
  few : xs.length ≤ 12
theorem rows_of {K : PySem.W.Frag} {H : Hp} {xs : List V} (L : Listed H xs) : Rows K H xs (ktH H) (evH H) (dmH H) := by
  have one : ∀ x ∈ xs, ∃ n, 0 ≤ n ∧ n ≤ 100 ∧ IsEntry H n x := fun x hx => by
    obtain ⟨i, hi, e⟩ := List.getElem_of_mem hx
    obtain ⟨n, e1, e2⟩ := L i x (by rw [List.getElem?_eq_getElem hi, e])
    have b := nums_bd n (List.mem_of_getElem? e1)
    exact ⟨n, b.1, b.2, e2⟩
  have few : xs.length ≤ 12 := by
    by_cases c : xs.length ≤ 12
    · exact c
    · obtain ⟨n, e1, _⟩ := L 12 (xs[12]'(by omega)) (List.getElem?_eq_getElem _)
      have := (List.getElem?_eq_some_iff.mp e1).1
      exact absurd this (by decide)
  refine ⟨fun s x hx => ?_, fun s x hx => ?_, fun s x hx => ?_, fun x hx => ?_, ?_, few⟩
  · obtain ⟨n, b0, b1, I⟩ := one x hx
    exact (entry_facts I b0 b1 s).1
  · obtain ⟨n, b0, b1, I⟩ := one x hx
    exact (entry_facts I b0 b1 s).2.2.1
  · obtain ⟨n, b0, b1, I⟩ := one x hx
    exact (entry_facts I b0 b1 s).2.2.2.2
  · obtain ⟨n, b0, b1, I⟩ := one x hx
    exact (entry_facts (K := K) I b0 b1 (Same.refl H)).2.2.2.1
  · have e : (xs.map (ktH H)).map Prod.snd = nums.take xs.length := by
      refine List.ext_getElem? fun i => ?_
      rw [List.map_map, List.getElem?_map, List.getElem?_take]
      by_cases c : i < xs.length
      · rw [if_pos c]
        obtain ⟨n, e1, e2⟩ := L i xs[i] (List.getElem?_eq_getElem c)
        have b := nums_bd n (List.mem_of_getElem? e1)
        rw [List.getElem?_eq_getElem c, e1]
        show some ((ktH H xs[i]).2) = some n
        rw [(entry_facts (K := K) e2 b.1 b.2 (Same.refl H)).2.1]
      · rw [if_neg c, List.getElem?_eq_none (by omega)]
        rfl
    have nd : ((xs.map (ktH H)).map Prod.snd).Nodup := by
      rw [e]
      exact nums_nd.sublist (List.take_sublist _ _)
    exact List.Pairwise.of_map Prod.snd (fun a b h q => h (by rw [q])) nd
/-! ### dict of pairs -/
def keysOf (l : List Str) : List Str := l.foldl (fun t z => if z ∈ t then t else t ++ [z]) []
theorem keysOf_snoc (l : List Str) (z : Str) : keysOf (l ++ [z]) = if z ∈ keysOf l then keysOf l else keysOf l ++ [z] := by
  unfold keysOf
  rw [List.foldl_append]
  rfl
theorem rev_ind {α : Type} {P : List α → Prop} (h0 : P []) (h1 : ∀ l a, P l → P (l ++ [a])) (l : List α) : P l := by
  have go : ∀ m : List α, P m.reverse := fun m => by
    induction m with
    | nil => exact h0
    | cons a m ih =>
      rw [List.reverse_cons]
      exact h1 _ _ ih
  have := go l.reverse
  rw [List.reverse_reverse] at this
  exact this
theorem keysOf_ok (l : List Str) : (keysOf l).Nodup ∧ ∀ z, z ∈ keysOf l ↔ z ∈ l := by
  refine rev_ind (P := fun l => (keysOf l).Nodup ∧ ∀ z, z ∈ keysOf l ↔ z ∈ l) ⟨List.nodup_nil, fun z => Iff.rfl⟩ (fun l a ih => ?_) l
  rw [keysOf_snoc]
  by_cases c : a ∈ keysOf l
  · rw [if_pos c]
    refine ⟨ih.1, fun z => ?_⟩
    rw [ih.2, List.mem_append, List.mem_singleton]
    constructor
    · exact Or.inl
    · rintro (h | rfl)
      · exact h
      · exact (ih.2 _).mp c
  · rw [if_neg c]
    refine ⟨List.nodup_append.mpr ⟨ih.1, by simp, fun x hx y hy e => c (by rw [List.mem_singleton.mp hy] at e; rw [← e]; exact hx)⟩, fun z => ?_⟩
    rw [List.mem_append, List.mem_append, ih.2]
theorem merge_tab (f : Str → Int) (l : List Str) : mergeK [] (tab l f) = tab (keysOf l) f := by
  refine rev_ind (P := fun l => mergeK [] (tab l f) = tab (keysOf l) f) rfl (fun l a ih => ?_) l
  have e : tab (l ++ [a]) f = tab l f ++ [((Sum.inr a : Key), V.int (f a))] := by unfold tab; rw [List.map_append]; rfl
  have m : mergeK [] (tab l f ++ [((Sum.inr a : Key), V.int (f a))]) = putK (mergeK [] (tab l f)) (.inr a) (.int (f a)) := by
    unfold mergeK
    rw [List.foldl_append]
    rfl
  rw [e, m, ih, keysOf_snoc]
  by_cases c : a ∈ keysOf l
  · rw [if_pos c, tab_put c]
    exact tab_same fun z => by
      by_cases q : z = a
      · rw [if_pos q, q]
      · rw [if_neg q]
  · rw [if_neg c, putK_new _ (tab_non c)]
    unfold tab
    rw [List.map_append]
    rfl
theorem same_out {H0 H : Hp} {q : Addr} {o : HO} (n : H0 q = none) (s : Same H0 H) : Same H0 (upd H q o) := fun b x e => by
  rw [upd_ne (ne_of_none e n)]
  exact s _ _ e
theorem same_free {H H' : Hp} {q : Addr} (s : Same H H') (n : H' q = none) : H q = none := by
  cases e : H q with
  | none => rfl
  | some o => exact absurd (s _ _ e) (by rw [n]; simp)
theorem dp_rows {K : PySem.W.Frag} {H : Hp} (dm : V → PyData) : ∀ {l : List V}, (∀ y ∈ l, Dp K H y (dm y) ∧ Rowy (dm y)) → DpAll K H l (l.map dm)
  | [], _ => .nil
  | y :: l, h => .cons (h y (List.mem_cons_self ..)).1 (dp_rows dm fun z hz => h z (List.mem_cons_of_mem _ hz))
theorem shows_two {ds : List PyData} {ks : List Str} (h : ∀ d ∈ ds, Rowy d) (l : ds.length ≤ 1000) (f : ∀ z ∈ ks, Flat (.str z)) (l2 : ks.length ≤ 1000) : ShowsX (.list [.list ds, .list ((ks.map V.str).map toD)]) := by
  obtain ⟨b1, b2, b3, b4⟩ := rowy_all h
  obtain ⟨c1, c2, _, c4, c5⟩ := flat_all (xs := ks.map V.str) fun x hx => by
    obtain ⟨z, hz, rfl⟩ := List.mem_map.mp hx
    exact f z hz
  rw [List.length_map] at c5
  refine ⟨?_, ?_, ?_, ?_⟩
  · simp only [PyData.leavesShort, PyData.leavesShortAll, b1, c1, Bool.and_self]
  · simp only [PyData.showable, PyData.showableAll, b2, c2, Bool.and_self]
  · simp only [PyData.depth, PyData.depthAll]
    omega
  · simp only [PyData.weight, PyData.weightAll]
    omega
end Sk

set_option Elab.async false
set_option maxRecDepth 100000
set_option maxHeartbeats 4000000
namespace Sk
open PySem L2 PyProof.Rows
theorem occ_bd (l : List Str) (z : Str) : 0 ≤ occ l z ∧ occ l z ≤ l.length := by
  unfold occ
  have := List.length_filter_le (fun y => decide (y = z)) l
  omega
theorem paired_imp {α β : Type} {F G : α → β → Prop} (h : ∀ a b, F a b → G a b) : ∀ {l : List α} {m : List β}, Paired F l m → Paired G l m
  | _, _, .nil => .nil
  | _, _, .cons a b => .cons (h _ _ a) (paired_imp h b)
def spLaw (K : PySem.W.Frag) : Sp := fun vs H Q _ => ∃ (a : Addr) (ns : List Int), vs = [.ref a] ∧ SqL K H a (ns.map V.int) ∧ ns.length ≤ 63 ∧ (∀ z ∈ ns, Builtin.Int.intBits z ≤ 1048576) ∧ ∀ H', Q (.bl true) H'
section
variable {P : Program} {w : World} {K : PySem.W.Frag} {mg : Str → Option Value} {base : Heap}
abbrev s_law : Stmt := top 15
abbrev N_law : List Str := ["script", "start", "urn", "turn", "entries", "seen", "due", "entry", "ahead", "ends", "many", "again", "found", "told", "dues", "one", "end"]
abbrev P_law : List Str := ["script"]
theorem sc_law : FnScope N_law P_law (defScope s_law) := ⟨rfl, rfl, rfl, by decide +kernel, rfl, by decide +kernel, by decide +kernel⟩
theorem bi_law {f : Addr} {fd : FuncData} {x : Str} {K : PySem.W.Frag} (F : Fun K x x s_law f fd) : Binds K fd P_law [] :=
  F.binds fun _ _ _ _ _ _ us hl => match us, hl with | [_], _ => rfl
theorem ok_law {f f1 f2 f3 f4 f5 f6 f7 f8 f9 f10 f11 f12 : Addr} {fd fd1 fd2 fd3 fd4 fd5 fd6 fd7 fd8 fd9 fd10 fd11 fd12 : FuncData} (D : Df K mg "law" s_law f fd) (D_urn : Df K mg "_law_urn" s_urn f1 fd1) (D_draw : Df K mg "_law_draw" s_draw f2 fd2) (D_choose : Df K mg "_law_choose" s_choose f3 fd3) (D_mark : Df K mg "_law_mark" s_mark f4 fd4) (D_entry : Df K mg "_law_entry" s_entry f5 fd5) (D_entries : Df K mg "_law_entries" s_entries f6 fd6) (D_lends : Df K mg "_law_ends" s_lends f7 fd7) (D_in : Df K mg "places_in" s_in f8 fd8) (D_key : Df K mg "_time_and_id" s_key f9 fd9) (D_seq : Df K mg "in_sequence" s_seq f10 fd10) (D_places : Df K mg "places_of" s_places f11 fd11) (D_stretches : Df K mg "stretches_of" s_stretches f12 fd12) (T : Bi mg) (C : Cs mg) : AtTop P w K mg base f fd P_law (spLaw K) := by
  have G_urn := ok_urn (P := P) (w := w) (base := base) D_urn T
  have b_urn := bi_urn D_urn.F
  have G_draw := ok_draw (P := P) (w := w) (base := base) D_draw
  have b_draw := bi_draw D_draw.F
  have G_choose := ok_choose (P := P) (w := w) (base := base) D_choose D_draw T
  have b_choose := bi_choose D_choose.F
  have G_entry := ok_entry (P := P) (w := w) (base := base) D_entry D_draw D_choose D_mark T
  have b_entry := bi_entry D_entry.F
  have G_entries := ok_entries (P := P) (w := w) (base := base) D_entries D_draw G_draw D_choose G_choose D_entry G_entry T
  have b_entries := bi_entries D_entries.F
  have G_lends := ok_lends (P := P) (w := w) (base := base) D_lends
  have b_lends := bi_lends D_lends.F
  have G_in := ok_in (P := P) (w := w) (base := base) D_in C
  have b_in := bi_in D_in.F
  have G_seq := ok_seq (P := P) (w := w) (base := base) D_seq D_key T
  have b_seq := bi_seq D_seq.F
  have G_places := ok_places (P := P) (w := w) (base := base) D_places D_in G_in T
  have b_places := bi_places D_places.F
  have G_stretches := ok_stretches (P := P) (w := w) (base := base) D_stretches D_places G_places D_in G_in T
  have b_stretches := bi_stretches D_stretches.F
  refine atTop (k := 7) D.F sc_law ⟨rfl, by decide, by decide⟩ (fun vs H Q E h => ?_) (fun cdv A outer s H vs Q hr hgA h => ?_)
  · obtain ⟨a, ns, rfl, _⟩ := h
    rfl
  · obtain ⟨a, ns, rfl, hS, hlen, hbits, k⟩ := h
    have hu64 := hr.units
    have hu0 := hr.units0
    have hg : (cxOf CX0 P w K mg base N_law "law" (defScope s_law) f cdv A outer s H E0).nox.A.guards = some [] := by
      show (A.deeper _).guards = some []
      first | exact hgA | (unfold Around.deeper; simpa using hgA) | simpa [Around.deeper] using hgA
    refine ⟨_, (pss_cons (ps_for PassesOwn.never rfl (pi_range1 rfl T.range (pa_cons (pe_callB (call_max2 rfl) (by rfl) T.max (by decide +kernel) (pa_cons pe_int (pa_cons (pe_callB (call_min2 rfl) (by rfl) T.min (by decide +kernel) (pa_cons pe_int (pa_cons (pe_callB (call_len_seq) (by rfl) T.len PySem.boot_len (pa_cons (pv 0) pa_nil)) pa_nil))) pa_nil))) pa_nil)) (pg_name (i := 1) sc_law.nd rfl (Or.inl rfl))
      (pss_cons (ps_set (i := 2) sc_law.nd rfl (Or.inl rfl) (pe_call G_urn (hr.mono (by decide)) rfl D_urn.g D_urn.F.kp b_urn .nil pass0 (pa_cons (pv 0) (pa_cons (pv 1) pa_nil))))
        (pss_one (ps_for PassesOwn.never rfl (pi_range1 rfl T.range (pa_cons pe_int pa_nil)) (pg_name (i := 3) sc_law.nd rfl (Or.inl rfl))
        (pss_cons (ps_set (i := 4) sc_law.nd rfl (Or.inl rfl) (pe_call G_entries (hr.mono (by decide)) rfl D_entries.g D_entries.F.kp b_entries .nil pass0 (pa_cons (pv 2) (pa_cons pe_int pa_nil))))
          (pss_cons (ps_par (i := 5) (j := 6) rfl sc_law.nd rfl rfl (by decide) rfl rfl (pa_cons (pe_callB (call_reprX hg hu64) (by rfl) T.repr (by decide +kernel) (pa_cons (pv 4) pa_nil)) (pa_cons (pe_lst pa_nil) pa_nil)) (by rfl))
          (pss_cons (ps_for PassesOwn.never rfl (pi_list (pv 4)) (pg_name (i := 7) sc_law.nd rfl (Or.inr rfl))
          (pss_cons (ps_setLc (i := 8) (own := [("one", 15)]) (g := gName 15) rfl sc_law.nd rfl rfl (sw_true rfl rfl rfl (by decide +kernel)) (pi_list (pv 6)) (blkOk_by (N := N_law) (sc := defScope s_law) (by decide +kernel)) (fun _ _ _ _ _ => pg_name (i := 15) sc_law.nd rfl (Or.inl rfl)) (fun _ _ _ _ _ => (pts_one (pt_cmpR (show OpR _ (compareOp .Lt) (rLtT K) from op_ltT (by exact hu0)) (pe_tup (pa_cons (pe_ix (r := rIxT K) ix_tup (pv 15) pe_int (fun _ _ => rfl)) (pa_cons (pe_ix (r := rIxT K) ix_tup (pv 15) pe_int (fun _ _ => rfl)) pa_nil))) (pe_tup (pa_cons (pe_ix (r := rIxT K) ix_tup (pv 7) pe_int (fun _ _ => rfl)) (pa_cons (pe_ix (r := rIxT K) ix_tup (pv 7) pe_int (fun _ _ => rfl)) pa_nil))) (nomark _)))) (fun _ _ _ _ _ => (pv 15)))
            (pss_one (ps_expr (pe_bm PySem.F.plainAttrs_list PySem.F.slot_list_insert PySem.F.type_list_insert mt_insert (pv 6) (pa_cons (pe_callB (call_len_seq) (by rfl) T.len PySem.boot_len (pa_cons (pv 8) pa_nil)) (pa_cons (pv 7) pa_nil)))))))
          (pss_cons (ps_set (i := 9) sc_law.nd rfl (Or.inr rfl) (pe_lst pa_nil))
          (pss_cons (ps_for PassesOwn.never rfl (pi_list (pv 4)) (pg_name (i := 7) sc_law.nd rfl (Or.inr rfl))
          (pss_one (ps_set (i := 9) sc_law.nd rfl (Or.inr rfl) (pe_op op_cat (pv 9) (pe_call G_lends (hr.mono (by decide)) rfl D_lends.g D_lends.F.kp b_lends .nil pass0 (pa_cons (pv 7) pa_nil))))))
          (pss_cons (ps_set (i := 10) sc_law.nd rfl (Or.inl rfl) (pe_callTy (call_dictP rfl) (by rfl) T.dict_ (by decide +kernel) (pa_cons (pe_lc (own := [("end", 16)]) (g := gName 16) (tt := tYes) rfl sc_law.nd (pi_list (pv 9)) (blkOk_by (N := N_law) (sc := defScope s_law) (by decide +kernel)) (fun _ _ _ _ _ => pg_name (i := 16) sc_law.nd rfl (Or.inl rfl)) (fun _ _ _ _ _ => pts_nil) (fun _ _ _ _ _ => (pe_tup (pa_cons (pv 16) (pa_cons (pe_op op_add pe_int (show PE _ _ (tBM K "list" (rCntS K) (tVar 9) (tCons (tVar 16) tNil)) from (pe_bm PySem.F.plainAttrs_list PySem.F.slot_list_count PySem.F.type_list_count (show MtR _ "list.count" (rCntS K) from mt_countS) (pv 9) (pa_cons (pv 16) pa_nil)))) pa_nil))))) pa_nil)))
          (pss_one (ps_for PassesOwn.never rfl (pi_range1 rfl T.range (pa_cons pe_int pa_nil)) (pg_name (i := 11) sc_law.nd rfl (Or.inl rfl))
          (pss_cons (ps_par (i := 12) (j := 13) rfl sc_law.nd rfl rfl (by decide) rfl rfl (pa_cons (pe_call G_seq (hr.mono (by decide)) rfl D_seq.g D_seq.F.kp b_seq .nil pass0 (pa_cons (pv 4) pa_nil)) (pa_cons (pe_call G_places (hr.mono (by decide)) rfl D_places.g D_places.F.kp b_places .nil pass0 (pa_cons (pv 4) pa_nil)) pa_nil)) (by rfl))
            (pss_cons (ps_set (i := 14) sc_law.nd rfl (Or.inl rfl) (pe_call G_stretches (hr.mono (by decide)) rfl D_stretches.g D_stretches.F.kp b_stretches .nil pass0 (pa_cons (pv 4) pa_nil)))
            (pss_cons (ps_if (PW.pt (pw_or (pt_cmpR op_ne (pe_callB (call_reprX hg hu64) (by rfl) T.repr (by decide +kernel) (pa_cons (pe_lst (pa_cons (pv 12) (pa_cons (pv 13) pa_nil))) pa_nil)) (pe_callB (call_reprX hg hu64) (by rfl) T.repr (by decide +kernel) (pa_cons (pe_lst (pa_cons (pv 6) (pa_cons (pe_callB (call_sortTx rfl) (by rfl) T.sorted PyProof.Rows.boot_sorted (pa_cons (pe_callTy (call_setTx rfl) (by rfl) T.set_ (by decide +kernel) (pa_cons (pv 9) pa_nil)) pa_nil)) pa_nil))) pa_nil)) (nomark _)) (pw_or1 (pt_cmpR op_ne (pe_callB (call_reprX hg hu64) (by rfl) T.repr (by decide +kernel) (pa_cons (pv 4) pa_nil)) (pv 5) (nomark _))))) (pss_one (ps_ret pe_bl)) pss_nil)
            (pss_cons (ps_if (PW.pt (pw_or (pt_not (pt_val (pe_callB call_isi (by rfl) T.isinstance PyProof.Rows.boot_isinstance (pa_cons (pv 14) (pa_cons (pe_bltn (v := .ty "dict") (by rfl) T.dict_ (by decide +kernel) rfl) pa_nil))))) (pw_or1 (pt_cmpR (op_ne_dictA hu0) (pv 14) (pv 10) (nomark _))))) (pss_one (ps_ret pe_bl)) pss_nil)
            (pss_cons (ps_expr (pe_bm PySem.F.plainAttrs_list PySem.F.slot_list_append PySem.F.type_list_append mt_append (pv 12) (pa_cons pe_non pa_nil)))
            (pss_cons (ps_expr (pe_bm PySem.F.plainAttrs_list PySem.F.slot_list_append PySem.F.type_list_append mt_append (pv 13) (pa_cons pe_str pa_nil)))
            (pss_one (ps_expr (pe_dclear (pv 14))))))))))))))))))))))
      (pss_one (ps_ret (pe_cmpR (op_eqV hu64) (pe_lst (pa_cons (pe_call G_seq (hr.mono (by decide)) rfl D_seq.g D_seq.F.kp b_seq .nil pass0 (pa_cons (pe_lst pa_nil) pa_nil)) (pa_cons (pe_call G_places (hr.mono (by decide)) rfl D_places.g D_places.F.kp b_places .nil pass0 (pa_cons (pe_lst pa_nil) pa_nil)) (pa_cons (pe_call G_stretches (hr.mono (by decide)) rfl D_stretches.g D_stretches.F.kp b_stretches .nil pass0 (pa_cons (pe_lst pa_nil) pa_nil)) pa_nil)))) (pe_lst (pa_cons (pe_lst pa_nil) (pa_cons (pe_lst pa_nil) (pa_cons pe_dnewK pa_nil)))) (nomark _))))), ?_⟩
    refine ⟨_, rfl, a, _, rfl, .inl hS, _, _, rfl, _, _, rfl, _, rfl, ?_, ?_, ?_⟩
    · rw [List.length_map]; split <;> split <;> omega
    · rw [List.length_map]; split <;> split <;> omega
    refine for_range (lo := 0) (fun i σ H' => (∃ v1 v2 v3 v4 v5 v6 v7 v8 v9 v10 v11 v12 v13 v14 v15 v16 : Option V, σ = [some (.ref a), v1, v2, v3, v4, v5, v6, v7, v8, v9, v10, v11, v12, v13, v14, v15, v16]) ∧ SqL K H' a (ns.map V.int))
      ⟨⟨none, none, none, none, none, none, none, none, none, none, none, none, none, none, none, none, rfl⟩, hS⟩ ?_ (fun σ H' hq => ?_)
    · rintro i σ H1 hi ⟨⟨v1, v2, v3, v4, v5, v6, v7, v8, v9, v10, v11, v12, v13, v14, v15, v16, rfl⟩, S1⟩
      have hi6 : i ≤ 100 := by
        rw [List.length_map] at hi
        revert hi
        split <;> split <;> omega
      refine ⟨_, rfl, _, rfl, a, i, ns, by rw [Int.zero_add]; rfl, S1, hi6, hbits, fun u H2 hu0 s2 U2 => ?_⟩
      refine ⟨_, rfl, (by show (-(2 ^ 62) : Int) ≤ 5; decide), (by show (5 : Int) < 2 ^ 62; decide), ?_⟩
      refine for_range (lo := 0) (fun j σ H' => ∃ v3 v4 v5 v6 v7 v8 v9 v10 v11 v12 v13 v14 v15 v16 : Option V, σ = [some (.ref a), some (.int (0 + i)), some (.ref u), v3, v4, v5, v6, v7, v8, v9, v10, v11, v12, v13, v14, v15, v16] ∧ SqL K H' a (ns.map V.int) ∧ Urn H' u)
        ⟨_, _, _, _, _, _, _, _, _, _, _, _, _, _, rfl, s2.seq S1, U2⟩ (fun j σ H3 hj hq => ?_) (fun σ H' hq => ?_)
      rotate_left
      · obtain ⟨v3, v4, v5, v6, v7, v8, v9, v10, v11, v12, v13, v14, v15, v16, rfl, S3, U3⟩ := hq
        exact ⟨⟨_, _, _, _, _, _, _, _, _, _, _, _, _, _, _, _, rfl⟩, S3⟩
      obtain ⟨v3, v4, v5, v6, v7, v8, v9, v10, v11, v12, v13, v14, v15, v16, rfl, S3, U3⟩ := hq

      -- entries
      refine ⟨_, rfl, u, 10, rfl, U3, by decide, by decide, fun ea H4 xs hea U4 m4 e4 Ls => ?_⟩
      have S4 := m4.sqL U3 S3
      have RW := rows_of (K := K) Ls
      generalize ktH H4 = kt at *
      generalize evH H4 = ev at *
      generalize dmH H4 = dm at *
      have few := RW.few
      have sr : Same H4 H4 := Same.refl H4
      have shr : ShowsX (.list (xs.map dm)) := shows_rows (fun d hd => by obtain ⟨y, hy, rfl⟩ := List.mem_map.mp hd; exact (RW.dp sr y hy).2) (by rw [List.length_map]; omega)
      have le := ends_len (K := K) (H := H4) ev xs fun x hx => RW.ends sr x hx
      -- seen, due
      refine ⟨_, rfl, _, .list (xs.map dm), rfl, .of (.lst (.of e4) (dp_rows dm fun y hy => RW.dp sr y hy)), shr, (by show 0 ≤ sizeLine; decide), fun du hdu => ⟨_, _, rfl, ?_⟩⟩
      refine ⟨_, rfl, ea, rfl, ⟨xs, .of (same_new hdu _ _ e4)⟩, ?_⟩
      refine for_list (xs := xs) (fun i0 σ H' => (∃ v7 v8 : Option V, σ = [some (.ref a), some (.int (0 + i)), some (.ref u), some (.int (0 + j)), some (.ref ea), some (.str (PyData.list (xs.map dm)).shown), some (.ref du), v7, v8, v9, v10, v11, v12, v13, v14, v15, v16]) ∧ H' du = some (.lst (putAll kt (xs.take i0))) ∧ Same H4 H') ⟨⟨_, _, rfl⟩, upd_same, same_new hdu⟩ (fun i0 σ H' _ p' => .of (p'.2.2 _ _ e4)) (fun i0 x σ H' hx p' => ?_) (fun σ H5 p' => ?_)
      · obtain ⟨⟨v7, v8, rfl⟩, d', s'⟩ := p'
        have hx0 := List.mem_of_getElem? hx
        have tk : xs.take (i0 + 1) = xs.take i0 ++ [x] := by rw [List.take_add_one, hx]; rfl
        have ndi : ((xs.take i0).map kt).Nodup := RW.nd.sublist ((List.take_sublist _ _).map kt)
        obtain ⟨pw, pm⟩ := putAll_ok kt (xs.take i0) ndi
        have inx : ∀ y ∈ putAll kt (xs.take i0), y ∈ xs := fun y hy => List.mem_of_mem_take (pm.mem_iff.mp hy)
        have lenD : (putAll kt (xs.take i0)).length ≤ 12 := by rw [pm.length_eq, List.length_take]; omega
        have snoc := putAll_snoc kt (xs.take i0) x
        rw [← tk] at snoc
        generalize putAll kt (xs.take i0) = D at *
        -- ahead
        refine ⟨_, rfl, du, rfl, ⟨D, .of d'⟩, fun al hal => ?_⟩
        refine lc_list (xs := D) (fun j H2 => H2 al = some (.lst ((D.take j).filter (kB kt x))) ∧ Same H' H2) ⟨upd_same, same_new hal⟩ (fun j H2 _ q' => .of (q'.2 _ _ d')) (fun j y H2 hy q' => ?_) (fun H6 q' => ?_)
        · obtain ⟨f', t'⟩ := q'
          have hy0 := inx y (List.mem_of_getElem? hy)
          have td : D.take (j + 1) = D.take j ++ [y] := by rw [List.take_add_one, hy]; rfl
          have st := s'.trans t'
          obtain ⟨py, ys, ey, hys, y0, y1⟩ := RW.recA st y hy0
          obtain ⟨px, zs, ex, hzs, x0, x1⟩ := RW.recA st x hx0
          refine ⟨rfl, _, rfl, py, ys, _, _, ey, rfl, hys, atI_nat (j := 1) y1, _, rfl, py, ys, _, _, ey, rfl, hys, atI_nat (j := 0) y0, (by show 2 ≤ sizeLine; decide), fun t1 ht1 => ?_⟩
          have z1 := same_new (o := HO.tup [V.int (kt y).1, V.int (kt y).2]) ht1
          refine ⟨_, rfl, px, zs, _, _, ex, rfl, Same.seqT z1 hzs, atI_nat (j := 1) x1, _, rfl, px, zs, _, _, ex, rfl, Same.seqT z1 hzs, atI_nat (j := 0) x0, (by show 2 ≤ sizeLine; decide), fun t2 ht2 => ?_⟩
          have z2 := same_new (o := HO.tup [V.int (kt x).1, V.int (kt x).2]) ht2
          refine ⟨t1, t2, [(kt y).1, (kt y).2], [(kt x).1, (kt x).2], rfl, rfl, .of (z2 _ _ upd_same), .of upd_same, _, rfl, ?_⟩
          have lx : HT.lexLt [(kt y).1, (kt y).2] [(kt x).1, (kt x).2] = kB kt x y := by
            rw [lexLt_two]
            exact decide_eq_decide.mpr Iff.rfl
          rw [lx]
          have zz := z1.trans z2
          cases c : kB kt x y with
          | false =>
            refine iteF ⟨?_, t'.trans zz⟩
            rw [td, List.filter_append, List.filter_cons, c]
            show _ = some (HO.lst (_ ++ []))
            rw [List.append_nil]
            exact zz _ _ f'
          | true =>
            refine iteT ⟨_, rfl, _, zz _ _ f', ?_, ?_, same_out hal (t'.trans zz)⟩
            · exact Nat.lt_of_le_of_lt (Nat.le_trans (List.length_filter_le _ _) (Nat.le_trans (by rw [List.length_take]; exact Nat.min_le_right _ _) lenD)) (by decide)
            · rw [td, List.filter_append, List.filter_cons, c]
              exact upd_same
        · obtain ⟨f', t'⟩ := q'
          rw [List.take_length] at f'
          have lf : (D.filter (kB kt x)).length ≤ 12 := Nat.le_trans (List.length_filter_le _ _) lenD
          refine ⟨_, rfl, .inl ⟨rfl, _, .of (t' _ _ d')⟩, _, rfl, al, _, rfl, .inl (.of f'), _, rfl, du, D, _, x, rfl, rfl, t' _ _ d', Nat.lt_of_le_of_lt lenD (by decide), by omega, by omega, ?_⟩
          refine ⟨⟨_, _, rfl⟩, ?_, same_out hdu (s'.trans t')⟩
          rw [snoc]
          exact upd_same
      · obtain ⟨⟨v7, v8, rfl⟩, d5, s5⟩ := p'
        rw [List.take_length, putAll_sorted kt xs RW.nd] at d5
        -- ends
        refine ⟨(by show 0 ≤ sizeLine; decide), fun e0 he0 => ?_⟩
        have s6 := same_new (o := HO.lst []) he0
        refine ⟨_, rfl, ea, rfl, ⟨xs, .of (s6 _ _ (s5 _ _ e4))⟩, ?_⟩
        refine for_list (xs := xs) (fun i0 σ H' => (∃ (v7 : Option V) (en : Addr), σ = [some (.ref a), some (.int (0 + i)), some (.ref u), some (.int (0 + j)), some (.ref ea), some (.str (PyData.list (xs.map dm)).shown), some (.ref du), v7, v8, some (.ref en), v10, v11, v12, v13, v14, v15, v16] ∧ H' en = some (.lst ((ends ev (xs.take i0)).map V.str))) ∧ Same H5 H') ⟨⟨_, e0, rfl, upd_same⟩, s6⟩ (fun i0 σ H' _ p' => .of (p'.2 _ _ (s5 _ _ e4))) (fun i0 x σ H' hx p' => ?_) (fun σ H7 p' => ?_)
        · obtain ⟨⟨v7, en, rfl, een⟩, s'⟩ := p'
          have hx0 := List.mem_of_getElem? hx
          have tk : xs.take (i0 + 1) = xs.take i0 ++ [x] := by rw [List.take_add_one, hx]; rfl
          have l1 := ends_len (K := K) (H := H4) ev (xs.take i0) fun y hy => RW.ends sr y (List.mem_of_mem_take hy)
          have l2 := (RW.ends sr x hx0).few
          have l3 : (outs (ev x)).length ≤ (ev x).length := List.length_filter_le _ _
          have l4 : (xs.take i0).length ≤ 12 := by rw [List.length_take]; omega
          refine ⟨_, rfl, _, rfl, x, ev x, rfl, RW.ends (s5.trans s') x hx0, fun q H6 hq s6 e6 => ⟨en, q, _, _, rfl, rfl, s6 _ _ een, e6, ?_, fun p hp => ?_⟩⟩
          · rw [List.length_map, List.length_map]
            exact Nat.le_trans (show _ ≤ 100 by omega) (by decide)
          · refine ⟨⟨_, p, rfl, ?_⟩, (s'.trans s6).trans (same_new hp)⟩
            rw [tk, ends_snoc, List.map_append]
            exact upd_same
        · obtain ⟨⟨v7, en, rfl, een⟩, s7⟩ := p'
          rw [List.take_length] at een
          have pls : ∀ z ∈ ends ev xs, z ∈ places := fun z hz => by
            obtain ⟨x, hx, hz⟩ := List.mem_flatMap.mp hz
            exact RW.pl x hx z hz
          have le72 : (ends ev xs).length ≤ 72 := by omega
          generalize hEs : ends ev xs = Es at *
          -- many
          refine ⟨_, rfl, en, rfl, ⟨_, .of een⟩, fun L hL => ?_⟩
          refine lc_list (xs := Es.map V.str) (fun j H' => ∃ ps : List Addr, H' L = some (.lst (ps.map V.ref)) ∧ ps.length = j ∧ Paired (fun p (kv : Key × V) => H' p = some (.tup [kV kv.1, kv.2])) ps (tab (Es.take j) fun z => 1 + occ Es z) ∧ Same H7 H')
            ⟨[], upd_same, rfl, .nil, same_new hL⟩ (fun j H' _ ⟨_, _, _, _, s⟩ => .of (s _ _ een)) (fun j y H' hy ⟨ps, g1, g2, g3, g4⟩ => ?_) (fun H8 ⟨ps, g1, g2, g3, g4⟩ => ?_)
          · rw [List.getElem?_map] at hy
            cases ez : Es[j]? with
            | none => rw [ez] at hy; cases hy
            | some z =>
              rw [ez] at hy
              cases hy
              have tz : Es.take (j + 1) = Es.take j ++ [z] := by rw [List.take_add_one, ez]; rfl
              have hj : j < Es.length := (List.getElem?_eq_some_iff.mp ez).1
              refine ⟨rfl, _, rfl, _, rfl, .inl ⟨rfl, _, .of (g4 _ _ een)⟩, _, rfl, en, Es, z, rfl, rfl, .of (g4 _ _ een), _, _, rfl, rfl, (by show 2 ≤ sizeLine; decide), fun t ht => ?_⟩
              have z1 := same_new (o := HO.tup [V.str z, V.int (1 + occ Es z)]) ht
              have nt : t ≠ L := (ne_of_none g1 ht).symm
              refine ⟨ps.map V.ref, z1 _ _ g1, ?_, ps ++ [t], ?_, ?_, ?_, same_out hL (g4.trans z1)⟩
              · rw [List.length_map, g2]
                exact Nat.lt_trans (show j < 100 by omega) (by decide)
              · rw [List.map_append]
                exact upd_same
              · rw [List.length_append, g2]
                rfl
              · rw [tz]
                have e : tab (Es.take j ++ [z]) (fun z => 1 + occ Es z) = tab (Es.take j) (fun z => 1 + occ Es z) ++ [((Sum.inr z : Key), V.int (1 + occ Es z))] := by unfold tab; rw [List.map_append]; rfl
                rw [e]
                refine (paired_imp (fun p kv hp => ?_) g3).snoc ?_
                · rw [upd_ne (fun q => by subst q; rw [g1] at hp; cases hp)]
                  exact z1 _ _ hp
                · rw [upd_ne nt]
                  exact upd_same
          · rw [List.length_map, List.take_length] at g3
            refine ⟨L, ps, _, rfl, .of g1, paired_imp (fun p kv hp => .of hp) g3, fun m hm => ?_⟩
            rw [merge_tab]
            obtain ⟨kn, km⟩ := keysOf_ok Es
            have em : upd H8 m (.dK (tab (keysOf Es) fun z => 1 + occ Es z)) m = some (.dK (tab (keysOf Es) fun z => 1 + occ Es z)) := upd_same
            have s9 := g4.trans (same_new (o := HO.dK (tab (keysOf Es) fun z => 1 + occ Es z)) hm)
            generalize upd H8 m (.dK (tab (keysOf Es) fun z => 1 + occ Es z)) = H9 at *
            have s49 := (s5.trans s7).trans s9
            -- twice
            refine ⟨_, rfl, (by show (-(2 ^ 62) : Int) ≤ 2; decide), (by show (2 : Int) < 2 ^ 62; decide), ?_⟩
            refine for_range (lo := 0) (fun i0 σ H' => (∃ v11 v12 v13 v14 : Option V, σ = [some (.ref a), some (.int (0 + i)), some (.ref u), some (.int (0 + j)), some (.ref ea), some (.str (PyData.list (xs.map dm)).shown), some (.ref du), v7, v8, some (.ref en), some (.ref m), v11, v12, v13, v14, v15, v16]) ∧ Same H9 H') ⟨⟨_, _, _, _, rfl⟩, Same.refl _⟩ ?_ (fun σ H' p' => ?_)
            · rintro i0 σ Ha hi0 ⟨⟨v11, v12, v13, v14, rfl⟩, sa⟩
              have s4a := s49.trans sa
              have I2 : (inSeq kt xs).Perm xs := List.mergeSort_perm _ _
              refine ⟨_, rfl, ea, xs, kt, rfl, .of (s4a _ _ e4), by omega, RW.recA s4a, fun q1 hq1 => ?_⟩
              have y1 := same_new (o := HO.lst (inSeq kt xs)) hq1
              refine ⟨_, rfl, ea, xs, ev, rfl, .of (y1 _ _ (s4a _ _ e4)), by omega, RW.ends (s4a.trans y1), fun ks q2 Hb can kl hq2 sb eb => ⟨_, _, rfl, ?_⟩⟩
              refine ⟨_, rfl, ea, xs, ev, rfl, .of (sb _ _ (y1 _ _ (s4a _ _ e4))), by omega, RW.ends ((s4a.trans y1).trans sb), fun ks2 q3 Hc can2 kl2 hq3 sc ec => ?_⟩
              have ek := canon_one can2 can
              subst ek
              rw [hEs] at can kl ec
              have e1 := sc _ _ (sb _ _ (upd_same (H := Ha) (a := q1) (o := HO.lst (inSeq kt xs))))
              have e2 := sc _ _ eb
              have sac := (y1.trans sb).trans sc
              have s4c := s4a.trans sac
              have n1 : H9 q1 = none := same_free sa hq1
              have n2 : H9 q2 = none := same_free (sa.trans y1) hq2
              have n3 : H9 q3 = none := same_free ((sa.trans y1).trans sb) hq3
              have n12 : q1 ≠ q2 := ne_of_none upd_same hq2
              have n13 : q1 ≠ q3 := ne_of_none (sb _ _ upd_same) hq3
              have n23 : q2 ≠ q3 := ne_of_none eb hq3
              have fks : ∀ z ∈ ks2, Flat (.str z) := fun z hz => flat_place (pls z ((can.2.2 z).mp hz))
              have dI : ∀ {H'' : Hp}, Same Hc H'' → ∀ y ∈ inSeq kt xs, Dp K H'' y (dm y) ∧ Rowy (dm y) := fun s y hy => RW.dp (s4c.trans s) y (I2.mem_iff.mp hy)
              have shI : ShowsX (.list [.list ((inSeq kt xs).map dm), .list ((ks2.map V.str).map toD)]) := shows_two (fun d hd => by obtain ⟨y, hy, rfl⟩ := List.mem_map.mp hd; exact (dI (Same.refl Hc) y hy).2) (by rw [List.length_map, I2.length_eq]; omega) fks (by omega)
              have fS : ∀ x ∈ ks2.map V.str, Flat x := fun x hx => by
                obtain ⟨z, hz, rfl⟩ := List.mem_map.mp hx
                exact fks z hz
              -- repr([found, told]) != repr([due, sorted(set(ends))])
              refine ⟨_, rfl, _, rfl, (by show 2 ≤ sizeLine; decide), fun r1 hr1 => ?_⟩
              have c1 := same_new (o := HO.lst [V.ref q1, V.ref q2]) hr1
              refine ⟨_, _, rfl, .of (.lst (.of upd_same) (.cons (.lst (.of (c1 _ _ e1)) (dp_rows dm (dI c1))) (.cons (.lst (.of (c1 _ _ e2)) (dpAll_flat fS)) .nil))), shI, ?_⟩
              have s9c := sa.trans sac
              have enc := s9c _ _ (s9 _ _ een)
              have duc := s9c _ _ (s9 _ _ (s7 _ _ d5))
              refine ⟨_, rfl, _, rfl, en, Es, rfl, .of (c1 _ _ enc), show _ < 4096 by omega, fun sp hsp => ⟨sp, gath Es, rfl, upd_same, Nat.lt_of_le_of_lt (gath_len Es) (show _ < 4096 by omega), fun ks3 p3 pm so nd hp3 => ?_⟩⟩
              have can3 : Canon ks3 Es := ⟨so, pm.nodup_iff.mpr nd, fun z => pm.mem_iff.trans (gath_mem Es z)⟩
              have ek3 := canon_one can3 can
              subst ek3
              have c2 := same_new (o := TxO P w sp (gath Es)) hsp
              have c3 := same_new (o := HO.lst (ks3.map V.str)) hp3
              have c23 := (c1.trans c2).trans c3
              refine ⟨(by show 2 ≤ sizeLine; decide), fun r2 hr2 => ?_⟩
              have c4 := same_new (o := HO.lst [V.ref du, V.ref p3]) hr2
              have c5 := c23.trans c4
              refine ⟨_, _, rfl, .of (.lst (.of upd_same) (.cons (.lst (.of (c5 _ _ duc)) (dp_rows dm (dI c5))) (.cons (.lst (.of (c4 _ _ upd_same)) (dpAll_flat fS)) .nil))), shI, ?_⟩
              refine ⟨rfl, _, rfl, iteNS rfl ?_⟩
              -- or repr(entries) != seen
              refine ⟨_, rfl, _, .list (xs.map dm), rfl, .of (.lst (.of (c5 _ _ (s4c _ _ e4))) (dp_rows dm fun y hy => RW.dp (s4c.trans c5) y hy)), shr, ?_⟩
              refine ⟨_, rfl, rfl, _, rfl, iteNS rfl ?_⟩
              -- dues
              have e3 := c5 _ _ ec
              have emc := c5 _ _ (s9c _ _ em)
              refine ⟨_, rfl, _, _, _, _, _, rfl, .ty "dict", .base (.dK e3), kit_ty (r := true) (by decide +kernel), _, rfl, ?_⟩
              refine iteF ?_
              have pk : ks3.Perm (keysOf Es) := (List.perm_ext_iff_of_nodup can.2.1 kn).mpr fun z => (can.2.2 z).trans (km z).symm
              refine ⟨_, rfl, _, rfl, q3, m, _, _, rfl, rfl, e3, emc, ?_, fun e he => ?_, ?_⟩
              · unfold tab
                rw [List.length_map, List.length_map, pk.length_eq]
              · obtain ⟨z, hz, rfl⟩ := List.mem_map.mp he
                have ob := occ_bd Es z
                exact ⟨tab_val ((km z).mpr ((can.2.2 z).mp hz)), rfl⟩
              refine ⟨_, rfl, iteF ?_⟩
              have f1 := c5 _ _ e1
              have f2 := c5 _ _ e2
              have lI : (inSeq kt xs).length < sizeLine := by
                rw [I2.length_eq]
                exact Nat.lt_of_le_of_lt few (by decide)
              have lK : (ks3.map V.str).length < sizeLine := by
                rw [List.length_map]
                exact Nat.lt_of_le_of_lt (show _ ≤ 72 by omega) (by decide)
              refine ⟨_, rfl, .inl ⟨rfl, _, .of f1⟩, q1, _, _, rfl, rfl, f1, lI, ?_⟩
              refine ⟨_, rfl, .inl ⟨rfl, _, .of ((upd_ne n12.symm).trans f2)⟩, q2, _, _, rfl, rfl, (upd_ne n12.symm).trans f2, lK, ?_⟩
              refine ⟨_, rfl, .inr (.inr (.inl ⟨rfl, .inl ⟨_, (upd_ne n23.symm).trans ((upd_ne n13.symm).trans e3)⟩⟩)), q3, _, rfl, rfl, (upd_ne n23.symm).trans ((upd_ne n13.symm).trans e3), ?_⟩
              exact ⟨⟨_, _, _, _, rfl⟩, same_out n3 (same_out n2 (same_out n1 (s9c.trans c5)))⟩
            · obtain ⟨⟨v11, v12, v13, v14, rfl⟩, sa⟩ := p'
              have se := s49.trans sa
              exact ⟨_, _, _, _, _, _, _, _, _, _, _, _, _, _, rfl, se.seq S4, U4.same se⟩
    · skip
      obtain ⟨⟨v1, v2, v3, v4, v5, v6, v7, v8, v9, v10, v11, v12, v13, v14, v15, v16, rfl⟩, _⟩ := hq
      refine ⟨(by show 0 ≤ sizeLine; decide), fun n1 hn1 => ⟨n1, [], fun _ => (0, 0), rfl, .of upd_same, by decide, (fun _ h => nomatch h), fun q1 hq1 => ?_⟩⟩
      refine ⟨(by show 0 ≤ sizeLine; decide), fun n2 hn2 => ⟨n2, [], fun _ => [], rfl, .of upd_same, by decide, (fun _ h => nomatch h), fun ks q2 Ha can kl hq2 sa ea => ?_⟩⟩
      refine ⟨(by show 0 ≤ sizeLine; decide), fun n3 hn3 => ⟨n3, [], fun _ => [], rfl, .of upd_same, by decide, (fun _ h => nomatch h), fun ks2 q3 Hb can2 kl2 hq3 sb eb => ?_⟩⟩
      have k1 : ks = [] := List.length_eq_zero_iff.mp (Nat.le_zero.mp kl)
      have k2 : ks2 = [] := List.length_eq_zero_iff.mp (Nat.le_zero.mp kl2)
      subst k1
      subst k2
      have d1 := same_new (o := HO.lst []) hn2
      have d2 := same_new (o := HO.lst []) hn3
      have g1 := sb _ _ (d2 _ _ (sa _ _ (d1 _ _ (upd_same (H := upd H' n1 (.lst [])) (a := q1) (o := HO.lst (inSeq (fun _ => (0, 0)) []))))))
      have g2 := sb _ _ (d2 _ _ ea)
      refine ⟨(by show 3 ≤ sizeLine; decide), fun r1 hr1 => ⟨(by show 0 ≤ sizeLine; decide), fun w1 hw1 => ⟨(by show 0 ≤ sizeLine; decide), fun w2 hw2 => fun w3 hw3 => ⟨(by show 3 ≤ sizeLine; decide), fun r2 hr2 => ?_⟩⟩⟩⟩
      have t1 := same_new (o := HO.lst [V.ref q1, V.ref q2, V.ref q3]) hr1
      have t2 := same_new (o := HO.lst []) hw1
      have t3 := same_new (o := HO.lst []) hw2
      have t4 := same_new (o := HO.dK []) hw3
      have t5 := same_new (o := HO.lst [V.ref w1, V.ref w2, V.ref w3]) hr2
      have tt := (((t1.trans t2).trans t3).trans t4).trans t5
      have i0 : inSeq (fun _ => (0, 0)) [] = [] := by
        unfold inSeq
        simp
      rw [i0] at g1
      refine ⟨2, by decide, .inl ⟨r1, r2, [.ref q1, .ref q2, .ref q3], [.ref w1, .ref w2, .ref w3], rfl, rfl, .of (t5 _ _ (t4 _ _ (t3 _ _ (t2 _ _ upd_same)))), .of upd_same, .cons ?_ (.cons ?_ (.cons ?_ .nil))⟩, k _⟩
      · exact .inr (.inr (.inl ⟨q1, w1, [], [], rfl, rfl, .of (tt _ _ g1), .of (t5 _ _ (t4 _ _ (t3 _ _ upd_same))), .nil⟩))
      · exact .inr (.inr (.inl ⟨q2, w2, [], [], rfl, rfl, .of (tt _ _ g2), .of (t5 _ _ (t4 _ _ upd_same)), .nil⟩))
      · exact .inr (.inr (.inr ⟨q3, w3, [], [], rfl, rfl, tt _ _ eb, t5 _ _ upd_same, rfl, fun _ h => nomatch h⟩))
end
end Sk

set_option Elab.async false
set_option maxRecDepth 100000
set_option maxHeartbeats 4000000
namespace Sk
open PySem L2 PyProof.Rows
/-! ### what the top has written; the row -/
theorem all_mk {P : Program} {w : World} {K : PySem.W.Frag} {h : Heap} {mg : Str → Option Value} {fa f0 f1 f2 f3 f4 f5 f6 f7 f8 f9 f10 f11 f12 : Addr} (X : K.In h) (G : h.Ns mainGlobals mg) (hfa : mg "law" = some (.ref fa))
    {od0 an0 : Option Addr} {sl0 : Array (Option Value)} {oc0 kV0 dc0 pm0 cd0 ct0 : Value}
    {od1 an1 : Option Addr} {sl1 : Array (Option Value)} {oc1 kV1 dc1 pm1 cd1 ct1 : Value}
    {od2 an2 : Option Addr} {sl2 : Array (Option Value)} {oc2 kV2 dc2 pm2 cd2 ct2 : Value}
    {od3 an3 : Option Addr} {sl3 : Array (Option Value)} {oc3 kV3 dc3 pm3 cd3 ct3 : Value}
    {od4 an4 : Option Addr} {sl4 : Array (Option Value)} {oc4 kV4 dc4 pm4 cd4 ct4 : Value}
    {od5 an5 : Option Addr} {sl5 : Array (Option Value)} {oc5 kV5 dc5 pm5 cd5 ct5 : Value}
    {od6 an6 : Option Addr} {sl6 : Array (Option Value)} {oc6 kV6 dc6 pm6 cd6 ct6 : Value}
    {od7 an7 : Option Addr} {sl7 : Array (Option Value)} {oc7 kV7 dc7 pm7 cd7 ct7 : Value}
    {od8 an8 : Option Addr} {sl8 : Array (Option Value)} {oc8 kV8 dc8 pm8 cd8 ct8 : Value}
    {od9 an9 : Option Addr} {sl9 : Array (Option Value)} {oc9 kV9 dc9 pm9 cd9 ct9 : Value}
    {od10 an10 : Option Addr} {sl10 : Array (Option Value)} {oc10 kV10 dc10 pm10 cd10 ct10 : Value}
    {od11 an11 : Option Addr} {sl11 : Array (Option Value)} {oc11 kV11 dc11 pm11 cd11 ct11 : Value}
    {od12 an12 : Option Addr} {sl12 : Array (Option Value)} {oc12 kV12 dc12 pm12 cd12 ct12 : Value}
    {ck0 : Tok}
    (a0 : PySem.W.nsIn K mainGlobals "_law_urn" = some (some (.ref f0)))
    (l0 : K.lookup f0 = some ⟨oc0, od0, .func (PySem.W.fnOf "_law_urn" "_law_urn" (defArgs s_urn) (defBody s_urn) (defScope s_urn) .none kV0 dc0 pm0 an0 cd0 ct0), sl0⟩)
    (c0 : PySem.W.codeIn K cd0 "_law_urn" = true)
    (k0 : PySem.W.keepIn K (.ref f0) = true)
    (a1 : PySem.W.nsIn K mainGlobals "_law_draw" = some (some (.ref f1)))
    (l1 : K.lookup f1 = some ⟨oc1, od1, .func (PySem.W.fnOf "_law_draw" "_law_draw" (defArgs s_draw) (defBody s_draw) (defScope s_draw) .none kV1 dc1 pm1 an1 cd1 ct1), sl1⟩)
    (c1 : PySem.W.codeIn K cd1 "_law_draw" = true)
    (k1 : PySem.W.keepIn K (.ref f1) = true)
    (a2 : PySem.W.nsIn K mainGlobals "_law_choose" = some (some (.ref f2)))
    (l2 : K.lookup f2 = some ⟨oc2, od2, .func (PySem.W.fnOf "_law_choose" "_law_choose" (defArgs s_choose) (defBody s_choose) (defScope s_choose) .none kV2 dc2 pm2 an2 cd2 ct2), sl2⟩)
    (c2 : PySem.W.codeIn K cd2 "_law_choose" = true)
    (k2 : PySem.W.keepIn K (.ref f2) = true)
    (a3 : PySem.W.nsIn K mainGlobals "_law_mark" = some (some (.ref f3)))
    (l3 : K.lookup f3 = some ⟨oc3, od3, .func (PySem.W.fnOf "_law_mark" "_law_mark" (defArgs s_mark) (defBody s_mark) (defScope s_mark) .none kV3 dc3 pm3 an3 cd3 ct3), sl3⟩)
    (c3 : PySem.W.codeIn K cd3 "_law_mark" = true)
    (k3 : PySem.W.keepIn K (.ref f3) = true)
    (a4 : PySem.W.nsIn K mainGlobals "_law_entry" = some (some (.ref f4)))
    (l4 : K.lookup f4 = some ⟨oc4, od4, .func (PySem.W.fnOf "_law_entry" "_law_entry" (defArgs s_entry) (defBody s_entry) (defScope s_entry) .none kV4 dc4 pm4 an4 cd4 ct4), sl4⟩)
    (c4 : PySem.W.codeIn K cd4 "_law_entry" = true)
    (k4 : PySem.W.keepIn K (.ref f4) = true)
    (a5 : PySem.W.nsIn K mainGlobals "_law_entries" = some (some (.ref f5)))
    (l5 : K.lookup f5 = some ⟨oc5, od5, .func (PySem.W.fnOf "_law_entries" "_law_entries" (defArgs s_entries) (defBody s_entries) (defScope s_entries) .none kV5 dc5 pm5 an5 cd5 ct5), sl5⟩)
    (c5 : PySem.W.codeIn K cd5 "_law_entries" = true)
    (k5 : PySem.W.keepIn K (.ref f5) = true)
    (a6 : PySem.W.nsIn K mainGlobals "_law_ends" = some (some (.ref f6)))
    (l6 : K.lookup f6 = some ⟨oc6, od6, .func (PySem.W.fnOf "_law_ends" "_law_ends" (defArgs s_lends) (defBody s_lends) (defScope s_lends) .none kV6 dc6 pm6 an6 cd6 ct6), sl6⟩)
    (c6 : PySem.W.codeIn K cd6 "_law_ends" = true)
    (k6 : PySem.W.keepIn K (.ref f6) = true)
    (a7 : PySem.W.nsIn K mainGlobals "places_in" = some (some (.ref f7)))
    (l7 : K.lookup f7 = some ⟨oc7, od7, .func (PySem.W.fnOf "places_in" "places_in" (defArgs s_in) (defBody s_in) (defScope s_in) .none kV7 dc7 pm7 an7 cd7 ct7), sl7⟩)
    (c7 : PySem.W.codeIn K cd7 "places_in" = true)
    (k7 : PySem.W.keepIn K (.ref f7) = true)
    (a8 : PySem.W.nsIn K mainGlobals "_time_and_id" = some (some (.ref f8)))
    (l8 : K.lookup f8 = some ⟨oc8, od8, .func (PySem.W.fnOf "_time_and_id" "_time_and_id" (defArgs s_key) (defBody s_key) (defScope s_key) .none kV8 dc8 pm8 an8 cd8 ct8), sl8⟩)
    (c8 : PySem.W.codeIn K cd8 "_time_and_id" = true)
    (k8 : PySem.W.keepIn K (.ref f8) = true)
    (a9 : PySem.W.nsIn K mainGlobals "in_sequence" = some (some (.ref f9)))
    (l9 : K.lookup f9 = some ⟨oc9, od9, .func (PySem.W.fnOf "in_sequence" "in_sequence" (defArgs s_seq) (defBody s_seq) (defScope s_seq) .none kV9 dc9 pm9 an9 cd9 ct9), sl9⟩)
    (c9 : PySem.W.codeIn K cd9 "in_sequence" = true)
    (k9 : PySem.W.keepIn K (.ref f9) = true)
    (a10 : PySem.W.nsIn K mainGlobals "places_of" = some (some (.ref f10)))
    (l10 : K.lookup f10 = some ⟨oc10, od10, .func (PySem.W.fnOf "places_of" "places_of" (defArgs s_places) (defBody s_places) (defScope s_places) .none kV10 dc10 pm10 an10 cd10 ct10), sl10⟩)
    (c10 : PySem.W.codeIn K cd10 "places_of" = true)
    (k10 : PySem.W.keepIn K (.ref f10) = true)
    (a11 : PySem.W.nsIn K mainGlobals "stretches_of" = some (some (.ref f11)))
    (l11 : K.lookup f11 = some ⟨oc11, od11, .func (PySem.W.fnOf "stretches_of" "stretches_of" (defArgs s_stretches) (defBody s_stretches) (defScope s_stretches) .none kV11 dc11 pm11 an11 cd11 ct11), sl11⟩)
    (c11 : PySem.W.codeIn K cd11 "stretches_of" = true)
    (k11 : PySem.W.keepIn K (.ref f11) = true)
    (a12 : PySem.W.nsIn K mainGlobals "law" = some (some (.ref f12)))
    (l12 : K.lookup f12 = some ⟨oc12, od12, .func (PySem.W.fnOf "law" "law" (defArgs s_law) (defBody s_law) (defScope s_law) .none kV12 dc12 pm12 an12 cd12 ct12), sl12⟩)
    (c12 : PySem.W.codeIn K cd12 "law" = true)
    (k12 : PySem.W.keepIn K (.ref f12) = true)
    (z_len : PySem.W.nsIn K mainGlobals "len" = some none)
    (z_range : PySem.W.nsIn K mainGlobals "range" = some none)
    (z_max : PySem.W.nsIn K mainGlobals "max" = some none)
    (z_min : PySem.W.nsIn K mainGlobals "min" = some none)
    (z_repr : PySem.W.nsIn K mainGlobals "repr" = some none)
    (z_isinstance : PySem.W.nsIn K mainGlobals "isinstance" = some none)
    (z_sorted : PySem.W.nsIn K mainGlobals "sorted" = some none)
    (z_dict : PySem.W.nsIn K mainGlobals "dict" = some none)
    (z_set : PySem.W.nsIn K mainGlobals "set" = some none)
    (u0 : PySem.W.nsIn K mainGlobals "OUTSIDE" = some (some (.str "-" ck0)))
    : ∃ fd : FuncData, (∀ (s : Shared) (v : Value), BindsTo s fd ⟨[v], []⟩ [("script", v)]) ∧ ∀ base : Heap, K.In base → base.Ns mainGlobals mg → AtTop P w K mg base fa fd P_law (spLaw K) := by
  have e := hfa.symm.trans (PySem.W.mg_of X G a12)
  cases e
  have T : Bi mg := ⟨PySem.W.mg_none_of X G z_len, PySem.W.mg_none_of X G z_range, PySem.W.mg_none_of X G z_max, PySem.W.mg_none_of X G z_min, PySem.W.mg_none_of X G z_repr, PySem.W.mg_none_of X G z_isinstance, PySem.W.mg_none_of X G z_sorted, PySem.W.mg_none_of X G z_dict, PySem.W.mg_none_of X G z_set⟩
  have C : Cs mg := ⟨⟨_, PySem.W.mg_of X G u0⟩⟩
  have D0 : Df K mg "_law_urn" s_urn _ _ := ⟨fun_mk (st := s_urn) l0 c0 k0, PySem.W.mg_of X G a0⟩
  have D1 : Df K mg "_law_draw" s_draw _ _ := ⟨fun_mk (st := s_draw) l1 c1 k1, PySem.W.mg_of X G a1⟩
  have D2 : Df K mg "_law_choose" s_choose _ _ := ⟨fun_mk (st := s_choose) l2 c2 k2, PySem.W.mg_of X G a2⟩
  have D3 : Df K mg "_law_mark" s_mark _ _ := ⟨fun_mk (st := s_mark) l3 c3 k3, PySem.W.mg_of X G a3⟩
  have D4 : Df K mg "_law_entry" s_entry _ _ := ⟨fun_mk (st := s_entry) l4 c4 k4, PySem.W.mg_of X G a4⟩
  have D5 : Df K mg "_law_entries" s_entries _ _ := ⟨fun_mk (st := s_entries) l5 c5 k5, PySem.W.mg_of X G a5⟩
  have D6 : Df K mg "_law_ends" s_lends _ _ := ⟨fun_mk (st := s_lends) l6 c6 k6, PySem.W.mg_of X G a6⟩
  have D7 : Df K mg "places_in" s_in _ _ := ⟨fun_mk (st := s_in) l7 c7 k7, PySem.W.mg_of X G a7⟩
  have D8 : Df K mg "_time_and_id" s_key _ _ := ⟨fun_mk (st := s_key) l8 c8 k8, PySem.W.mg_of X G a8⟩
  have D9 : Df K mg "in_sequence" s_seq _ _ := ⟨fun_mk (st := s_seq) l9 c9 k9, PySem.W.mg_of X G a9⟩
  have D10 : Df K mg "places_of" s_places _ _ := ⟨fun_mk (st := s_places) l10 c10 k10, PySem.W.mg_of X G a10⟩
  have D11 : Df K mg "stretches_of" s_stretches _ _ := ⟨fun_mk (st := s_stretches) l11 c11 k11, PySem.W.mg_of X G a11⟩
  have D12 : Df K mg "law" s_law _ _ := ⟨fun_mk (st := s_law) l12 c12 k12, PySem.W.mg_of X G a12⟩
  exact ⟨PySem.W.fnOf "law" "law" (defArgs s_law) (defBody s_law) (defScope s_law) .none kV12 dc12 pm12 an12 cd12 ct12, fun s v => .of_eq rfl, fun base _ _ =>
    ok_law D12 D0 D1 D2 D3 D4 D5 D6 D7 D8 D9 D10 D11 T C⟩
end Sk

open PySem PySem.W PyProof.Rows in
set_option maxRecDepth 100000 in
set_option maxHeartbeats 0 in
theorem PySem.Challenge.cw_stockcounts_k02_sequences_and_stretches_holds : PySem.Challenge.rw_stockcounts_k02_sequences_and_stretches.Holds := by
  w_on; o_law; k_head; (case hw => w_witness2)
  k_fill
  refine Sk.top_walk (l := PySem.Challenge.rw_stockcounts_k02_sequences_and_stretches) (n := 63) (x := "script") (sp := Sk.spLaw) rfl (by decide) rfl (fun w h Y => PySem.W.kIn_of Y) ?F (fun K H a ns h1 h2 _ h4 => ⟨a, ns, rfl, h4, h1, h2, fun _ => rfl⟩)
  case F =>
    intro w mg fa h KX G hmg
    refine' Sk.all_mk KX G hmg ?a0 ?l0 ?c0 ?k0 ?a1 ?l1 ?c1 ?k1 ?a2 ?l2 ?c2 ?k2 ?a3 ?l3 ?c3 ?k3 ?a4 ?l4 ?c4 ?k4 ?a5 ?l5 ?c5 ?k5 ?a6 ?l6 ?c6 ?k6 ?a7 ?l7 ?c7 ?k7 ?a8 ?l8 ?c8 ?k8 ?a9 ?l9 ?c9 ?k9 ?a10 ?l10 ?c10 ?k10 ?a11 ?l11 ?c11 ?k11 ?a12 ?l12 ?c12 ?k12 ?z_len ?z_range ?z_max ?z_min ?z_repr ?z_isinstance ?z_sorted ?z_dict ?z_set ?u0
    (case a0 => k_is)
    (case l0 => k_is)
    (case c0 => k_is)
    (case k0 => k_is)
    (case a1 => k_is)
    (case l1 => k_is)
    (case c1 => k_is)
    (case k1 => k_is)
    (case a2 => k_is)
    (case l2 => k_is)
    (case c2 => k_is)
    (case k2 => k_is)
    (case a3 => k_is)
    (case l3 => k_is)
    (case c3 => k_is)
    (case k3 => k_is)
    (case a4 => k_is)
    (case l4 => k_is)
    (case c4 => k_is)
    (case k4 => k_is)
    (case a5 => k_is)
    (case l5 => k_is)
    (case c5 => k_is)
    (case k5 => k_is)
    (case a6 => k_is)
    (case l6 => k_is)
    (case c6 => k_is)
    (case k6 => k_is)
    (case a7 => k_is)
    (case l7 => k_is)
    (case c7 => k_is)
    (case k7 => k_is)
    (case a8 => k_is)
    (case l8 => k_is)
    (case c8 => k_is)
    (case k8 => k_is)
    (case a9 => k_is)
    (case l9 => k_is)
    (case c9 => k_is)
    (case k9 => k_is)
    (case a10 => k_is)
    (case l10 => k_is)
    (case c10 => k_is)
    (case k10 => k_is)
    (case a11 => k_is)
    (case l11 => k_is)
    (case c11 => k_is)
    (case k11 => k_is)
    (case a12 => k_is)
    (case l12 => k_is)
    (case c12 => k_is)
    (case k12 => k_is)
    (case z_len => k_is)
    (case z_range => k_is)
    (case z_max => k_is)
    (case z_min => k_is)
    (case z_repr => k_is)
    (case z_isinstance => k_is)
    (case z_sorted => k_is)
    (case z_dict => k_is)
    (case z_set => k_is)
    (case u0 => k_is)
