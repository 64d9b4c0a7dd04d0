import PyProof.Rows.All
import Wide.All
import OpenK.AllK
import Wide.FinOn
import HandS.ForMost
import HandS.Wide
import HandS.EndBits
import PyProof.ReprRoads
import PyProof.ReprLen
import HandS.Set
import HandS.SetTxt0
import HandS.SetBool
import PyProof.Rows.SortShellAny
import HandS.Strs
import HandS.IsInst
import HandS.SortKw
import KE.SortKeyHeap
import HandS.DictComp
import HandS.Star
import PySem.Challenge.RW_stockcounts_k05_records_by_name
set_option Elab.async false
set_option maxRecDepth 100000
set_option maxHeartbeats 4000000
namespace Sk
open PySem L2 PyProof.Rows

/-! ### operators on ints of any size; repr of data -/
section
variable {X : Cx}
def CMulX (i j : Int) : Prop := IntMulOk i j
theorem op_mulX : OpR X (binaryOp .Mult) (rI CMulX fun i j => .int (i * j)) :=
  opI fun _ _ _ _ _ _ _ hc q => mul_int q hc
def CPowX (i j : Int) : Prop := 0 ≤ j ∧ (Builtin.Int.intBits i : Int) * j ≤ 2 ^ 27
theorem op_powX : OpR X (binaryOp .Pow) (rI CPowX fun i j => .int (i ^ j.toNat)) :=
  opI fun _ _ _ _ _ _ _ hc q => pow_int hc.1 hc.2 q
/-- data that repr shows: short leaves, no dict -/
structure Shows (d : PyData) : Prop where
  short : d.leavesShort 13 = true
  sh : d.showable = true
  nd : d.hasDict = false
  dp : d.depth ≤ 60
  wt : d.weight ≤ 2 ^ 20
def rRepr (K : PySem.W.Frag) : List V → Hp → VK → Prop := fun xs H Q =>
  ∃ a d, xs = [.ref a] ∧ Dp K H (.ref a) d ∧ Shows d ∧ Q (.str d.shown) H
theorem call_repr (hg : X.A.guards = some []) (hu : X.A.units + 64 < cLine) : CallR X (.builtin "repr") (rRepr X.K) := by
  intro pins s σ H xs us Q I r h
  obtain ⟨a, d, rfl, hd, S, q⟩ := h
  cases r with
  | cons r1 r2 =>
    cases r2
    obtain ⟨as, rd⟩ := Dp.reads I d _ _ hd r1
    cases r1
    have hdp := S.dp
    exact repr_of_reads' rd S.sh (fun z => by rw [S.nd] at z; cases z) hg (by omega) (fun _ _ e => e)
      (fun h' u tk hk => ⟨.str _, H, I.kept hk, ⟨u, rfl⟩, q⟩) (PyData.shown_fits (by decide) (by decide) S.short S.wt)
end

/-! ### the law's call where no guard is under way -/
section
variable {P : Program} {w : World} {K : PySem.W.Frag} {mg : Str → Option Value}
/-- what the law's def keeps when the claim calls it -/
def AtTop (P : Program) (w : World) (K : PySem.W.Frag) (mg : Str → Option Value) (base : Heap) (f : Addr) (fd : FuncData) (ps : List Str) (sp : Sp) : Prop :=
  ∀ (out : List Env) (s : Shared) (H : Hp) (as : Args) (us : List Value) (vs : List V) (Q : VK),
    Env0 P w K mg base callerA out s H → BindsTo s fd as (ps.zip us) → Vals vs us → sp vs H Q E0 →
    codeAny (model P w) callerA (.call (.ref f) as) (CR CX0 out P w H s Q E0) s
theorem atTop {base : Heap} {x qual : Str} {st : Stmt} {f : Addr} {fd : FuncData} {N ps : List Str} {k : Nat} {sp : Sp} (F : Fun K x qual st f fd)
    (S : FnScope N ps (defScope st)) (hr : Room (k + 1) callerA) (len : ∀ vs H Q E, sp vs H Q E → vs.length = ps.length)
    (hbody : ∀ (cv : Value) (A : Around) (out : List Env) (s : Shared) (H : Hp) (vs : List V) (Q : VK),
      Room k (A.deeper (envOfC qual (defScope st) s.heap.objs.size f cv)) → A.guards = some [] → sp vs H Q E0 →
      ∃ t, PSs (cxOf CX0 P w K mg base N qual (defScope st) f cv A out s H E0).nox (defBody st) t ∧
        t { nx := fun _ H' => Q .non H', rt := Q } (start N vs) H) :
    AtTop P w K mg base f fd ps sp := by
  obtain ⟨oc, od, kV, doc, pm, an, cv, ct, osl, rfl, lk, hcd⟩ := F.ex
  intro out s H as us vs Q e0 hb r hsp
  have n1 := len _ _ _ _ hsp
  have same := fun (b : Addr) (o : Obj) (e : base.get? b = some o) => (e0.bs b o e).1
  have KX : K.In s.heap := e0.mod.kin.keeps same
  have lim : s.heap.NoLimit := e0.mod.nolimit.keeps same
  refine codeAny_call_function hr.depth (KX _ _ lk) rfl S.co S.gen rfl (PySem.W.codeRec_of KX hcd)
    (hb _ _ _ _ ?_)
  refine wpAny_newFunctionEnv_cells S.kind (fun y hy => ?_) (fun env he s1 x1 => ?_)
  · obtain ⟨n, v⟩ := y
    rcases S.par n (List.of_mem_zip hy).1 with q | q
    · exact Or.inl q
    · exact Or.inr ⟨q, PySem.W.cellsFrom_some _ _ _ (Or.inl q)⟩
  · subst he
    refine ⟨lim.keeps x1.toInCall.keep, codeAny_func ?_⟩
    obtain ⟨t, ht, hq⟩ := hbody cv callerA out s H vs Q (hr.deeper _) rfl hsp
    have I := inv_start (CX := CX0) (E := E0) (mg := mg) (base := base) (K := K) S hr.hd e0 n1 r x1
    refine wpAny_mono (ht.nox.run [] s1 (start N vs) H _ I hq) (fun fl s' hs => ?_) (fun e s' hs => hs)
    cases fl with
    | ret u =>
      obtain ⟨v, σ2, H2, J, rv, q⟩ := hs
      exact ⟨v, H2, J.os, J.bare, J.base, J.hok, rv, q⟩
    | next =>
      obtain ⟨σ2, H2, J, q⟩ := hs
      exact ⟨V.non, H2, J.os, J.bare, J.base, J.hok, rfl, q⟩
    | brk => exact hs.choose_spec.choose_spec.2.elim
    | cont => exact hs.choose_spec.choose_spec.2.elim
/-- the row, from what the law's def keeps at the top -/
theorem top_call {mb : Str → Option Value} {fa a : Addr} {fd : FuncData} {x : Str} {sp : Sp} {s₁ : Shared} {vs : List Value} {ns : List Int}
    (KX : K.In s₁.heap) (hm : s₁.heap.Ns mainGlobals mg) (hb : s₁.heap.Ns builtinsNs mb) (hbb : ∀ x : Str, x ≠ "__name__" → mb x = bootBuiltins x)
    (hlim : s₁.heap.NoLimit) (hg : s₁.gens = #[]) (ha : s₁.heap.get? a = some { cls := .type "list", data := .seq vs.toArray }) (hi : IntsAre vs ns) (hl : ns.length ≤ sizeLine)
    (F : ∀ base : Heap, K.In base → base.Ns mainGlobals mg → AtTop P w K mg base fa fd [x] sp) (hbind : ∀ (s : Shared) (u : Value), BindsTo s fd ⟨[u], []⟩ [(x, u)])
    (hsp : ∀ H : Hp, Only H → SqL K H a (ns.map V.int) → sp [.ref a] H (fun v _ => v = .bl true) E0) :
    codeAny (model P w) callerA (.call (.ref fa) ⟨[.ref a], []⟩)
      (fun r s' => r = .ok (.ret (.bool true)) ∧ OldK s₁.heap s'.heap ∧ s'.os = s₁.os ∧ AllBare s'.gens) s₁ := by
  have rv := vals_ints hi
  have go : ∀ H : Hp, Only H → SqL K H a (ns.map V.int) → HOk P w H s₁.heap → (∀ b, H b ≠ none → b = a) → (H a ≠ none → K.lookup a = none) →
      codeAny (model P w) callerA (.call (.ref fa) ⟨[.ref a], []⟩)
        (fun r s' => r = .ok (.ret (.bool true)) ∧ OldK s₁.heap s'.heap ∧ s'.os = s₁.os ∧ AllBare s'.gens) s₁ := by
    intro H hO hS hok hA hK
    have at1 : ∀ {b : Addr}, b ≠ a → H b = none := fun {b} ne => by
      cases q : H b with
      | none => rfl
      | some u => exact absurd (hA b (by rw [q]; simp)) ne
    have dictOut : ∀ {b : Addr} {m : Str → Option Value}, s₁.heap.Ns b m → (hidT s₁.heap H).Ns b m := fun {b m} N => by
      obtain ⟨o, es, ep, e, d, r⟩ := N
      refine ⟨o, es, ep, hidT_get e (at1 fun q => ?_), d, r⟩
      subst q
      rw [ha] at e
      cases e
      exact (nomatch (show Data.seq vs.toArray _ = Data.dict es ep from d))
    have kin : K.In (hidT s₁.heap H) := fun b o e => hidT_get (KX b o e) (by
      cases q : H b with
      | none => rfl
      | some u =>
        have z : b = a := hA b (by rw [q]; simp)
        subst z
        rw [hK (by rw [q]; simp)] at e
        cases e)
    obtain ⟨mc, l1, l2⟩ := hlim
    have hM : Mod K mg (hidT s₁.heap H) := ⟨kin, dictOut hm, ⟨mb, dictOut hb, hbb⟩, ⟨mc, dictOut l1, l2⟩⟩
    have e0 : Env0 P w K mg (hidT s₁.heap H) callerA [] s₁ H :=
      ⟨rfl, hM, fun b o e => of_hidT e, Nat.le_of_eq (hidT_size _ _), trivial, fun b hb => (List.not_mem_nil (show b ∈ ([] : List Addr) from hb)).elim, hok, .of_eq hg⟩
    refine codeAny_mono (F _ kin (dictOut hm) [] s₁ H ⟨[.ref a], []⟩ [.ref a] [.ref a] _ e0 (hbind s₁ (.ref a)) (.cons rfl .nil) (hsp H hO hS)) (fun r s' h => ?_)
    match r, h with
    | .error e, h => exact h.elim
    | .ok .next, h => exact h.elim
    | .ok .brk, h => exact h.elim
    | .ok .cont, h => exact h.elim
    | .ok (.ret u), h =>
      obtain ⟨v, H2, os, bare, un, hok2, rl, q⟩ := h
      have q : v = .bl true := q
      subst q
      obtain rfl : u = Value.bool true := rl
      refine ⟨rfl, OldK.of_keep fun b o e => ?_, os, bare⟩
      rcases hO b with z | ⟨ob, xs, z⟩
      · exact un.keep b o e z (fun y => (List.not_mem_nil (show b ∈ ([] : List Addr) from y)).elim) (by simp)
      · obtain ⟨e1, _⟩ := hok b _ z
        obtain ⟨e2, _⟩ := hok2 b _ (un.frzs b ob _ z)
        rw [e] at e1
        cases e1
        exact e2
  cases hk : K.lookup a with
  | some o =>
    have e := KX a o hk
    rw [ha] at e
    cases e
    exact go (fun _ => none) (fun _ => Or.inl rfl) (Or.inr ⟨_, vs.toArray, _, hk, rfl, rfl, rfl, by rw [List.size_toArray, hi.length]; exact hl, by simpa using rv⟩)
      (fun b u z => nomatch (show (none : Option HO) = some u from z)) (fun b z => absurd rfl z) (fun z => absurd rfl z)
  | none =>
    let o : HO := .frz { cls := .type "list", data := .seq vs.toArray } (.lst (ns.map V.int))
    refine go (fun b => if b = a then some o else none) (fun b => ?_) (Or.inl (Or.inr ⟨_, if_pos rfl⟩)) (fun b u z => ?_) (fun b z => ?_) (fun _ => hk)
    · by_cases c : b = a
      · exact Or.inr ⟨_, _, if_pos c⟩
      · exact Or.inl (if_neg c)
    · by_cases c : b = a
      · have z2 := (if_pos c).symm.trans z
        cases z2
        subst c
        exact ⟨ha, by rw [List.length_map]; exact hl, vs, _, rv, ha⟩
      · exact nomatch (if_neg c).symm.trans z
    · by_cases c : b = a
      · exact c
      · exact absurd (if_neg c) z
end
theorem top_walk {l : PySem.W.OpenLaw} {n : Nat} {q : Program} {loose : List Str} {XP : (Str → Option Value) → Heap → Prop} {YP : World → Heap → Prop} {d : DefRec} {K : Params → PySem.W.Frag} {sp : PySem.W.Frag → Sp} {x : Str}
    (hn : l.most = some n) (hn2 : n ≤ sizeLine) (hdf : d.params.defaults = []) (hY : ∀ (w : World) (h : Heap), YP w h → (K w.params).In h)
    (F : ∀ (w : World) (mg : Str → Option Value) (fa : Addr) (h : Heap), (K w.params).In h → h.Ns mainGlobals mg → mg d.name = some (.ref fa) →
      ∃ fd : FuncData, (∀ (s : Shared) (u : Value), BindsTo s fd ⟨[u], []⟩ [(x, u)]) ∧
        ∀ base : Heap, (K w.params).In base → base.Ns mainGlobals mg → AtTop l.prog w (K w.params) mg base fa fd [x] (sp (K w.params)))
    (hsp : ∀ (K : PySem.W.Frag) (H : Hp) (a : Addr) (ns : List Int), ns.length ≤ n → (∀ z ∈ ns, Builtin.Int.intBits z ≤ 1048576) → Only H → SqL K H a (ns.map V.int) → sp K [.ref a] H (fun v _ => v = .bl true) E0) :
    PySem.W.WalkO q loose XP YP l.row.toRowW d [] (fun f vs => PySem.call f vs) := by
  refine Att.attach_callB hn hdf (fun w s₀ s₁ mg mb fa o pm cd doc a vs ns G Y _ _ _ hmg hobj hints hlen hbits hg => ?_)
  have KX := hY w _ Y
  obtain ⟨fd, hb, hF⟩ := F w mg fa _ KX G.T.g hmg
  exact top_call KX G.T.g G.T.b G.T.builtins G.T.nolimit hg hobj hints (Nat.le_trans hlen hn2) hF hb
    (fun H hO hS => hsp _ H a ns hlen hbits hO hS)
end Sk

set_option Elab.async false
set_option maxRecDepth 100000
set_option maxHeartbeats 4000000
namespace Sk
open PySem L2 PyProof.Rows
/-! ### heaps: all stands but the urn -/
def Mo (u : Addr) (H H' : Hp) : Prop := ∀ b o, b ≠ u → H b = some o → H' b = some o
theorem Mo.refl (u : Addr) (H : Hp) : Mo u H H := fun _ _ _ h => h
theorem Mo.trans {u : Addr} {H H1 H2 : Hp} (a : Mo u H H1) (b : Mo u H1 H2) : Mo u H H2 := fun c o n h => b c o n (a c o n h)
theorem Mo.new {u p : Addr} {H : Hp} {o : HO} (h : H p = none) : Mo u H (upd H p o) := fun b q _ e => by
  rw [upd_ne (ne_of_none e h)]
  exact e
theorem Mo.at {u : Addr} {H : Hp} {o : HO} : Mo u H (upd H u o) := fun b q n e => by
  rw [upd_ne n]
  exact e
theorem Mo.add {u p : Addr} {H H1 : Hp} {o : HO} (a : Mo u H H1) (h : H1 p = none) : Mo u H (upd H1 p o) := a.trans (.new h)
theorem Mo.same {u : Addr} {H H1 : Hp} (a : Mo u H H1) (h : Same H1 H) : True := trivial
theorem Same.mo {u : Addr} {H H1 : Hp} (a : Same H H1) : Mo u H H1 := fun b o _ e => a b o e
def urnO (dg mx : Int) : HO := .dK [(Sum.inr "digits", .int dg), (Sum.inr "mixed", .int mx)]
def Urn (H : Hp) (u : Addr) : Prop := ∃ dg mx : Int, H u = some (urnO dg mx) ∧ 0 ≤ dg ∧ 0 ≤ mx ∧ mx < 2 ^ 32
theorem Urn.new {H : Hp} {u p : Addr} {o : HO} (U : Urn H u) (h : H p = none) : Urn (upd H p o) u := by
  obtain ⟨dg, mx, e, r⟩ := U
  exact ⟨dg, mx, by rw [upd_ne (ne_of_none e h)]; exact e, r⟩
theorem Urn.ne {H : Hp} {u p : Addr} {o : HO} (U : Urn H u) (h : H p = some o) (hk : ∀ kvs, o ≠ .dK kvs) : p ≠ u := fun q => by
  obtain ⟨dg, mx, e, r⟩ := U
  subst q
  rw [h] at e
  exact hk _ (Option.some.inj e)
theorem Urn.neL {H : Hp} {u p : Addr} {xs : List V} (U : Urn H u) (h : H p = some (.lst xs)) : p ≠ u := U.ne h (fun _ z => by cases z)
theorem Urn.neT {H : Hp} {u p : Addr} {xs : List V} (U : Urn H u) (h : H p = some (.tup xs)) : p ≠ u := U.ne h (fun _ z => by cases z)
theorem Urn.lst {H H' : Hp} {u p : Addr} {xs : List V} (U : Urn H u) (m : Mo u H H') (h : H p = some (.lst xs)) : H' p = some (.lst xs) := m _ _ (U.neL h) h
theorem Urn.tup {H H' : Hp} {u p : Addr} {xs : List V} (U : Urn H u) (m : Mo u H H') (h : H p = some (.tup xs)) : H' p = some (.tup xs) := m _ _ (U.neT h) h
theorem Mo.sqL {K : PySem.W.Frag} {u a : Addr} {xs : List V} {H H' : Hp} (m : Mo u H H') (U : Urn H u) (h : SqL K H a xs) : SqL K H' a xs := by
  have ne : ∀ o, H a = some o → (∀ kvs, o ≠ .dK kvs) → a ≠ u := fun o e k => U.ne e k
  rcases h with (h | ⟨o, h⟩) | h
  · exact .inl (.inl (m _ _ (ne _ h (fun _ z => by cases z)) h))
  · exact .inl (.inr ⟨o, m _ _ (ne _ h (fun _ z => by cases z)) h⟩)
  · exact .inr h

/-! ### what the drawing defs keep -/
def spDraw : Sp := fun vs H Q _ => ∃ (u : Addr) (n : Int), vs = [.ref u, .int n] ∧ Urn H u ∧ 1 ≤ n ∧ n < 536870912 ∧
  ∀ (r : Int) (H' : Hp), 0 ≤ r → r < n → Urn H' u → Mo u H H' → Q (.int r) H'
def spChoose : Sp := fun vs H Q _ => ∃ (u l : Addr) (xs : List V), vs = [.ref u, .ref l] ∧ Urn H u ∧ H l = some (.lst xs) ∧ 1 ≤ xs.length ∧ xs.length ≤ 1000 ∧
  ∀ (x : V) (H' : Hp), x ∈ xs → Urn H' u → Mo u H H' → Q x H'
def spUrn (K : PySem.W.Frag) : Sp := fun vs H Q _ => ∃ (a : Addr) (st : Nat) (ns : List Int), vs = [.ref a, .int (st : Int)] ∧ SqL K H a (ns.map V.int) ∧ st ≤ 100 ∧
  (∀ z ∈ ns, Builtin.Int.intBits z ≤ 1048576) ∧ ∀ (u : Addr) (H' : Hp), H u = none → Same H H' → Urn H' u → Q (.ref u) H'

/-! ### flat data -/
def toD : V → PyData
  | .int i => .int i
  | .str z => .str z
  | .bl b => .bool b
  | _ => .none
def flatB : V → Bool
  | .int i => decide (i.natAbs < 1000000000000)
  | .str z => decide (z.cps.size ≤ 20) && z.cps.toList.all (fun c => decide (c < 1000))
  | .bl _ | .non => true
  | _ => false
abbrev Flat (v : V) : Prop := flatB v = true
theorem dp_flat {K : PySem.W.Frag} {H : Hp} : ∀ {v : V}, Flat v → Dp K H v (toD v)
  | .int i, _ => .int i
  | .str z, _ => .str z
  | .bl b, _ => .bl b
  | .non, _ => .non
  | .ref _, h => by cases h
  | .ty _, h => by cases h
  | .byt _, h => by cases h
  | .flt _, h => by cases h
theorem dpAll_flat {K : PySem.W.Frag} {H : Hp} : ∀ {xs : List V}, (∀ x ∈ xs, Flat x) → DpAll K H xs (xs.map toD)
  | [], _ => .nil
  | x :: xs, h => .cons (dp_flat (h x List.mem_cons_self)) (dpAll_flat fun y hy => h y (List.mem_cons_of_mem _ hy))
theorem log_le {n : Nat} (h : n < 1000000000000) : n.log2 < 40 := by
  by_cases z : n = 0
  · subst z; decide
  · exact (Nat.log2_lt z).mpr (Nat.lt_of_lt_of_le h (by decide))
theorem flat_leaf : ∀ {v : V}, Flat v → (toD v).leavesShort 13 = true ∧ (toD v).showable = true ∧ (toD v).hasDict = false ∧ (toD v).depth = 0 ∧ (toD v).weight ≤ 40
  | .int i, h => by
    have h' : i.natAbs < 1000000000000 := of_decide_eq_true h
    have hl := log_le h'
    refine ⟨?_, ?_, rfl, rfl, ?_⟩
    · show PyData.leavesShort 13 (.int i) = true
      simp only [PyData.leavesShort, decide_eq_true_eq]
      exact PyData.shown_int_le h'
    · show PyData.showable (.int i) = true
      simp only [PyData.showable, decide_eq_true_eq]
      omega
    · show PyData.weight (.int i) ≤ 40
      simp only [PyData.weight]
      split <;> omega
  | .str z, h => by
    have h' : z.cps.size ≤ 20 ∧ ∀ c ∈ z.cps.toList, c < 1000 := by
      have h0 : (decide (z.cps.size ≤ 20) && z.cps.toList.all (fun c => decide (c < 1000))) = true := h
      simp only [Bool.and_eq_true, List.all_eq_true, decide_eq_true_eq] at h0
      exact h0
    refine ⟨?_, ?_, rfl, rfl, ?_⟩
    · show PyData.leavesShort 13 (.str z) = true
      simp only [PyData.leavesShort, List.all_eq_true, decide_eq_true_eq]
      intro c hc
      have := h'.2 c hc
      have e : (16 : Nat) ^ 8 = 4294967296 := by decide
      omega
    · show PyData.showable (.str z) = true
      simp only [PyData.showable]
    · show PyData.weight (.str z) ≤ 40
      simp only [PyData.weight]
      omega
  | .bl b, _ => ⟨by show PyData.leavesShort 13 (.bool b) = true; simp only [PyData.leavesShort], by show PyData.showable (.bool b) = true; simp only [PyData.showable], rfl, rfl, by show PyData.weight (.bool b) ≤ 40; simp only [PyData.weight]; omega⟩
  | .non, _ => ⟨by show PyData.leavesShort 13 .none = true; simp only [PyData.leavesShort], by show PyData.showable .none = true; simp only [PyData.showable], rfl, rfl, by show PyData.weight .none ≤ 40; simp only [PyData.weight]; omega⟩
  | .ref _, h => by cases h
  | .ty _, h => by cases h
  | .byt _, h => by cases h
  | .flt _, h => by cases h
theorem flat_all : ∀ {xs : List V}, (∀ x ∈ xs, Flat x) → PyData.leavesShortAll 13 (xs.map toD) = true ∧ PyData.showableAll (xs.map toD) = true ∧ PyData.hasDictAll (xs.map toD) = false ∧ PyData.depthAll (xs.map toD) = 0 ∧ PyData.weightAll (xs.map toD) ≤ 41 * xs.length
  | [], _ => ⟨by simp only [List.map_nil, PyData.leavesShortAll], by simp only [List.map_nil, PyData.showableAll], rfl, rfl, by simp only [List.map_nil, PyData.weightAll]; omega⟩
  | x :: xs, h => by
    obtain ⟨a1, a2, a3, a4, a5⟩ := flat_leaf (h x List.mem_cons_self)
    obtain ⟨b1, b2, b3, b4, b5⟩ := flat_all (xs := xs) fun y hy => h y (List.mem_cons_of_mem _ hy)
    refine ⟨?_, ?_, ?_, ?_, ?_⟩
    · simp only [List.map_cons, PyData.leavesShortAll, a1, b1, Bool.and_self]
    · simp only [List.map_cons, PyData.showableAll, a2, b2, Bool.and_self]
    · simp only [List.map_cons, PyData.hasDictAll, a3, b3, Bool.or_self]
    · simp only [List.map_cons, PyData.depthAll, a4, b4, Nat.max_self]
    · simp only [List.map_cons, PyData.weightAll, List.length_cons]
      omega
theorem shows_lst {xs : List V} (h : ∀ x ∈ xs, Flat x) (hl : xs.length ≤ 1000) : Shows (.list (xs.map toD)) := by
  obtain ⟨b1, b2, b3, b4, b5⟩ := flat_all h
  exact ⟨by simp only [PyData.leavesShort]; exact b1, by simp only [PyData.showable]; exact b2, by simp only [PyData.hasDict]; exact b3, by simp only [PyData.depth]; omega, by simp only [PyData.weight]; omega⟩
theorem shows_tup {xs : List V} (h : ∀ x ∈ xs, Flat x) (hl : xs.length ≤ 1000) : Shows (.tuple (xs.map toD)) := by
  obtain ⟨b1, b2, b3, b4, b5⟩ := flat_all h
  exact ⟨by simp only [PyData.leavesShort]; exact b1, by simp only [PyData.showable]; exact b2, by simp only [PyData.hasDict]; exact b3, by simp only [PyData.depth]; omega, by simp only [PyData.weight]; omega⟩
/-- repr of a list, of a tuple of flat things -/
theorem repr_l {K : PySem.W.Frag} {H : Hp} {Q : VK} {a : Addr} {xs : List V} (hs : H a = some (.lst xs)) (h : ∀ x ∈ xs, Flat x) (hl : xs.length ≤ 1000)
    (q : Q (.str (PyData.list (xs.map toD)).shown) H) : rRepr K [.ref a] H Q := ⟨a, _, rfl, .lst (.of hs) (dpAll_flat h), shows_lst h hl, q⟩
theorem repr_t {K : PySem.W.Frag} {H : Hp} {Q : VK} {a : Addr} {xs : List V} (hs : H a = some (.tup xs)) (h : ∀ x ∈ xs, Flat x) (hl : xs.length ≤ 1000)
    (q : Q (.str (PyData.tuple (xs.map toD)).shown) H) : rRepr K [.ref a] H Q := ⟨a, _, rfl, .tup (.of hs) (dpAll_flat h), shows_tup h hl, q⟩
theorem intBits_lt {i : Int} {n : Nat} (h : i.natAbs < 2 ^ n) : Builtin.Int.intBits i ≤ n := by
  unfold Builtin.Int.intBits
  split
  · omega
  · rename_i z
    have z' : i.natAbs ≠ 0 := by
      intro q
      apply z
      have : i = 0 := by omega
      simp [this]
    have := (Nat.log2_lt z').mpr h
    omega
end Sk

set_option Elab.async false
set_option maxRecDepth 100000
set_option maxHeartbeats 4000000
namespace Sk
open PySem L2 PyProof.Rows PySem.Froz
/-! ### a set of texts: its members as a list without repetition -/
def keyTx (e : Int × Value) : Str := strOf e.2
structure TxAt (P : Program) (w : World) (D : SD) (l : List Str) : Prop where
  ok : TxOk P w D l
  perm : (D.1.toList.map keyTx).Perm l
  str : ∀ e ∈ D.1.toList, ∃ k t, e.2 = Value.str k t
  nd : l.Nodup
  ris : Ris D.2.2.place.toList
  led : w.params.followText "set-order" = true ∨ D.2.2.led = true
def TxIn (P : Program) (w : World) (h : Heap) (a : Addr) (l : List Str) : Prop := ∃ D : SD, h.get? a = some (sObj "set" D) ∧ TxAt P w D l
theorem TxIn.at {P : Program} {w : World} {h h' : Heap} {a : Addr} {l : List Str} (R : TxIn P w h a l) (k : ∀ o, h.get? a = some o → h'.get? a = some o) : TxIn P w h' a l := by
  obtain ⟨D, e, r⟩ := R
  exact ⟨D, k _ e, r⟩
section
variable {P : Program} {w : World}
theorem tailTx_all (ep : Nat) (es : Array (Int × Value)) (t : SetTable) (wd : Bool) (r : Ris t.place.toList) :
    (tailTx ep es t wd).1.toList.Perm es.toList ∧ Ris (tailTx ep es t wd).2.2.place.toList ∧ (tailTx ep es t wd).2.2.led = t.led := by
  unfold tailTx
  by_cases c : (!wd && t.tooFull) = true
  · rw [if_pos c]
    exact ⟨relayAll_perm _ _ _, relayAll_ris _ _ _, relayAll_led _ _ _⟩
  · rw [if_neg c]
    exact ⟨.refl _, r, rfl⟩
theorem addTx_all (x : Int) (v : Value) (D : SD) (r : Ris D.2.2.place.toList) :
    (addTx x v D).1.toList.Perm (D.1.toList ++ [(x, v)]) ∧ Ris (addTx x v D).2.2.place.toList ∧ (addTx x v D).2.2.led = D.2.2.led := by
  have p := layNew_perm D.2.2 D.1 x v
  rw [Array.toList_push] at p
  have q := layNew_ris D.2.2 D.1 x v r
  have z := layNew_led D.2.2 D.1 x v
  unfold addTx
  by_cases c : (layNew D.2.2 D.1 x v).2.1.plain = true
  · rw [if_pos c]
    obtain ⟨t1, t2, t3⟩ := tailTx_all D.2.1 (layNew D.2.2 D.1 x v).1 { (layNew D.2.2 D.1 x v).2.1 with plain := false } (layNew D.2.2 D.1 x v).2.2.1 q
    exact ⟨t1.trans p, t2, t3.trans z⟩
  · rw [if_neg c]
    obtain ⟨t1, t2, t3⟩ := tailTx_all D.2.1 (layNew D.2.2 D.1 x v).1 (layNew D.2.2 D.1 x v).2.1 (layNew D.2.2 D.1 x v).2.2.1 q
    exact ⟨t1.trans p, t2, t3.trans z⟩
theorem TxAt.new {D : SD} {l : List Str} {k : Str} (u : Tok) (R : TxAt P w D l) (hk : k ∉ l) : TxAt P w (addTx (hashStr w k) (.str k u) D) (k :: l) := by
  obtain ⟨p, r2, l2⟩ := addTx_all (hashStr w k) (.str k u) D R.ris
  refine ⟨add_ok u R.ok, ?_, fun e he => ?_, List.nodup_cons.mpr ⟨hk, R.nd⟩, r2, ?_⟩
  · have q := p.map keyTx
    rw [List.map_append] at q
    exact (q.trans List.perm_append_comm).trans (R.perm.cons k)
  · rcases List.mem_append.mp (p.mem_iff.mp he) with z | z
    · exact R.str e z
    · rw [List.mem_singleton.mp z]
      exact ⟨k, u, rfl⟩
  · rw [l2]
    exact R.led
/-- the members with one more -/
def plus (k : Str) (l : List Str) : List Str := if k ∈ l then l else k :: l
theorem mem_plus {k x : Str} {l : List Str} : x ∈ plus k l ↔ x = k ∨ x ∈ l := by
  unfold plus
  split
  · rename_i h
    exact ⟨Or.inr, fun q => q.elim (fun e => e ▸ h) id⟩
  · exact List.mem_cons
variable {A : Around} {E : Value → Shared → Prop} {s : Shared} {a : Addr} {l : List Str}
theorem tx_add {k : Str} {u : Tok} {Q : Value → Shared → Prop} (R : TxIn P w s.heap a l) (room : l.length + 1 < scanBound)
    (hQ : ∀ h', (∀ b o, b ≠ a → s.heap.get? b = some o → h'.get? b = some o) → TxIn P w h' a (plus k l) → Q .none { s with heap := h', toks := s.toks + 1 }) :
    wpAny (model P w) A (call (.builtin "set.add") [.ref a, .str k u]) Q E s := by
  obtain ⟨⟨es, ep, t⟩, ho, R⟩ := R
  have key : (strKind P w).is k (.str k u) = true := is_str k u
  have ty : s.TypeIs (.ref a) "set" := ⟨_, ho, rfl⟩
  refine wpAny_call_entry F.slot_set_add ty F.entry_set_add ?_ (F.args_set_add_2 _ _)
  unfold Builtin.«set.add» Builtin.Frozenset.oneOther Builtin.Frozenset.addrOf setAdd
  simp only [List.isEmpty_nil, bind_assoc]
  refine wpAny_bind (wpAny_pure ?_); try dsimp only
  refine wpAny_bind (wpAny_pure ?_); try dsimp only
  refine wpAny_bind (wpAny_holding (wpAny_bind ((strKind P w).pyHash key ?_)))
  by_cases hk : k ∈ l
  · -- it is there
    have el : ElemsOf (strKind P w) es.toList := R.ok.el
    have fit : t.fits es.size = true := R.ok.fit
    have sz : es.size < scanBound := by
      have := R.ok.sz
      dsimp only at this
      omega
    have hd : (sObj "set" (es, ep, t)).data = .set es ep t := rfl
    obtain ⟨e, he, hq⟩ := (R.ok.mem k).mp hk
    unfold setAddHashed setAddHashedIn
    refine wpAny_holding (wpAny_bind (wpAny_setState_of (s := { s with toks := s.toks + 1 }) ho hd fit ?_))
    dsimp only
    rw [byScan_of rfl sz el]
    simp only [↓reduceIte]
    unfold setAddByScan
    refine wpAny_bind (wpAny_bind (wpAny_rule (wpAny_bind (wpAny_setScan_of (knd := strKind P w) (k := k) key ho hd fit el ?_))))
    cases c : List.findIdx? (fun e => (strKind P w).is k e.2) es.toList with
    | none =>
      have z := List.findIdx?_eq_none_iff.mp c e he
      rw [hq] at z
      cases z
    | some j =>
      dsimp only
      have q := hQ s.heap (fun _ _ _ e => e) (by unfold plus; rw [if_pos hk]; exact ⟨_, ho, R⟩)
      first
        | exact wpAny_pure (wpAny_pure (wpAny_pure ⟨_, rfl, q⟩))
        | (refine wpAny_pure (wpAny_pure ?_); show wpAny _ _ (ret Value.none) _ _ _; exact wpAny_pure ⟨_, rfl, q⟩)
  · refine add_x (s := { s with toks := s.toks + 1 }) ho R.ok hk room ?_
    show wpAny _ _ (ret Value.none) _ _ _
    refine wpAny_pure ⟨_, rfl, hQ _ (fun b o n e => ?_) ⟨_, get_upd _ ho rfl, by unfold plus; rw [if_neg hk]; exact R.new u hk⟩⟩
    rw [Heap.get?_update_other _ _ (Ne.symm n)]
    exact e
theorem strs_of : ∀ (vs : List Value), (∀ v ∈ vs, ∃ k t, v = Value.str k t) → StrsAre vs (vs.map strOf)
  | [], _ => .nil
  | v :: vs, h => by
    obtain ⟨k, t, rfl⟩ := h v List.mem_cons_self
    exact .cons k t (strs_of vs fun x hx => h x (List.mem_cons_of_mem _ hx))
/-- sorted of such a set -/
theorem tx_sorted {Q : Value → Shared → Prop} (R : TxIn P w s.heap a l) (hh : A.handled = none) (hl : l.length < scanBound)
    (hQ : ∀ (s' : Shared) (p : Addr) (out : Array Value) (c : Nat) (ks : List Str), (∀ b o, s.heap.get? b = some o → s'.heap.get? b = some o) → s'.gens = s.gens → s'.os = s.os → s.heap.objs.size ≤ p →
      s'.heap.get? p = some (seqObj "list" out c) → StrsAre out.toList ks → ks.Perm l → sortedS ks = true → Q (.ref p) s') :
    wpAny (model P w) A (call (.builtin "sorted") [.ref a]) Q E s := by
  obtain ⟨⟨es, ep, t⟩, ho, R⟩ := R
  have sz0 : es.size = l.length := R.ok.sz
  have sz : es.size < scanBound := by omega
  have hA : SetAt s.heap a es ep t := ⟨_, ho, rfl, rfl⟩
  refine Calls.call_function_entry kind_sorted plain_sorted entry_sorted (args_sorted1 _) ?_
  unfold Builtin.«sorted»
  refine wpAny_bind (m := checkCount "sorted" 1 1 _) (wpAny_pure (wpAny_bind (collect_set (A := A.in1) hh hA R.ok.fit sz R.ris R.led fun s1 vs k1 hz g1 o1 pm => ?_)))
  have hv : ∀ v ∈ vs, ∃ k t, v = Value.str k t := fun v m => by
    obtain ⟨e, he, q⟩ := List.mem_map.mp (pm.mem_iff.mp m)
    obtain ⟨k, t, h1⟩ := R.str e he
    exact ⟨k, t, by rw [← q]; exact h1⟩
  have hS := strs_of vs hv
  have hlen : vs.length ≤ sizeLine := by
    rw [pm.length_eq, List.length_map, Array.length_toList]
    exact fits_of_scanBound sz
  have pl : (vs.map strOf).Perm l := by
    have q := pm.map strOf
    rw [List.map_map] at q
    exact q.trans R.perm
  refine wpAny_bind (wpAny_newList ?_ hlen)
  have hL : (s1.heap.push (seqObj "list" vs.toArray 0)).get? s1.heap.objs.size = some (seqObj "list" vs.toArray 0) := Heap.get?_push_size _ rfl
  refine wpAny_bind (wpAny_holding (wpAny_call_entry slot_list_sort ⟨_, hL, rfl⟩ entry_list_sort
    (list_sort_treeKAny strKind_oneLt hL hS.keysOf (fun v₁ v₂ rest e => keyKind_strs (by rw [← e]; exact hS)) hlen fun st' a1 a2 => ⟨_, rfl, ?_⟩) (args_list_sort _)))
  obtain ⟨ks, b1, b2, b3⟩ := sorted_out_str hS a1 a2
  obtain ⟨c, hc⟩ := sortedHeap_at (vs := vs) (out := (arrOf st').map (·.2)) hL
  refine wpAny_pure ⟨_, rfl, hQ _ _ _ c ks (fun b u e => ?_) g1 o1 hz hc b1 (b2.trans pl) b3⟩
  have q := k1 b u e
  have lt := Heap.lt_size q
  show (sortedHeap (s1.heap.push (seqObj "list" vs.toArray 0)) s1.heap.objs.size vs _).get? b = some u
  rw [sortedHeap_old (Nat.ne_of_lt lt) (by rw [size_push']; exact Nat.lt_succ_of_lt lt)]
  exact Heap.get?_push_of_some _ q
end
end Sk

set_option Elab.async false
set_option maxRecDepth 100000
set_option maxHeartbeats 4000000
namespace Sk
open PySem PySem.Spec L2 PyProof.Rows
/-! ### what a set comprehension gathers -/
abbrev bareSet (w : World) : Obj := { cls := .type "set", dict := none, data := .set #[] 0 (.fresh 0 0 (!w.params.followText "set-order")) }
structure Coll (P : Program) (w : World) (τ : Type) where
  so : Addr → τ → HO
  z : τ
  can : V → τ → τ → Prop
  fresh : ∀ (H : Hp) (h : Heap), ObjOk P w H (h.push (bareSet w)) h.objs.size (so h.objs.size z)
  add : ∀ (X : Cx), X.prog = P → X.w = w → ∀ (pins : List (Addr × Obj)) (σ : L2.St) (H : Hp) (s : Shared) (D : Addr) (t t' : τ) (y : V) (v : Value) (Q E : Value → Shared → Prop),
    Inv X pins σ H s → H D = some (so D t) → RelV y v → can y t t' → (∀ s', Inv X pins σ (upd H D (so D t')) s' → Q Value.none s') →
    wpAny (model P w) X.A (call (.builtin "set.add") [.ref D, v]) Q E s
def TxO (P : Program) (w : World) (a : Addr) (l : List Str) : HO := .ext fun h => TxIn P w h a l
theorem txO_ok {P : Program} {w : World} {H : Hp} {h : Heap} {a : Addr} {l : List Str} (R : TxIn P w h a l) : ObjOk P w H h a (TxO P w a l) := by
  obtain ⟨D, e, r⟩ := id R
  exact ⟨R, ⟨_, e⟩, fun _ _ q k => TxIn.at q k⟩
theorem txIn_fresh {P : Program} {w : World} (h : Heap) : TxIn P w (h.push (bareSet w)) h.objs.size [] :=
  ⟨(#[], 0, .fresh 0 0 (!w.params.followText "set-order")), Heap.get?_push_size _ rfl, ⟨Froz.TxOk.nil (by rfl), .refl _, (fun e he => by simp at he), List.nodup_nil, List.Pairwise.nil, by
    cases c : w.params.followText "set-order" with
    | true => exact Or.inl rfl
    | false => exact Or.inr rfl⟩⟩
/-- texts -/
def texts (P : Program) (w : World) : Coll P w (List Str) where
  so := TxO P w
  z := []
  can := fun y l l' => ∃ k, y = .str k ∧ l.length + 1 < scanBound ∧ l' = plus k l
  fresh := fun _ h => txO_ok (txIn_fresh h)
  add := by
    rintro X rfl rfl pins σ H s D t t' y v Q E I hD r ⟨k, rfl, room, rfl⟩ hQ
    obtain ⟨u, rfl⟩ := r
    have R : TxIn X.prog X.w s.heap D t := (I.hok D _ hD).1
    refine tx_add R room fun h' hk new => hQ _ ?_
    refine I.write (e := D) (t' := s.toks + 1) (by rw [hD]; trivial) (.inl rfl) (fun b u hb hu => hk b u hb hu) ?_ (txO_ok new)
    obtain ⟨_, e, _⟩ := id new
    exact ⟨_, e⟩
/-- sorted(a set of texts) -/
def rSortTx (P : Program) (w : World) : List V → Hp → VK → Prop := fun vs H Q => ∃ (a : Addr) (l : List Str), vs = [V.ref a] ∧ H a = some (TxO P w a l) ∧ l.length < scanBound ∧
  ∀ (ks : List Str) (p : Addr), ks.Perm l → sortedS ks = true → l.Nodup → H p = none → Q (.ref p) (upd H p (.lst (ks.map V.str)))
theorem call_sortTx {X : Cx} (hc : X.calm = true) : CallR X (.builtin "sorted") (rSortTx X.prog X.w) := by
  rintro pins s σ H vs us Q I r ⟨a, l, rfl, ha, hl, q⟩
  have R : TxIn X.prog X.w s.heap a l := (I.hok a _ ha).1
  have nd : l.Nodup := by
    obtain ⟨_, _, z⟩ := id R
    exact z.nd
  rw [Vals.ref1 r]
  refine tx_sorted R (I.ok.hd hc) hl fun s2 p out c ks k g o hp hob hS hpm hso => ?_
  have hz : (ks.map V.str).length ≤ sizeLine := by
    rw [List.length_map, hpm.length_eq]
    exact fits_of_scanBound hl
  have n0 : H p = none := I.hok.fresh hp
  have e : s2 = { s with heap := s2.heap, gens := s2.gens, drawn := s2.drawn, toks := s2.toks } := by
    cases s2; cases s; cases o; rfl
  have J := I.call (ch := []) (H' := upd H p (.lst (ks.map V.str))) (h' := s2.heap) (g' := s2.gens) (d' := s2.drawn) (t' := s2.toks) (Un.laid k hp n0)
    (I.hok.laid k hp ⟨hz, out.toList, c, vals_of_strs hS, hob⟩) (by rw [g]; exact I.bare) (fun _ y => nomatch y)
  rw [e]
  exact ⟨.ref p, _, J, rfl, q ks p hpm hso nd n0⟩

/-! ### {elt for tg in iter}, {elt for tg in iter for tg1 in iter1} -/
section
variable {τ : Type}
def tSc1 {P : Program} {w : World} (C : Coll P w τ) (wi : TI) (g : TG) (te : TE) (vs : List Nat) : TE := fun σ H Q => wi σ H fun J H1 => ∀ D, H1 D = none →
  ∃ W : Nat → Nat → Hp → Prop, (∃ m, W 0 m (upd H1 D (C.so D C.z))) ∧ ∀ i m H, W i m H → (J.stop i H ∧ Q (.ref D) H) ∨
    (J.go i H ∧ ∃ Nx : Hp → Prop, (∀ H', Nx H' → ∃ m', m' < m ∧ W (i + 1) m' H') ∧ ∀ x H', J.yld i H x H' → g x (wipe σ vs) H' fun σ2 H2 => wipe σ2 vs = wipe σ vs ∧
      te σ2 H2 fun y H3 => ∃ t t', H3 D = some (C.so D t) ∧ C.can y t t' ∧ Nx (upd H3 D (C.so D t')))
def tSc2 {P : Program} {w : World} (C : Coll P w τ) (wi : TI) (g : TG) (wi1 : TI) (g1 : TG) (te : TE) (vs vs1 : List Nat) : TE := fun σ H Q => wi σ H fun J H1 => ∀ D, H1 D = none →
  ∃ W : Nat → Nat → Hp → Prop, (∃ m, W 0 m (upd H1 D (C.so D C.z))) ∧ ∀ i m H, W i m H → (J.stop i H ∧ Q (.ref D) H) ∨
    (J.go i H ∧ ∃ Nx : Hp → Prop, (∀ H', Nx H' → ∃ m', m' < m ∧ W (i + 1) m' H') ∧ ∀ x H', J.yld i H x H' → g x (wipe σ vs) H' fun σ2 H2 => wipe σ2 vs = wipe σ vs ∧
      wi1 σ2 H2 fun J1 H4 => ∃ W1 : Nat → Nat → Hp → Prop, (∃ m, W1 0 m H4) ∧ ∀ j k H, W1 j k H → (J1.stop j H ∧ Nx H) ∨
        (J1.go j H ∧ ∃ Nx1 : Hp → Prop, (∀ H', Nx1 H' → ∃ k', k' < k ∧ W1 (j + 1) k' H') ∧ ∀ x H', J1.yld j H x H' → g1 x (wipe σ2 vs1) H' fun σ3 H5 => wipe σ3 vs1 = wipe σ2 vs1 ∧
          te σ3 H5 fun y H6 => ∃ t t', H6 D = some (C.so D t) ∧ C.can y t t' ∧ Nx1 (upd H6 D (C.so D t'))))
end
section
variable {elt tg iter tg1 iter1 : Expr} {scope : Scope} {pos : Pos} {it acc : Value} {env : Env}
theorem turn_outer : compTurn (.SetComp elt [⟨tg, iter, [], 0⟩, ⟨tg1, iter1, [], 0⟩] scope pos) 0 it acc env = (do
    standAt iter.pos
    match ← pyNext it with
    | none => pure (.done .next)
    | some v =>
      letOwnedTupleGo tg it v
      assign tg env v
      let mut ok := true
      for c in ([] : List Expr) do
        if ok then ok ← isTrue c env (eval c env)
      if ok then
        let x ← eval iter1 env
        standAt iter1.pos
        let x ← foldedSetIterable iter1 env x
        let _ ← runOwn (.compStart (.SetComp elt [⟨tg, iter, [], 0⟩, ⟨tg1, iter1, [], 0⟩] scope pos) 1 (← holding [x] (pyIter x)) acc env) env
      again (.compLoop (.SetComp elt [⟨tg, iter, [], 0⟩, ⟨tg1, iter1, [], 0⟩] scope pos) 0 it acc env)) := by rfl
theorem turn_inner : compTurn (.SetComp elt [⟨tg, iter, [], 0⟩, ⟨tg1, iter1, [], 0⟩] scope pos) 1 it acc env = (do
    standAt iter1.pos
    match ← pyNext it with
    | none => pure (.done .next)
    | some v =>
      letOwnedTupleGo tg1 it v
      assign tg1 env v
      let mut ok := true
      for c in ([] : List Expr) do
        if ok then ok ← isTrue c env (eval c env)
      if ok then
        (do let v ← eval elt env; standAt elt.pos; let _ ← call (.builtin "set.add") [acc, v])
      again (.compLoop (.SetComp elt [⟨tg, iter, [], 0⟩, ⟨tg1, iter1, [], 0⟩] scope pos) 1 it acc env)) := by rfl
variable {prog : Program} {w : World} {A : Around} {R : Result → Shared → Prop} {s : Shared}
/-- nothing is raised: every wish of an error is False -/
theorem loop_outer (hs : ∀ x, foldedSetIterable iter1 env x = pure x) (M : Nat → Shared → Prop)
    (turn : ∀ n s, M n s → wpAny (model prog w) A (pyNext it) (fun r s1 => match r with
      | none => R (.ok .next) s1
      | some v => wpAny (model prog w) A (letOwnedTupleGo tg it v) (fun _ s2 => wpAny (model prog w) A (assign tg env v) (fun _ s3 =>
          wpAny (model prog w) A (eval iter1 env) (fun x s4 => wpAny (model prog w) A (pyIter x) (fun it1 s5 =>
            codeAny (model prog w) A (.compStart (.SetComp elt [⟨tg, iter, [], 0⟩, ⟨tg1, iter1, [], 0⟩] scope pos) 1 it1 acc env)
              (fun r s' => match r with | .ok _ => ∃ m, m < n ∧ M m s' | .error _ => False) s5)
            (fun _ _ => False) s4) (fun _ _ => False) s3) (fun _ _ => False) s2) (fun _ _ => False) s1) (fun _ _ => False) s)
    (n : Nat) (h : M n s) : codeAny (model prog w) A (.compLoop (.SetComp elt [⟨tg, iter, [], 0⟩, ⟨tg1, iter1, [], 0⟩] scope pos) 0 it acc env) R s := by
  have bad : ∀ {Z : Value → Shared → Prop} e s', (fun (_ : Value) (_ : Shared) => False) e s' → Z e s' := fun _ _ z => z.elim
  refine codeAny_loop rfl M (fun n s hM => ?_) n h
  show wpAny _ A ((compTurn _ 0 it acc env).onRaise (fun x => do noteFrame x env; theTreesLotGoes x)) _ _ s
  refine wpAny_noted ?_
  rw [turn_outer]
  refine wpAny_bind (wpAny_standAt (wpAny_bind (wpAny_mono (turn n s hM) (fun r s1 h1 => ?_) bad)))
  match r, h1 with
  | none, h1 => exact wpAny_pure h1
  | some v, h1 =>
    refine wpAny_bind (wpAny_mono h1 (fun _ s2 h2 => wpAny_bind (wpAny_mono h2 (fun _ s3 h3 => wpAny_bind (wpAny_tests_nil ?_)) bad)) bad)
    simp only [if_true]
    refine wpAny_bind (wpAny_mono h3 (fun x s4 h4 => ?_) bad)
    refine wpAny_bind (wpAny_standAt (wpAny_bind (wpAny_of_eq (hs x) (wpAny_bind (wpAny_holding (wpAny_mono h4 (fun it1 s5 h5 => wpAny_bind (wpAny_runOwn ?_)) bad))))))
    rw [Around.mark_none]
    refine codeAny_mono h5 fun r s6 hr => ?_
    match r, hr with
    | .error e, hr => exact hr.elim
    | .ok f, hr =>
      first
        | exact wpAny_pure ⟨rfl, hr⟩
        | exact wpAny_bind (wpAny_pure (wpAny_pure ⟨rfl, hr⟩))
theorem loop_inner (M : Nat → Shared → Prop)
    (turn : ∀ n s, M n s → wpAny (model prog w) A (pyNext it) (fun r s1 => match r with
      | none => R (.ok .next) s1
      | some v => wpAny (model prog w) A (letOwnedTupleGo tg1 it v) (fun _ s2 => wpAny (model prog w) A (assign tg1 env v) (fun _ s3 =>
          wpAny (model prog w) A (eval elt env) (fun x s4 => wpAny (model prog w) A (call (.builtin "set.add") [acc, x]) (fun _ s5 => ∃ m, m < n ∧ M m s5)
            (fun _ _ => False) s4) (fun _ _ => False) s3) (fun _ _ => False) s2) (fun _ _ => False) s1) (fun _ _ => False) s)
    (n : Nat) (h : M n s) : codeAny (model prog w) A (.compLoop (.SetComp elt [⟨tg, iter, [], 0⟩, ⟨tg1, iter1, [], 0⟩] scope pos) 1 it acc env) R s := by
  have bad : ∀ {Z : Value → Shared → Prop} e s', (fun (_ : Value) (_ : Shared) => False) e s' → Z e s' := fun _ _ z => z.elim
  refine codeAny_loop rfl M (fun n s hM => ?_) n h
  show wpAny _ A ((compTurn _ 1 it acc env).onRaise (fun x => do noteFrame x env; theTreesLotGoes x)) _ _ s
  refine wpAny_noted ?_
  rw [turn_inner]
  refine wpAny_bind (wpAny_standAt (wpAny_bind (wpAny_mono (turn n s hM) (fun r s1 h1 => ?_) bad)))
  match r, h1 with
  | none, h1 => exact wpAny_pure h1
  | some v, h1 =>
    refine wpAny_bind (wpAny_mono h1 (fun _ s2 h2 => wpAny_bind (wpAny_mono h2 (fun _ s3 h3 => wpAny_bind (wpAny_tests_nil ?_)) bad)) bad)
    simp only [if_true]
    exact wpAny_bind (wpAny_bind (wpAny_mono h3 (fun x s4 h4 => wpAny_bind (wpAny_standAt (wpAny_bind (wpAny_mono h4 (fun _ s5 h5 => wpAny_pure (wpAny_pure ⟨rfl, h5⟩)) bad)))) bad))
theorem start_inner (h0 : codeAny (model prog w) A (.compLoop (.SetComp elt [⟨tg, iter, [], 0⟩, ⟨tg1, iter1, [], 0⟩] scope pos) 1 it acc env) R s)
    (h : wpAny (model prog w) A (pyIter it) (fun it' s' => codeAny (model prog w) A (.compLoop (.SetComp elt [⟨tg, iter, [], 0⟩, ⟨tg1, iter1, [], 0⟩] scope pos) 1 it' acc env) R s')
      (notedBy (model prog w) A env fun x s' => R (.error x) s') s) :
    codeAny (model prog w) A (.compStart (.SetComp elt [⟨tg, iter, [], 0⟩, ⟨tg1, iter1, [], 0⟩] scope pos) 1 it acc env) R s := by
  refine codeAny_of_tree ?_
  show wpAny _ _ ((compStart _ 1 it acc env).onRaise (fun x => do noteFrame x env; standAt theWindowsPlace)) _ _ s
  refine wpAny_notedAt ?_
  unfold compStart
  show wpAny _ _ (ask >>= _) _ _ s
  refine wpAny_bind (wpAny_askSetting (wpAny_ite ?_))
  have id2 : ∀ {Z : Value → Shared → Prop} e s', Z e s' → Z e s' := fun _ _ z => z
  split
  · first | exact wpAny_bind (wpAny_pure (wpAny_pure ⟨rfl, h0⟩)) | exact wpAny_pure ⟨rfl, h0⟩
  · first
      | exact wpAny_bind (wpAny_rule (wpAny_bind (wpAny_standAt (wpAny_bind (wpAny_mono h (fun _ _ q => wpAny_pure ⟨rfl, q⟩) id2)))))
      | (refine wpAny_bind (wpAny_rule ?_); show wpAny _ _ (standAt iter1.pos >>= _) _ _ s; exact wpAny_bind (wpAny_standAt (wpAny_bind (wpAny_mono h (fun _ _ q => wpAny_pure ⟨rfl, q⟩) id2))))
end
end Sk

set_option Elab.async false
set_option maxRecDepth 100000
set_option maxHeartbeats 4000000
namespace Sk
open PySem PySem.Spec L2 PyProof.Rows
section
variable {X : Cx} {τ : Type}
/-- the block's parts, for any start -/
abbrev InBlk (X : Cx) (scope : Scope) (F : Cx → Prop) : Prop :=
  ∀ (s : Shared) (H : Hp) (c : Addr) (cl : List (Str × Addr)) (fp : List Addr), F (X.blk s H scope (compEnvC scope cl c X.env) fp)
theorem pe_sc2 {C : Coll X.prog X.w τ} {elt tg iter tg1 iter1 : Expr} {scope : Scope} {own : List (Str × Nat)} {vs1 : List Nat} {pos : Pos} {wi wi1 : TI} {g g1 : TG} {te : TE}
    (hc : X.calm = true) (hN : X.N.Nodup) (hi : PI X tg iter wi) (ok : BlkOk X.N X.env.scope scope own) (hv : ∀ i ∈ vs1, i ∈ own.map (·.2))
    (hg : InBlk X scope fun Y => PG Y tg g) (hi1 : InBlk X scope fun Y => PI Y tg1 iter1 wi1) (hg1 : InBlk X scope fun Y => PG Y tg1 g1) (he : InBlk X scope fun Y => PE Y elt te)
    (hs : ∀ x, foldedSetIterable iter X.env x = pure x := by intro _; rfl) (hs1 : ∀ env x, foldedSetIterable iter1 env x = pure x := by intro _ _; rfl) :
    PE X (.SetComp elt [⟨tg, iter, [], 0⟩, ⟨tg1, iter1, [], 0⟩] scope pos) (tSc2 C wi g wi1 g1 te (own.map (·.2)) vs1) := by
  refine ⟨fun pins s σ H Q I h => ?_⟩
  rw [PpSet.eval_SetComp]
  have captured : ∀ y ∈ scope.names, y.2 = .free → ∃ c, X.env.cells.lookup y.1 = some c := fun y hy e =>
    (ok.free y hy e).elim (fun k => I.ok.has _ (.inl k)) (fun k => I.ok.has _ (.inr k))
  refine wpAny_comprehension_free (use := none) rfl hs (closure_ok captured) ok.kind (fun y hy e => by rw [ok.uniq y hy, e])
    (thn (hi.run pins s σ H _ I h) fun xv s1 h1 => thn h1 fun itv s2 h2 => ?_)
  obtain ⟨ia, fp, tn, J, H2, rfl, I2, T, st2, f2, q⟩ := h2
  refine PpSet.newSet_ok (newEnv_comp ?_)
  have free2 : H2 s2.heap.objs.size = none := I2.hok.fresh (Nat.le_refl _)
  have I3 := I2.laid (o := C.so s2.heap.objs.size C.z) (t' := s2.toks) (fun b o e => Heap.get?_push_of_some (bareSet X.w) e) (Nat.le_refl _) (C.fresh _ s2.heap)
  obtain ⟨W, ⟨m0, w0⟩, turn⟩ := q _ free2
  have old2 : ∀ b ∈ fp, b < s2.heap.objs.size := fun b hb => by
    obtain ⟨o, e, _⟩ := T.obj _ _ st2 b hb
    exact Heap.lt_size e
  generalize hD : s2.heap.objs.size = D at *
  generalize hH3 : upd H2 D (C.so D C.z) = H3 at *
  generalize hs3 : ({ s2 with heap := s2.heap.push (bareSet X.w), toks := s2.toks } : Shared) = s3 at *
  have e3 : s3.heap = s2.heap.push (bareSet X.w) := by rw [← hs3]
  have z3 : s3.heap.objs.size = D + 1 := by rw [e3, Heap.size_push, hD]
  have f3 : ∀ b ∈ fp, FpOk X pins H3 b ∧ b < s3.heap.objs.size := fun b hb => by
    have lt := old2 b hb
    refine ⟨⟨?_, (f2 b hb).2⟩, by rw [z3]; exact Nat.lt_succ_of_lt lt⟩
    rw [← hH3, upd_ne (Nat.ne_of_lt lt)]
    exact (f2 b hb).1
  have st3 : tn 0 s3.heap := T.keep _ _ _ st2 fun b _ o e => by rw [e3]; exact Heap.get?_push_of_some _ e
  have I4 := block_start I3 ok hN f3
  generalize hcl : cellsFrom (s3.heap.objs.size + 1) scope.names (cloFrom X.env.cells scope.names []) = cl at *
  have pg := hg s3 H3 s3.heap.objs.size cl fp
  have pi1 := hi1 s3 H3 s3.heap.objs.size cl fp
  have pg1 := hg1 s3 H3 s3.heap.objs.size cl fp
  have pe := he s3 H3 s3.heap.objs.size cl fp
  have goal : codeAny (model X.prog X.w) X.A (.compStart (.SetComp elt [⟨tg, iter, [], 0⟩, ⟨tg1, iter1, [], 0⟩] scope pos) 0 (.ref ia) (.ref D) (compEnvC scope cl s3.heap.objs.size X.env))
      (compPost (model X.prog X.w) X.A X.xe none (EP X pins σ Q) (.ref D) s3.heap.objs.size) { s3 with heap := pushCells (s3.heap.push { cls := .type "dict", data := .dict #[] }) scope.names } := by
    generalize hce : compEnvC scope cl s3.heap.objs.size X.env = ce at *
    have cL : ce.locals = s3.heap.objs.size := by subst hce; rfl
    generalize hs4 : ({ s3 with heap := pushCells (s3.heap.push { cls := .type "dict", data := .dict #[] }) scope.names } : Shared) = s4 at *
    have st4 : tn 0 s4.heap := T.keep _ _ _ st3 fun b _ o e => by rw [← hs4]; exact pushCells_keeps _ _ _ _ (Heap.get?_push_of_some _ e)
    have stat : ∀ {σ' : L2.St} {H' : Hp} {s' : Shared}, Inv (X.blk s3 H3 scope ce fp) [] σ' H' s' → (∀ b ∈ fp, H' b = none) → ∀ b ∈ fp, FpOk (X.blk s3 H3 scope ce fp) [] H' b := fun {σ' H' s'} I' hn b hb =>
      ⟨hn b hb, (I'.ok.exf b hb).1, I'.ok.exfs b hb, .inl hb, fun x c e => (I'.ok.exf b hb).2 x c e, fun p hp => absurd (show p ∈ ([] : List (Addr × Obj)) ++ [] from hp) (by simp)⟩
    have loop : codeAny (model X.prog X.w) X.A (.compLoop (.SetComp elt [⟨tg, iter, [], 0⟩, ⟨tg1, iter1, [], 0⟩] scope pos) 0 (.ref ia) (.ref D) ce)
        (compPost (model X.prog X.w) X.A X.xe none (EP X pins σ Q) (.ref D) s3.heap.objs.size) s4 := by
      refine loop_outer (hs1 ce) (fun n s' => ∃ i H', Inv (X.blk s3 H3 scope ce fp) [] (wipe σ (own.map (·.2))) H' s' ∧ tn i s'.heap ∧ (∀ b ∈ fp, H' b = none) ∧ W i n H') ?_ m0
        ⟨0, H3, I4, st4, fun b hb => (f3 b hb).1.1, w0⟩
      rintro n s5 ⟨i, H5, I5, st5, n5, w5⟩
      rcases turn i n H5 w5 with ⟨stop, qq⟩ | ⟨go, Nx, hNx, step⟩
      · refine thnF (T.done (X.blk s3 H3 scope ce fp) rfl rfl rfl hc i [] s5 _ H5 (fun _ _ => False) I5 (stat I5 n5) st5 stop) fun r s6 z6 => ?_
        obtain ⟨rfl, I6⟩ := z6
        have I7 : Inv X pins σ H5 s6 := I3.call' (ch := fp) I6.os I6.base I6.hok I6.bare fun b hb =>
          ⟨(f3 b hb).1.2.2.2.1, (f3 b hb).1.2.1, (f3 b hb).1.2.2.2.2.1, (f3 b hb).1.2.2.2.2.2⟩
        have nC : H5 s3.heap.objs.size = none := by
          rw [← cL]
          exact I6.free
        obtain ⟨mm, hn, _⟩ := I6.loc
        have hn : s6.heap.Ns s3.heap.objs.size mm := by
          rw [← cL]
          exact hn
        obtain ⟨f0, f1, _, f3', f4, f5⟩ := I3.fpOk (Nat.le_refl _) nC
        exact ⟨mm, hn, fun h'' sb => ⟨.ref D, H5, I7.turned (t' := s6.toks) (fun b o hb e => (sb.2 b hb).trans e) f0 f1 f3' f4 f5, rfl, qq⟩⟩
      · refine thnF (T.item (X.blk s3 H3 scope ce fp) rfl rfl rfl hc i [] s5 _ H5 (fun _ _ => False) I5 (stat I5 n5) st5 go) fun r s6 z6 => ?_
        obtain ⟨u, rfl, h6⟩ := z6
        refine thnF h6 fun _ s7 z7 => ?_
        obtain ⟨x, H7, I7, r7, y7, st7, n7⟩ := z7
        refine thnF (pg.run _ s7 _ H7 x u _ (I7.pinned (stat I7 n7) (T.obj _ _ st7)) r7 (step x H7 y7)) fun _ s8 z8 => ?_
        obtain ⟨σ8, H8, I8, hw8, q8⟩ := z8
        -- a turn's end: back to what the block knew at its start
        have fin : ∀ {σ9 : L2.St} {s' : Shared} {H' : Hp}, Inv (X.blk s3 H3 scope ce fp) ([] ++ pinsAt fp s7.heap) σ9 H' s' → (wipe σ (own.map (·.2))).length = σ9.length →
            (∀ (j : Nat) v, (wipe σ (own.map (·.2)))[j]? = some (some v) → σ9[j]? = some (some v)) → Nx H' →
            ∃ m, m < n ∧ ∃ i H', Inv (X.blk s3 H3 scope ce fp) [] (wipe σ (own.map (·.2))) H' s' ∧ tn i s'.heap ∧ (∀ b ∈ fp, H' b = none) ∧ W i m H' := fun {σ9 s' H'} I' hl hk nx => by
          obtain ⟨m', hm, w'⟩ := hNx H' nx
          have at7 : ∀ b ∈ fp, ∀ o, s7.heap.get? b = some o → s'.heap.get? b = some o ∧ H' b = none := fun b hb o e => by
            obtain ⟨p1, p2, _⟩ := I'.pin (b, o) (List.mem_append_right _ (List.mem_append_right _ (mem_pinsAt hb e)))
            exact ⟨p1, p2⟩
          refine ⟨m', hm, i + 1, H', (I'.unpinned (pins := [])).weak hl hk, T.keep _ _ _ st7 (fun b hb o e => (at7 b hb o e).1), (fun b hb => ?_), w'⟩
          obtain ⟨o, e, _⟩ := T.obj _ _ st7 b hb
          exact (at7 b hb o e).2
        have hl8 : (wipe σ (own.map (·.2))).length = σ8.length := by rw [← hw8, wipe_length]
        have hk9 : ∀ (j : Nat) v, (wipe σ (own.map (·.2)))[j]? = some (some v) → (wipe σ8 vs1)[j]? = some (some v) := fun j v e => by
          rw [← hw8] at e
          obtain ⟨a1, a2⟩ := wipe_some e
          rw [wipe_out fun z => a2 (hv j z)]
          exact a1
        refine thnF (pi1.run _ s8 σ8 H8 _ I8 q8) fun xv s10 hx => thnF hx fun itv s11 z11 => ?_
        obtain ⟨ib, fp1, tn1, J1, H11, rfl, I11, T1, st11, f11, W1, ⟨m1, w1⟩, turn1⟩ := z11
        have stat1 : ∀ {H' : Hp}, (∀ b ∈ fp1, H' b = none) → ∀ b ∈ fp1, FpOk (X.blk s3 H3 scope ce fp) ([] ++ pinsAt fp s7.heap) H' b := fun hn b hb => ⟨hn b hb, (f11 b hb).2⟩
        have loop1 : codeAny (model X.prog X.w) X.A (.compLoop (.SetComp elt [⟨tg, iter, [], 0⟩, ⟨tg1, iter1, [], 0⟩] scope pos) 1 (.ref ib) (.ref D) ce)
            (fun r s' => match r with
              | .ok _ => ∃ m, m < n ∧ ∃ i H', Inv (X.blk s3 H3 scope ce fp) [] (wipe σ (own.map (·.2))) H' s' ∧ tn i s'.heap ∧ (∀ b ∈ fp, H' b = none) ∧ W i m H'
              | .error _ => False) s11 := by
          refine loop_inner (fun k s' => ∃ j H', Inv (X.blk s3 H3 scope ce fp) ([] ++ pinsAt fp s7.heap) (wipe σ8 vs1) H' s' ∧ tn1 j s'.heap ∧ (∀ b ∈ fp1, H' b = none) ∧ W1 j k H') ?_ m1
            ⟨0, H11, I11.weak (wipe_length _ _) (fun j v e => (wipe_some e).1), st11, fun b hb => (f11 b hb).1, w1⟩
          rintro k s12 ⟨j, H12, I12, st12, n12, w12⟩
          rcases turn1 j k H12 w12 with ⟨stop1, nx1⟩ | ⟨go1, Nx1, hNx1, step1⟩
          · refine thnF (T1.done (X.blk s3 H3 scope ce fp) rfl rfl rfl hc j _ s12 (wipe σ8 vs1) H12 (fun _ _ => False) I12 (stat1 n12) st12 stop1) fun r s13 z13 => ?_
            obtain ⟨rfl, I13⟩ := z13
            exact fin I13 (hl8.trans (wipe_length σ8 vs1).symm) hk9 nx1
          · refine thnF (T1.item (X.blk s3 H3 scope ce fp) rfl rfl rfl hc j _ s12 (wipe σ8 vs1) H12 (fun _ _ => False) I12 (stat1 n12) st12 go1) fun r s13 z13 => ?_
            obtain ⟨u1, rfl, h13⟩ := z13
            refine thnF h13 fun _ s14 z14 => ?_
            obtain ⟨x1, H14, I14, r14, y14, st14, n14⟩ := z14
            refine thnF (pg1.run _ s14 (wipe σ8 vs1) H14 x1 u1 _ (I14.pinned (stat1 n14) (T1.obj _ _ st14)) r14 (step1 x1 H14 y14)) fun _ s15 z15 => ?_
            obtain ⟨σ15, H15, I15, hw15, q15⟩ := z15
            refine thnF (pe.run _ s15 σ15 H15 _ I15 q15) fun z s17 z17 => ?_
            obtain ⟨yv, H17, I17, r17, t, t', hD17, can, nx⟩ := z17
            refine C.add (X.blk s3 H3 scope ce fp) rfl rfl _ _ _ _ _ _ _ _ _ _ _ I17 hD17 r17 can fun s18 I18 => ?_
            obtain ⟨k', hk', w'⟩ := hNx1 _ nx
            have at14 : ∀ b ∈ fp1, ∀ o, s14.heap.get? b = some o → s18.heap.get? b = some o ∧ (upd H17 D (C.so D t')) b = none := fun b hb o e => by
              obtain ⟨p1, p2, _⟩ := I18.pin (b, o) (List.mem_append_right _ (List.mem_append_right _ (mem_pinsAt hb e)))
              exact ⟨p1, p2⟩
            refine ⟨k', hk', j + 1, _, I18.unpinned.weak (by rw [← hw15, wipe_length]) (fun j v e => by rw [← hw15] at e; exact (wipe_some e).1),
              T1.keep _ _ _ st14 (fun b hb o e => (at14 b hb o e).1), (fun b hb => ?_), w'⟩
            obtain ⟨o, e, _⟩ := T1.obj _ _ st14 b hb
            exact (at14 b hb o e).2
        exact start_inner loop1 (T1.self X.A 0 _ _ _ st11 loop1)
    exact PpSet.codeAny_compStart_set loop (T.self X.A 0 _ _ _ st4 loop)
  subst hs3
  subst hD
  subst hcl
  exact goal
end
end Sk

set_option Elab.async false
set_option maxRecDepth 100000
set_option maxHeartbeats 4000000
namespace Sk
open PySem PySem.Spec L2 PyProof.Rows
section
variable {X : Cx} {τ : Type}
theorem pe_sc1 {C : Coll X.prog X.w τ} {elt tg iter : Expr} {scope : Scope} {own : List (Str × Nat)} {pos : Pos} {wi : TI} {g : TG} {te : TE}
    (hc : X.calm = true) (hN : X.N.Nodup) (hi : PI X tg iter wi) (ok : BlkOk X.N X.env.scope scope own)
    (hg : InBlk X scope fun Y => PG Y tg g) (he : InBlk X scope fun Y => PE Y elt te) (hs : ∀ x, foldedSetIterable iter X.env x = pure x := by intro _; rfl) :
    PE X (.SetComp elt [⟨tg, iter, [], 0⟩] scope pos) (tSc1 C wi g te (own.map (·.2))) := by
  refine ⟨fun pins s σ H Q I h => ?_⟩
  rw [PpSet.eval_SetComp]
  have captured : ∀ y ∈ scope.names, y.2 = .free → ∃ c, X.env.cells.lookup y.1 = some c := fun y hy e =>
    (ok.free y hy e).elim (fun k => I.ok.has _ (.inl k)) (fun k => I.ok.has _ (.inr k))
  refine wpAny_comprehension_free (use := none) rfl hs (closure_ok captured) ok.kind (fun y hy e => by rw [ok.uniq y hy, e])
    (thn (hi.run pins s σ H _ I h) fun xv s1 h1 => thn h1 fun itv s2 h2 => ?_)
  obtain ⟨ia, fp, tn, J, H2, rfl, I2, T, st2, f2, q⟩ := h2
  refine PpSet.newSet_ok (newEnv_comp ?_)
  have free2 : H2 s2.heap.objs.size = none := I2.hok.fresh (Nat.le_refl _)
  have I3 := I2.laid (o := C.so s2.heap.objs.size C.z) (t' := s2.toks) (fun b o e => Heap.get?_push_of_some (bareSet X.w) e) (Nat.le_refl _) (C.fresh _ s2.heap)
  obtain ⟨W, ⟨m0, w0⟩, turn⟩ := q _ free2
  have old2 : ∀ b ∈ fp, b < s2.heap.objs.size := fun b hb => by
    obtain ⟨o, e, _⟩ := T.obj _ _ st2 b hb
    exact Heap.lt_size e
  generalize hD : s2.heap.objs.size = D at *
  generalize hH3 : upd H2 D (C.so D C.z) = H3 at *
  generalize hs3 : ({ s2 with heap := s2.heap.push (bareSet X.w), toks := s2.toks } : Shared) = s3 at *
  have e3 : s3.heap = s2.heap.push (bareSet X.w) := by rw [← hs3]
  have z3 : s3.heap.objs.size = D + 1 := by rw [e3, Heap.size_push, hD]
  have f3 : ∀ b ∈ fp, FpOk X pins H3 b ∧ b < s3.heap.objs.size := fun b hb => by
    have lt := old2 b hb
    refine ⟨⟨?_, (f2 b hb).2⟩, by rw [z3]; exact Nat.lt_succ_of_lt lt⟩
    rw [← hH3, upd_ne (Nat.ne_of_lt lt)]
    exact (f2 b hb).1
  have st3 : tn 0 s3.heap := T.keep _ _ _ st2 fun b _ o e => by rw [e3]; exact Heap.get?_push_of_some _ e
  have I4 := block_start I3 ok hN f3
  generalize hcl : cellsFrom (s3.heap.objs.size + 1) scope.names (cloFrom X.env.cells scope.names []) = cl at *
  have pg := hg s3 H3 s3.heap.objs.size cl fp
  have pe := he s3 H3 s3.heap.objs.size cl fp
  have goal : codeAny (model X.prog X.w) X.A (.compStart (.SetComp elt [⟨tg, iter, [], 0⟩] scope pos) 0 (.ref ia) (.ref D) (compEnvC scope cl s3.heap.objs.size X.env))
      (compPost (model X.prog X.w) X.A X.xe none (EP X pins σ Q) (.ref D) s3.heap.objs.size) { s3 with heap := pushCells (s3.heap.push { cls := .type "dict", data := .dict #[] }) scope.names } := by
    generalize hce : compEnvC scope cl s3.heap.objs.size X.env = ce at *
    have cL : ce.locals = s3.heap.objs.size := by subst hce; rfl
    generalize hs4 : ({ s3 with heap := pushCells (s3.heap.push { cls := .type "dict", data := .dict #[] }) scope.names } : Shared) = s4 at *
    have st4 : tn 0 s4.heap := T.keep _ _ _ st3 fun b _ o e => by rw [← hs4]; exact pushCells_keeps _ _ _ _ (Heap.get?_push_of_some _ e)
    have stat : ∀ {σ' : L2.St} {H' : Hp} {s' : Shared}, Inv (X.blk s3 H3 scope ce fp) [] σ' H' s' → (∀ b ∈ fp, H' b = none) → ∀ b ∈ fp, FpOk (X.blk s3 H3 scope ce fp) [] H' b := fun {σ' H' s'} I' hn b hb =>
      ⟨hn b hb, (I'.ok.exf b hb).1, I'.ok.exfs b hb, .inl hb, fun x c e => (I'.ok.exf b hb).2 x c e, fun p hp => absurd (show p ∈ ([] : List (Addr × Obj)) ++ [] from hp) (by simp)⟩
    have loop : codeAny (model X.prog X.w) X.A (.compLoop (.SetComp elt [⟨tg, iter, [], 0⟩] scope pos) 0 (.ref ia) (.ref D) ce)
        (compPost (model X.prog X.w) X.A X.xe none (EP X pins σ Q) (.ref D) s3.heap.objs.size) s4 := by
      refine PpSet.compLoopS_any (fun n s' => ∃ i H', Inv (X.blk s3 H3 scope ce fp) [] (wipe σ (own.map (·.2))) H' s' ∧ tn i s'.heap ∧ (∀ b ∈ fp, H' b = none) ∧ W i n H') ?_ m0
        ⟨0, H3, I4, st4, fun b hb => (f3 b hb).1.1, w0⟩
      rintro n s5 ⟨i, H5, I5, st5, n5, w5⟩
      rcases turn i n H5 w5 with ⟨stop, qq⟩ | ⟨go, Nx, hNx, step⟩
      · refine thnF (T.done (X.blk s3 H3 scope ce fp) rfl rfl rfl hc i [] s5 _ H5 (fun _ _ => False) I5 (stat I5 n5) st5 stop) fun r s6 z6 => ?_
        obtain ⟨rfl, I6⟩ := z6
        have I7 : Inv X pins σ H5 s6 := I3.call' (ch := fp) I6.os I6.base I6.hok I6.bare fun b hb =>
          ⟨(f3 b hb).1.2.2.2.1, (f3 b hb).1.2.1, (f3 b hb).1.2.2.2.2.1, (f3 b hb).1.2.2.2.2.2⟩
        have nC : H5 s3.heap.objs.size = none := by
          rw [← cL]
          exact I6.free
        obtain ⟨mm, hn, _⟩ := I6.loc
        have hn : s6.heap.Ns s3.heap.objs.size mm := by
          rw [← cL]
          exact hn
        obtain ⟨f0, f1, _, f3', f4, f5⟩ := I3.fpOk (Nat.le_refl _) nC
        exact ⟨mm, hn, fun h'' sb => ⟨.ref D, H5, I7.turned (t' := s6.toks) (fun b o hb e => (sb.2 b hb).trans e) f0 f1 f3' f4 f5, rfl, qq⟩⟩
      · refine thnF (T.item (X.blk s3 H3 scope ce fp) rfl rfl rfl hc i [] s5 _ H5 (fun _ _ => False) I5 (stat I5 n5) st5 go) fun r s6 z6 => ?_
        obtain ⟨u, rfl, h6⟩ := z6
        refine thnF h6 fun _ s7 z7 => ?_
        obtain ⟨x, H7, I7, r7, y7, st7, n7⟩ := z7
        refine thnF (pg.run _ s7 _ H7 x u _ (I7.pinned (stat I7 n7) (T.obj _ _ st7)) r7 (step x H7 y7)) fun _ s8 z8 => ?_
        obtain ⟨σ8, H8, I8, hw8, q8⟩ := z8
        refine wpAny_tests_nil ?_
        simp only [if_true]
        refine thnF (pe.run _ s8 σ8 H8 _ I8 q8) fun z s17 z17 => ?_
        obtain ⟨yv, H17, I17, r17, t, t', hD17, can, nx⟩ := z17
        refine C.add (X.blk s3 H3 scope ce fp) rfl rfl _ _ _ _ _ _ _ _ _ _ _ I17 hD17 r17 can fun s18 I18 => ?_
        obtain ⟨m', hm, w'⟩ := hNx _ nx
        have at7 : ∀ b ∈ fp, ∀ o, s7.heap.get? b = some o → s18.heap.get? b = some o ∧ (upd H17 D (C.so D t')) b = none := fun b hb o e => by
          obtain ⟨p1, p2, _⟩ := I18.pin (b, o) (List.mem_append_right _ (List.mem_append_right _ (mem_pinsAt hb e)))
          exact ⟨p1, p2⟩
        refine ⟨m', hm, i + 1, _, (I18.unpinned (pins := [])).weak (by rw [← hw8, wipe_length]) (fun j v e => by rw [← hw8] at e; exact (wipe_some e).1),
          T.keep _ _ _ st7 (fun b hb o e => (at7 b hb o e).1), (fun b hb => ?_), w'⟩
        obtain ⟨o, e, _⟩ := T.obj _ _ st7 b hb
        exact (at7 b hb o e).2
    exact PpSet.codeAny_compStart_set loop (T.self X.A 0 _ _ _ st4 loop)
  subst hs3
  subst hD
  subst hcl
  exact goal
end
/-! ### ints -/
def plusI (k : Int) (l : List Int) : List Int := if k ∈ l then l else k :: l
def IntO (w : World) (a : Addr) (l : List Int) : HO := SetO w a (fun k => decide (k ∈ l)) l.length
def numbers (P : Program) (w : World) : Coll P w (List Int) where
  so := IntO w
  z := []
  can := fun y l l' => ∃ k, y = .int k ∧ l.length + 1 < scanBound ∧ l' = plusI k l
  fresh := fun _ h => setO_new (R := by
    have q := setR_fresh (h := h) w
    exact q.congr fun k => by simp)
  add := by
    rintro X rfl rfl pins σ H s D t t' y v Q E I hD r ⟨k, rfl, room, rfl⟩ hQ
    obtain ⟨u, rfl⟩ := r
    have R := setO_get (X := X) I hD
    refine setR_add R room fun h' sb new => hQ _ ?_
    have new2 : SetR X.w h' D (fun j => decide (j ∈ plusI k t)) (plusI k t).length := by
      unfold plusI
      by_cases c : k ∈ t
      · rw [if_pos c]
        rw [if_pos (by simpa using c)] at new
        exact new.congr fun j => by
          by_cases e : j = k
          · subst e; simp [c]
          · simp [e]
      · rw [if_neg c]
        rw [if_neg (by simpa using c)] at new
        exact new.congr fun j => by
          by_cases e : j = k <;> simp [e]
    refine I.write (e := D) (t' := s.toks + 1) (by rw [hD]; trivial) (.inl rfl) (fun b u hb hu => (sb.2 b hb).trans hu) ?_ (setO_new new2)
    have ⟨o, _, _, _, ho, _⟩ := new
    exact ⟨o, ho⟩
end Sk

set_option Elab.async false
set_option maxRecDepth 100000
set_option maxHeartbeats 4000000
namespace Sk
open PySem PySem.Spec L2 PyProof.Rows
/-! ### values as data -/
theorem Same.seqT {K : PySem.W.Frag} {H H' : Hp} {a : Addr} {xs : List V} (e : Same H H') (h : SqT K H a xs) : SqT K H' a xs := by
  rcases h with (h | ⟨o, h⟩) | h
  · exact .inl (.inl (e _ _ h))
  · exact .inl (.inr ⟨o, e _ _ h⟩)
  · exact .inr h
mutual
theorem dp_same {K : PySem.W.Frag} {H H' : Hp} (e : Same H H') : ∀ {d : PyData} {v : V}, Dp K H v d → Dp K H' v d
  | .none, _, h => by cases h; exact .non
  | .bool b, _, h => by cases h; exact .bl b
  | .int i, _, h => by cases h; exact .int i
  | .str x, _, h => by cases h; exact .str x
  | .list ds, _, h => by
    cases h with
    | lst hs ha => exact .lst (e.seq hs) (dpAll_same e ha)
  | .tuple ds, _, h => by
    cases h with
    | tup hs ha => exact .tup (Same.seqT e hs) (dpAll_same e ha)
  | .dict _, _, h => by cases h
theorem dpAll_same {K : PySem.W.Frag} {H H' : Hp} (e : Same H H') : ∀ {ds : List PyData} {vs : List V}, DpAll K H vs ds → DpAll K H' vs ds
  | [], _, h => by cases h; exact .nil
  | d :: ds, _, h => by
    cases h with
    | cons h1 h2 => exact .cons (dp_same e h1) (dpAll_same e h2)
end
theorem dpAll_len {K : PySem.W.Frag} {H : Hp} : ∀ {ds : List PyData} {vs : List V}, DpAll K H vs ds → vs.length = ds.length
  | [], _, h => by cases h; rfl
  | d :: ds, _, h => by
    cases h with
    | cons h1 h2 => rw [List.length_cons, List.length_cons, dpAll_len h2]
theorem dpAll_get {K : PySem.W.Frag} {H : Hp} : ∀ {ds : List PyData} {vs : List V} {i : Nat} {d : PyData}, DpAll K H vs ds → ds[i]? = some d → ∃ v, vs[i]? = some v ∧ Dp K H v d
  | [], _, _, _, _, q => by simp at q
  | d :: ds, _, 0, _, h, q => by
    cases h with
    | cons h1 h2 =>
      simp at q
      subst q
      exact ⟨_, rfl, h1⟩
  | d :: ds, _, i + 1, _, h, q => by
    cases h with
    | cons h1 h2 => exact dpAll_get (i := i) h2 (by simpa using q)
theorem dpAll_at {K : PySem.W.Frag} {H : Hp} : ∀ {ds : List PyData} {vs : List V} {i : Nat} {v : V}, DpAll K H vs ds → vs[i]? = some v → ∃ d, ds[i]? = some d ∧ Dp K H v d
  | [], _, _, _, h, q => by cases h; simp at q
  | d :: ds, _, 0, _, h, q => by
    cases h with
    | cons h1 h2 =>
      simp at q
      subst q
      exact ⟨_, rfl, h1⟩
  | d :: ds, _, i + 1, _, h, q => by
    cases h with
    | cons h1 h2 => exact dpAll_at (i := i) h2 (by simpa using q)
theorem atI_back {α : Type} {xs : List α} {k : Nat} (h0 : 0 < k) (hk : k ≤ xs.length) : atI xs (-(k : Int)) = xs[xs.length - k]? := by
  have e : ixN xs.length (-(k : Int)) = some (xs.length - k) := by
    unfold ixN
    rw [if_neg (by omega), if_pos (by omega)]
    congr 1
    omega
  unfold atI
  rw [e]
  rfl
/-! ### isinstance -/
def isK : PyData → String → Bool
  | .int _, "int" => true
  | .bool _, "int" => true
  | .bool _, "bool" => true
  | .str _, "str" => true
  | .tuple _, "tuple" => true
  | .list _, "list" => true
  | _, _ => false
theorem isi_use {K : PySem.W.Frag} {H : Hp} {v : V} {d : PyData} {T : String} {Q : VK} (h : Dp K H v d) (hT : T ∈ ["int", "bool", "str", "tuple", "list"]) (q : Q (.bl (isK d T)) H) : rIsi K [v, .ty T] H Q := by
  have go : ∀ {ty : String}, TyX K H v (.type ty) → kitB ty T = some (isK d T) → rIsi K [v, .ty T] H Q := fun {ty} h1 h2 => ⟨v, .ty T, _, _, _, rfl, .ty T, h1, kit_ty h2, q⟩
  simp only [List.mem_cons, List.not_mem_nil, or_false] at hT
  cases h with
  | non => exact go (.base .non) (by rcases hT with rfl | rfl | rfl | rfl | rfl <;> first | decide +kernel | rfl)
  | bl b => exact go (.base (.bl b)) (by cases b <;> rcases hT with rfl | rfl | rfl | rfl | rfl <;> decide +kernel)
  | int i => exact go (.base (.int i)) (by rcases hT with rfl | rfl | rfl | rfl | rfl <;> first | decide +kernel | rfl)
  | str x => exact go (.base (.str x)) (by rcases hT with rfl | rfl | rfl | rfl | rfl <;> first | decide +kernel | rfl)
  | lst hs ha =>
    rename_i aa xx dd
    have ty : TyX K H (.ref aa) (.type "list") := by
      rcases hs with (hs | ⟨o, hs⟩) | ⟨o, its, n, hk, hc, _⟩
      · exact .base (.lst hs)
      · exact .base (.frz hs)
      · exact .kList hk hc
    exact go ty (by rcases hT with rfl | rfl | rfl | rfl | rfl <;> first | decide +kernel | rfl)
  | tup hs ha =>
    rename_i aa xx dd
    have ty : TyX K H (.ref aa) (.type "tuple") := by
      rcases hs with (hs | ⟨o, hs⟩) | ⟨o, its, n, hk, hc, _⟩
      · exact .base (.tup hs)
      · exact .fTuple hs
      · exact .kTuple hk hc
    exact go ty (by rcases hT with rfl | rfl | rfl | rfl | rfl <;> first | decide +kernel | rfl)
theorem isi_fact {K : PySem.W.Frag} {H : Hp} {v : V} {d : PyData} {T : String} (h : Dp K H v d) (hT : T ∈ ["int", "bool", "str", "tuple", "list"]) :
    ∃ t, TyX K H v t ∧ PySem.W.kitOne K t (.type T) = some (isK d T) := by
  obtain ⟨x, c, t, u, b, e, k, y, z, q⟩ := isi_use (Q := fun r _ => r = .bl (isK d T)) h hT rfl
  cases e
  cases k
  cases q
  exact ⟨t, y, z⟩
theorem upd_upd_same {H : Hp} {a : Addr} {o o' : HO} : upd (upd H a o) a o' = upd H a o' := by
  funext b
  by_cases h : b = a
  · subst h; rw [upd_same, upd_same]
  · rw [upd_ne h, upd_ne h, upd_ne h]
/-! ### what the kinds are, as functions of data -/
def intB : PyData → Bool
  | .int _ => true
  | _ => false
def withinB (d : PyData) (a b : Int) : Bool := match d with
  | .int i => decide (a ≤ i) && decide (i ≤ b)
  | _ => false
def lowB (c : Nat) : Bool := decide (97 ≤ c) && decide (c ≤ 122)
def placeB : PyData → Bool
  | .str z => (decide (1 ≤ (z.length : Int)) && decide ((z.length : Int) ≤ 8)) && z.cps.toList.all lowB
  | _ => false
def weightB (d : PyData) : Bool := match d with
  | .none => true
  | d => withinB d 1 1000
def scalarB : PyData → Bool
  | .none | .bool _ | .int _ | .str _ => true
  | _ => false
def itemB (ds : List PyData) (i : Nat) (f : PyData → Bool) : Bool := match ds[i]? with
  | some d => f d
  | none => false
def partsB (d : PyData) (n : Nat) : Bool := match d with
  | .tuple ds => decide (ds.length = n) && (itemB ds 0 (withinB · 1 1000000) && (itemB ds 1 (withinB · 0 1000000) && (itemB ds (n - 2) (withinB · 0 1000000) && itemB ds (n - 1) weightB)))
  | _ => false
def endB (d : PyData) : Bool := match d with
  | .str z => decide (z = ("-" : Str)) || placeB (.str z)
  | _ => false
def otherB (a b : PyData) : Bool := match a, b with
  | .str x, .str y => !decide (x = y)
  | _, _ => true
def moveB (d : PyData) : Bool := partsB d 6 && match d with
  | .tuple ds => match ds[2]?, ds[3]? with
    | some a, some b => endB a && (endB b && otherB a b)
    | _, _ => false
  | _ => false
def countB (d : PyData) : Bool := partsB d 5 && match d with
  | .tuple ds => itemB ds 2 placeB
  | _ => false
def recB (d : PyData) : Bool := moveB d || countB d
/-- tuples have scalars alone in them -/
def plainB : PyData → Bool
  | .tuple ds => ds.all scalarB
  | d => scalarB d
def idB (d : PyData) : Int := match d with
  | .tuple (.int i :: _) => i
  | _ => 0
def recsB (d : PyData) : Bool := match d with
  | .list ds => ds.all recB && decide ((ds.map idB).Nodup)
  | _ => false
end Sk

set_option Elab.async false
set_option maxRecDepth 100000
set_option maxHeartbeats 4000000
namespace Sk
open PySem PySem.Spec L2 PyProof.Rows
/-! ### sorted(records, key=..): by time and id -/
/-- the key's def: of a tuple whose items 0 and 1 are ints it makes the tuple (item 1, item 0), and changes nothing -/
def KeyFn (P : Program) (w : World) (K : PySem.W.Frag) (f : Addr) : Prop :=
  ∀ (A : Around) (s : Shared) (p : Addr) (its : Array Value) (t i : Int) (t0 t1 : Tok), K.In s.heap → s.heap.NoLimit → A.depth < recursionLimit → IsTup s.heap p its →
    its[0]? = some (.int i t0) → its[1]? = some (.int t t1) → wpAny (model P w) A (call (.ref f) [.ref p]) (PySem.W.KeyPure (.tuple [.int t, .int i]) s) (fun _ _ => False) s
def keyD (kt : V → Int × Int) (x : V) : PyData := .tuple [.int (kt x).1, .int (kt x).2]
/-- the list in its sequence -/
def inSeq (kt : V → Int × Int) (xs : List V) : List V := xs.mergeSort (PySem.W.dataLe false (keyD kt))
def RecAt (K : PySem.W.Frag) (H : Hp) (x : V) (t i : Int) : Prop := ∃ p xs, x = .ref p ∧ SqT K H p xs ∧ xs[0]? = some (.int i) ∧ xs[1]? = some (.int t)
def rSortKey (K : PySem.W.Frag) (f : Addr) : List V → List V → Hp → VK → Prop := fun vs zs H Q => ∃ (a : Addr) (xs : List V) (kt : V → Int × Int), vs = [.ref a] ∧ zs = [.ref f] ∧ SqL K H a xs ∧ xs.length ≤ 1000 ∧
  (∀ x ∈ xs, RecAt K H x (kt x).1 (kt x).2) ∧ ∀ q, H q = none → Q (.ref q) (upd H q (.lst (inSeq kt xs)))
theorem each_of {xs : List V} : ∀ {us : List Value}, Vals xs us → PySem.W.EachIs (fun v x => RelV x v) us xs := by
  induction xs with
  | nil => intro us h; cases h; exact .nil
  | cons x xs ih => intro us h; cases h with | cons a b => exact .cons a (ih b)
theorem vals_of {xs : List V} : ∀ {us : List Value}, PySem.W.EachIs (fun v x => RelV x v) us xs → Vals xs us := by
  induction xs with
  | nil => intro us h; cases h; exact .nil
  | cons x xs ih => intro us h; cases h with | cons a b => exact .cons a (ih b)
theorem call_sortKey {X : Cx} {f : Addr} (hc : X.calm = true) (hu : X.A.units + 64 < cLine) (hd : X.A.in1.in1.depth < recursionLimit) (F : KeyFn X.prog X.w X.K f) : CallRK X (.builtin "sorted") ["key"] (rSortKey X.K f) := by
  rintro pins s σ H vs zs us ws Q I r1 r2 ⟨a, xs, kt, rfl, rfl, hl, hlen, hrec, q⟩
  rw [Vals.ref1 r1, Vals.ref1 r2]
  obtain ⟨its, rv, pl, hz⟩ := I.list hl
  have lim : s.heap.NoLimit := I.ok.mod.nolimit.keeps fun b o e => (I.bs b o e).1
  refine PySem.W.sorted_key_data (vs := its) (bs := xs) (b := false) (keyD kt) pl.isList (each_of rv) ?_ (.inl fun d hd => ?_) hz ?_ ?_ ?_ (fun x => ksk_t1 f x) ?_ ?_
  · intro d hd d' hd'
    obtain ⟨x, _, rfl⟩ := List.mem_map.mp hd
    obtain ⟨y, _, rfl⟩ := List.mem_map.mp hd'
    first | rfl | simp [keyD, PySem.W.alike] | decide
  · obtain ⟨x, _, rfl⟩ := List.mem_map.mp hd
    exact ⟨_, _, rfl⟩
  · intro x _
    have : (keyD kt x).depth ≤ 1 := by
      unfold keyD
      simp only [PyData.depth, PyData.depthAll]
      omega
    omega
  · first | decide | (unfold argsOk; kernel_rfl)
  · intro x
    first | decide | (unfold argsOk; kernel_rfl)
  · intro v x rx hx h tk hk
    obtain ⟨p, ys, rfl, hs, e0, e1⟩ := hrec x hx
    cases rx
    obtain ⟨its2, rv2, tup, _⟩ := I.tuple hs
    obtain ⟨u0, g0, s0⟩ := rv2.get e0
    obtain ⟨u1, g1, s1⟩ := rv2.get e1
    obtain ⟨t0, rfl⟩ := s0
    obtain ⟨t1, rfl⟩ := s1
    exact F X.A.in1.in1 { s with heap := h, toks := tk } p its2.toArray _ _ t0 t1 (I.kIn.keeps hk) (lim.keeps hk) hd (tup.keeps hk) (by simpa using g0) (by simpa using g1)
  · intro out c h' tk hk hfree hob hlo he
    have hn : H (s.heap.objs.size + 1) = none := I.hok.fresh (Nat.le_succ _)
    have hlen2 : (inSeq kt xs).length ≤ sizeLine := by
      unfold inSeq
      rw [List.length_mergeSort]
      exact Nat.le_trans hlen (by decide)
    exact ⟨.ref _, upd H (s.heap.objs.size + 1) (.lst (inSeq kt xs)), I.laid (t' := tk) hk (Nat.le_succ _) ⟨hlen2, out, c, vals_of he, hob⟩, rfl, q _ hn⟩
end Sk

set_option Elab.async false
set_option maxRecDepth 100000
set_option maxHeartbeats 4000000
namespace Sk
open PySem PySem.Spec L2 PyProof.Rows
/-! ### f(k = v, ..): keywords alone -/
structure KwOnly (fd : FuncData) (ps ks : List Str) (n : Nat) (g : List Value → List Value) (gV : List V → List V) : Prop where
  to : ∀ (s : Shared) (ws : List Value), ws.length = n → BindsTo s fd ⟨[], ks.zip ws⟩ (ps.zip (g ws))
  rel : ∀ {zs : List V} {ws : List Value}, Vals zs ws → Vals (gV zs) (g ws)
def tCallW (sp : Sp) (n : Nat) (gV : List V → List V) (E : XK) (tk : TA) : TE := fun σ H Q => tk σ H fun zs H1 => zs.length = n ∧ sp (gV zs) H1 Q E
theorem pe_callW {X : Cx} {CX : CXT} {k n : Nat} {f : Addr} {fd : FuncData} {ps ks : List Str} {sp : Sp} {E : XK} {x : Str} {p pos : Pos} {kws : List Keyword} {tk : TA} {g : List Value → List Value} {gV : List V → List V}
    (F : FnOk X.prog X.w X.K X.mg X.base CX k f fd ps sp) (hr : Room k X.A) (hg : Gl X x) (hm : X.mg x = some (.ref f)) (hk : PySem.W.keepIn X.K (.ref f) = true) (hb : KwOnly fd ps ks n g gV) (hx : Passes CX X E) (hkw : PK X kws tk)
    (hall : (backToKw pos (keywordEach kws X.env)).all (·.1.isSome) = true := by rfl) (hks : (backToKw pos (keywordEach kws X.env)).filterMap (·.1) = ks := by rfl) (hdb : (x == ("__debug__" : Str)) = false := by decide)
    (hpl : ((backTo pos (starEach [] X.env)).any (·.1) || (backToKw pos (keywordEach kws X.env)).any (·.1.isNone)) = false := by rfl) :
    PE X (.Call (.Name x p) [] kws pos) (tCallW sp n gV E tk) := by
  refine ⟨fun pins s σ H Q I h => ?_⟩
  refine wpAny_Call_Name_kw (ld_glob I hg hm ?_ hdb)
  refine PySem.W.callWith_KW0 (h₀ := X.base) I.ok.mod.kin hk hall (thn (hkw.run pos pins s σ H _ I h) fun ws s1 z => ?_) hpl
  obtain ⟨zs, H1, I1, rz, hl, q⟩ := z
  refine ⟨I1.kIn, ?_⟩
  rw [hks]
  refine wpAny_call (codeAny_mono (F.run X.A X.stack s1 H1 ⟨[], ks.zip ws⟩ (g ws) (gV zs) Q E hr I1.env0 (hb.to s1 ws (by rw [← hl]; exact rz.length.symm)) (hb.rel rz) q) fun r s2 hq => ?_)
  match r, hq with
  | .error e, hq => exact hx pins σ H1 s1 e s2 I1 hq
  | .ok .next, hq => exact hq.elim
  | .ok .brk, hq => exact hq.elim
  | .ok .cont, hq => exact hq.elim
  | .ok (.ret u), hq => exact I1.after hq
theorem kw_one {fd : FuncData} {p : Str} (h : ∀ u : Value, bindArgs fd ⟨[], [(p, u)]⟩ = pure [(p, u)]) : KwOnly fd [p] [p] 1 id id where
  to := fun s ws hl => by
    match ws, hl with
    | [u], _ => exact .of_eq (h u)
  rel := id
/-! ### len of a set of ints -/
def rLenI (w : World) : List V → Hp → VK → Prop := fun vs H Q => ∃ (a : Addr) (l : List Int), vs = [V.ref a] ∧ H a = some (IntO w a l) ∧ Q (.int (l.length : Int)) H
theorem call_lenI {X : Cx} : CallR X (.builtin "len") (rLenI X.w) := by
  rintro pins s σ H vs us Q I r ⟨a, l, rfl, ha, q⟩
  have R : SetR X.w s.heap a (fun k => decide (k ∈ l)) l.length := setO_get (X := X) I ha
  rw [Vals.ref1 r]
  obtain ⟨o, es, ep, t, ho, hex, hd, _, _, _, hb, hf, hn, _⟩ := R
  have : scanBound < 2 ^ 63 := by decide
  refine call_len_set ho hex hd hf (by omega) ⟨.int (l.length : Int), H, I.tok _, ⟨_, by rw [hn]⟩, q⟩
/-! ### a list comprehension over a text -/
theorem lc_text {z : Str} {g : TG} {te : TE} {vs : List Nat} {σ : L2.St} {H1 : Hp} {D : Addr} {Qd : Hp → Prop} (Pv : Nat → Hp → Prop) (h0 : Pv 0 (upd H1 D (.lst [])))
    (hs : ∀ i c H, z.cps[i]? = some c → Pv i H → g (.str ⟨#[c]⟩) (wipe σ vs) H fun σ2 H2 => wipe σ2 vs = wipe σ vs ∧
      te σ2 H2 fun y H4 => ∃ acc, H4 D = some (.lst acc) ∧ acc.length < sizeLine ∧ Pv (i + 1) (upd H4 D (.lst (acc ++ [y])))) (hd : ∀ H, Pv z.cps.size H → Qd H) :
    ∃ W : Nat → Nat → Hp → Prop, (∃ m, W 0 m (upd H1 D (.lst []))) ∧ ∀ i m H, W i m H →
      ((Its z).stop i H ∧ Qd H) ∨ ((Its z).go i H ∧ ∃ Nx : Hp → Prop, (∀ H', Nx H' → ∃ m', m' < m ∧ W (i + 1) m' H') ∧ ∀ x H', (Its z).yld i H x H' → g x (wipe σ vs) H' fun σ2 H2 => wipe σ2 vs = wipe σ vs ∧ tYes σ2 H2 fun b H3 =>
        if b = true then te σ2 H3 fun y H4 => ∃ acc, H4 D = some (.lst acc) ∧ acc.length < sizeLine ∧ Nx (upd H4 D (.lst (acc ++ [y]))) else Nx H3) := by
  refine ⟨fun i m H => m = z.cps.size - i ∧ i ≤ z.cps.size ∧ Pv i H, ⟨z.cps.size, rfl, Nat.zero_le _, h0⟩, ?_⟩
  rintro i m H ⟨rfl, hi, p⟩
  by_cases c : i < z.cps.size
  · refine .inr ⟨c, Pv (i + 1), fun H' p' => ⟨z.cps.size - (i + 1), by omega, rfl, c, p'⟩, fun x H' y => ?_⟩
    obtain ⟨rfl, k, hk, rfl⟩ := y
    exact hs i k H' hk p
  · have e : i = z.cps.size := by omega
    subst e
    exact .inl ⟨Nat.le_refl _, hd H p⟩
end Sk

set_option Elab.async false
set_option maxRecDepth 100000
set_option maxHeartbeats 4000000
namespace Sk
open PySem PySem.Spec L2 PyProof.Rows
/-! ### repr of a scalar, of a list or tuple of such, of a dict with flat values -/
def keyDat : Key → PyData
  | .inl i => .int i
  | .inr z => .str z
inductive DpX (K : PySem.W.Frag) (H : Hp) : V → PyData → Prop
  | of {v : V} {d : PyData} : Dp K H v d → DpX K H v d
  | dic {a : Addr} {kvs : List (Key × V)} : H a = some (.dK kvs) → (∀ e ∈ kvs, Flat e.2) → DpX K H (.ref a) (.dict (kvs.map fun e => (keyDat e.1, toD e.2)))
structure ShowsX (d : PyData) : Prop where
  short : d.leavesShort 13 = true
  sh : d.showable = true
  dp : d.depth ≤ 60
  wt : d.weight ≤ 2 ^ 20
theorem reads_flat {h : Heap} : ∀ {v : V} {u : Value}, Flat v → RelV v u → Reads h u (toD v) []
  | .int i, _, _, r => by obtain ⟨t, rfl⟩ := r; exact .int i t
  | .str z, _, _, r => by obtain ⟨t, rfl⟩ := r; exact .str z t
  | .bl b, _, _, r => by cases r; exact .bool b
  | .non, _, _, r => by cases r; exact .none
  | .ref _, _, f, _ => by cases f
  | .ty _, _, f, _ => by cases f
  | .byt _, _, f, _ => by cases f
  | .flt _, _, f, _ => by cases f
theorem reads_entries {h : Heap} {P : Program} {w : World} : ∀ {es : List DictEntry} {kvs : List (Key × V)} {vs : List (Key × Value)}, KV kvs vs → Pairs (mixKind P w) es vs → (∀ e ∈ kvs, Flat e.2) →
    ReadsAll h (es.map (·.key)) (kvs.map fun e => keyDat e.1) [] ∧ ReadsAll h (es.map (·.val)) (kvs.map fun e => toD e.2) []
  | _, [], _, r, p, _ => by
    cases r
    cases p
    exact ⟨.nil, .nil⟩
  | _, kv :: kvs, _, r, p, f => by
    cases r with
    | @cons _ q _ qs h1 h2 =>
      cases p with
      | @cons e _ es _ p1 p2 p3 =>
        obtain ⟨i1, i2⟩ := reads_entries (h := h) h2 p3 fun e he => f e (List.mem_cons_of_mem _ he)
        have k0 : Reads h e.key (keyDat kv.1) [] := by
          rw [h1.1]
          rcases keyIs_shape p1 with ⟨i, t, e1, e2⟩ | ⟨x, t, e1, e2⟩
          · rw [e1, e2]; exact .int i t
          · rw [e1, e2]; exact .str x t
        have v0 : Reads h e.val (toD kv.2) [] := by
          rw [p2]
          exact reads_flat (f kv List.mem_cons_self) h1.2
        exact ⟨ReadsAll.cons (as := []) (bs := []) k0 i1, ReadsAll.cons (as := []) (bs := []) v0 i2⟩
def rReprX (K : PySem.W.Frag) : List V → Hp → VK → Prop := fun xs H Q => ∃ v d, xs = [v] ∧ DpX K H v d ∧ ShowsX d ∧ Q (.str d.shown) H
theorem dp_nodict {K : PySem.W.Frag} {H : Hp} : ∀ {v : V} {d : PyData}, Dp K H v d → d.hasDict = false := by
  intro v d h
  have all : ∀ n (d : PyData) (v : V), sizeOf d ≤ n → Dp K H v d → d.hasDict = false := by
    intro n
    induction n with
    | zero => intro d v hn _; cases d <;> simp at hn
    | succ n ih =>
      have lst : ∀ (ds : List PyData) (vs : List V), sizeOf ds ≤ n → DpAll K H vs ds → PyData.hasDictAll ds = false := by
        intro ds
        induction ds with
        | nil => intro vs _ _; rfl
        | cons d ds ih2 =>
          intro vs hn h
          cases h with
          | cons h1 h2 =>
            simp only [PyData.hasDictAll, Bool.or_eq_false_iff]
            have e : sizeOf (d :: ds) = 1 + sizeOf d + sizeOf ds := by simp
            exact ⟨ih d _ (by omega) h1, ih2 _ (by omega) h2⟩
      intro d v hn h
      cases h with
      | non => rfl
      | bl _ => rfl
      | int _ => rfl
      | str _ => rfl
      | @lst _ _ ds _ ha =>
        simp only [PyData.hasDict]
        have e : sizeOf (PyData.list ds) = 1 + sizeOf ds := by simp
        exact lst _ _ (by omega) ha
      | @tup _ _ ds _ ha =>
        simp only [PyData.hasDict]
        have e : sizeOf (PyData.tuple ds) = 1 + sizeOf ds := by simp
        exact lst _ _ (by omega) ha
  exact all _ d v (Nat.le_refl _) h
theorem call_reprX {X : Cx} (hg : X.A.guards = some []) (hu : X.A.units + 64 < cLine) : CallR X (.builtin "repr") (rReprX X.K) := by
  intro pins s σ H xs us Q I r h
  obtain ⟨v, d, rfl, hd, S, q⟩ := h
  have fits := PyData.shown_fits (by decide) (by decide) S.short S.wt
  have hdp := S.dp
  cases r with
  | cons r1 r2 =>
    cases r2
    cases hd with
    | of hd =>
      cases hd with
      | non =>
        cases r1
        exact PySem.P.repr_of_none ⟨.str _, H, I.tok _, ⟨_, rfl⟩, q⟩
      | bl b =>
        cases r1
        exact PySem.P.repr_of_bool ⟨.str _, H, I.tok _, ⟨_, rfl⟩, q⟩
      | int i =>
        obtain ⟨t, rfl⟩ := r1
        exact PySem.P.repr_of_int (by simpa only [PyData.showable, decide_eq_true_eq] using S.sh) ⟨.str _, H, I.tok _, ⟨_, rfl⟩, q⟩
      | str z =>
        obtain ⟨t, rfl⟩ := r1
        exact PySem.P.repr_of_str ⟨.str _, H, I.tok _, ⟨_, rfl⟩, q⟩ fits
      | lst hs ha =>
        obtain ⟨as, rd⟩ := Dp.reads I _ _ _ (.lst hs ha) r1
        cases r1
        exact repr_of_reads' rd S.sh (fun z => by rw [dp_nodict (.lst hs ha)] at z; cases z) hg (by omega) (fun _ _ e => e) (fun h' u tk hk => ⟨.str _, H, I.kept hk, ⟨u, rfl⟩, q⟩) fits
      | tup hs ha =>
        obtain ⟨as, rd⟩ := Dp.reads I _ _ _ (.tup hs ha) r1
        cases r1
        exact repr_of_reads' rd S.sh (fun z => by rw [dp_nodict (.tup hs ha)] at z; cases z) hg (by omega) (fun _ _ e => e) (fun h' u tk hk => ⟨.str _, H, I.kept hk, ⟨u, rfl⟩, q⟩) fits
    | @dic a kvs ha hf =>
      cases r1
      obtain ⟨_, ne, vs, kv, o, es, ep, e1, ex, e2, _, e3, _⟩ := dk_of I.hok ha
      obtain ⟨a1, a2⟩ := reads_entries (h := s.heap) kv e3 hf
      have rd := Reads.dict (kvs := kvs.map fun e => (keyDat e.1, toD e.2)) (as := []) (bs := []) e1 ex.1 e2 (by rw [List.map_map]; exact a1) (by rw [List.map_map]; exact a2)
      refine repr_of_reads' rd S.sh (fun _ m => ?_) hg (by omega) (fun _ _ e => e) (fun h' u tk hk => ⟨.str _, H, I.kept hk, ⟨u, rfl⟩, q⟩) fits
      have m := List.mem_singleton.mp m
      rw [← m] at ne
      simp at ne
end Sk

set_option Elab.async false
set_option maxRecDepth 100000
set_option maxHeartbeats 4000000
namespace Sk
open PySem PySem.Spec L2 PyProof.Rows
/-- a walk over a list that stays: any step -/
theorem itl_W {K : PySem.W.Frag} {a : Addr} {xs : List V} {H1 : Hp} {F : Hp → Prop} {Step : V → Hp → (Hp → Prop) → Prop} (Pv : Nat → Hp → Prop) (h0 : Pv 0 H1) (hl : ∀ i H, i ≤ xs.length → Pv i H → SqL K H a xs)
    (hs : ∀ i x H, xs[i]? = some x → Pv i H → Step x H (Pv (i + 1))) (hd : ∀ H, Pv xs.length H → F H) :
    ∃ W : Nat → Nat → Hp → Prop, (∃ m, W 0 m H1) ∧ ∀ i m H, W i m H → ((Itl K a).stop i H ∧ F H) ∨
      ((Itl K a).go i H ∧ ∃ Nx : Hp → Prop, (∀ H', Nx H' → ∃ m', m' < m ∧ W (i + 1) m' H') ∧ ∀ x H', (Itl K a).yld i H x H' → Step x H' Nx) := by
  refine ⟨fun i m H => m = xs.length - i ∧ i ≤ xs.length ∧ Pv i H, ⟨xs.length, rfl, Nat.zero_le _, h0⟩, ?_⟩
  rintro i m H ⟨rfl, hi, p⟩
  have q := hl i H hi p
  by_cases c : i < xs.length
  · refine .inr ⟨⟨xs, xs[i], q, List.getElem?_eq_getElem c⟩, Pv (i + 1), fun H' p' => ⟨xs.length - (i + 1), by omega, rfl, c, p'⟩, fun x H' y => ?_⟩
    obtain ⟨rfl, y⟩ := y
    exact hs i x _ (y xs q) p
  · have e : i = xs.length := by omega
    subst e
    exact .inl ⟨⟨xs, q, Nat.le_refl _⟩, hd H p⟩
/-! ### the one sorted list of some texts -/
def leS (a b : Str) : Prop := ¬ (b.cps.toList < a.cps.toList)
theorem rising_pw : ∀ (l : List Str) (x : Str), risingS x l = true → (x :: l).Pairwise leS
  | [], x, _ => by simp
  | y :: l, x, h => by
    have h2 : leS x y ∧ risingS y l = true := by
      unfold risingS at h
      simp only [Bool.and_eq_true, Bool.not_eq_true', decide_eq_false_iff_not] at h
      first
        | exact ⟨h.1, h.2⟩
        | (refine ⟨?_, h.2⟩; intro z; have := h.1; rw [ltCps_eq, decide_eq_false_iff_not] at this; exact this z)
    have ih := rising_pw l y h2.2
    refine List.pairwise_cons.mpr ⟨fun z hz => ?_, ih⟩
    rcases List.mem_cons.mp hz with rfl | hz
    · exact h2.1
    · have h3 := (List.pairwise_cons.mp ih).1 z hz
      intro q
      rcases Std.lt_trichotomy y.cps.toList x.cps.toList with c | c | c
      · exact h2.1 c
      · exact h3 (by rw [c]; exact q)
      · exact h3 (List.lt_trans q c)
theorem sorted_pw {l : List Str} (h : sortedS l = true) : l.Pairwise leS := by
  cases l with
  | nil => exact .nil
  | cons x r => exact rising_pw r x h
def Canon (ks ps : List Str) : Prop := sortedS ks = true ∧ ks.Nodup ∧ ∀ z, z ∈ ks ↔ z ∈ ps
theorem canon_one {ks ls ps : List Str} (h : Canon ks ps) (h' : Canon ls ps) : ks = ls := by
  have p : ks.Perm ls := (List.perm_ext_iff_of_nodup h.2.1 h'.2.1).mpr fun z => (h.2.2 z).trans (h'.2.2 z).symm
  refine p.eq_of_pairwise (le := leS) (fun a b _ _ h1 h2 => ?_) (sorted_pw h.1) (sorted_pw h'.1)
  have e : a.cps.toList = b.cps.toList := by
    rcases Std.lt_trichotomy a.cps.toList b.cps.toList with c | c | c
    · exact absurd c h2
    · exact c
    · exact absurd c h1
  cases a
  cases b
  congr 1
  exact Array.toList_inj.mp e
end Sk

set_option Elab.async false
set_option maxRecDepth 100000
set_option maxHeartbeats 4000000
namespace Sk
open PySem PySem.Spec L2 PyProof.Rows
/-- name = {key: value for ..}, where the name's place is reused -/
theorem ps_setDc {X : Cx} {slot : Nat} {nm : Str} {np sp pos : Pos} {ke ve tg it : Expr} {sc : Scope} {own : List (Str × Nat)} {wi : TI} {g : TG} {tk tv : TE}
    (calm : X.calm = true) (nd : X.N.Nodup) (sl : X.N[slot]? = some nm) (lo : X.env.scope.names.lookup nm = some .local)
    (sw : swapsWith (.DictComp ke ve [⟨tg, it, [], 0⟩] sc pos) (some (.Name nm np)) sp.line X.env = pure true) (walk : PI X tg it wi) (ok : BlkOk X.N X.env.scope sc own)
    (hg : InBlk X sc fun Y => PG Y tg g) (hk : InBlk X sc fun Y => PE Y ke tk) (hv : InBlk X sc fun Y => PE Y ve tv) (hs : ∀ x, foldedSetIterable it X.env x = pure x := by intro _; rfl) :
    PS X (.Assign [.Name nm np] (.DictComp ke ve [⟨tg, it, [], 0⟩] sc pos) sp) (tAsg (tDc wi g tYes tk tv (own.map (·.2))) (gName slot)) := by
  refine ⟨fun pins s σ H D I want => ?_⟩
  rw [exec_Assign_Name_used _ _ _ _ sw]
  refine wpAny_bind (wpAny_standAt (wpAny_bind ?_))
  have want : tDc wi g tYes tk tv (own.map (·.2)) σ H (fun x Hx => gName slot x σ Hx D.nx) := want
  show wpAny _ X.A (comprehension (.DictComp ke ve [⟨tg, it, [], 0⟩] sc pos) sc X.env (firstIterPos [⟨tg, it, [], 0⟩] pos) newDict false (eval it X.env) (some (assign (.Name nm np) X.env)) >>= fun _ => pure ()) _ _ s
  refine wpAny_bind (thn (dc_core (Qf := fun _ t => SP X pins D .next t) calm nd I walk ok hg (fun _ _ _ _ _ => pts_nil) hk hv hs want fun L C t m Hx J q hn fo => ?_) fun _ t z => wpAny_pure (wpAny_pure z))
  show wpAny _ _ (assign (.Name nm np) X.env (.ref L)) _ _ _
  refine wpAny_assign_Name (store_ok2 (v := V.ref L) J nd sl (.inl lo) rfl (fun t2 J2 ⟨a, same, at_⟩ => ?_) (.inr lo))
  obtain ⟨c0, c1, c2, c3, c4, c5⟩ := fo
  have apart : C ≠ a := by
    rcases at_ with z | z
    · rw [z]
      exact c1
    · exact fun e => c4 nm a z e.symm
  exact ⟨m, hn.sameBut same apart, fun h3 same3 => ⟨_, Hx, J2.turned (t' := t2.toks) (fun b o hb e => (same3.2 b hb).trans e) c0 c1 c3 c4 c5, q⟩⟩
theorem sw_dict {ke ve : Expr} {gs : List Comprehension} {sc : Scope} {pos np : Pos} {nm : Str} {l : Nat} {env : Env} (fn : env.scope.kind = .function) (lo : env.scope.names.lookup nm = some .local) (ln : (np.line == pos.line) = true)
    (no : (sc.names.any fun (n, k) => n == nm && (k == .local || k == .cell)) = false) : swapsWith (.DictComp ke ve gs sc pos) (some (.Name nm np)) l env = pure true := by
  have ky : env.kindOf nm = some .local := lo
  have bk : env.blockKind = .function := by
    unfold Env.blockKind
    rw [fn]
    rfl
  unfold swapsWith
  simp only [bk, ky, no, Expr.pos, ln]
  rfl
end Sk

set_option Elab.async false
set_option maxRecDepth 100000
set_option maxHeartbeats 4000000
namespace Sk
open PySem L2 PyProof.Rows
def top (i : Nat) : Stmt := PySem.Challenge.pw_stockcounts_k05_records_by_name.main.body.getD i (.Pass ⟨0, 0, 0, 0⟩)
structure Df (K : PySem.W.Frag) (mg : Str → Option Value) (x : Str) (st : Stmt) (f : Addr) (fd : FuncData) : Prop where
  F : Fun K x x st f fd
  g : mg x = some (.ref f)
structure Bi (mg : Str → Option Value) : Prop where
  len : mg "len" = none
  range : mg "range" = none
  max : mg "max" = none
  min : mg "min" = none
  repr : mg "repr" = none
  isinstance : mg "isinstance" = none
  int_ : mg "int" = none
  bool_ : mg "bool" = none
  str_ : mg "str" = none
  tuple_ : mg "tuple" = none
  list_ : mg "list" = none
  all : mg "all" = none
  sorted : mg "sorted" = none

theorem urn_turn {m e : Int} (h0 : 0 ≤ m) (h1 : m < 2 ^ 32) (he : Builtin.Int.intBits e ≤ 1048576) : CMul m 70001 ∧ CMulX e e ∧ CPowX (m * 70001 + e * e + 37) 2 := by
  have hn : e.natAbs < 2 ^ 1048576 := by
    by_cases z : e = 0
    · subst z
      exact Nat.pow_pos (by decide)
    · have z' : e.natAbs ≠ 0 := by omega
      refine (Nat.log2_lt z').mp ?_
      unfold Builtin.Int.intBits at he
      rw [if_neg (by simpa using z)] at he
      omega
  have hb : ∀ x : Int, x.natAbs < 2 ^ 3000000 → Builtin.Int.intBits x ≤ 3000000 := fun x h => intBits_lt h
  refine ⟨Or.inr ⟨by decide, by decide⟩, ?_, by decide, ?_⟩
  · intro z
    rw [Bool.and_eq_true] at z
    have z2 := z.2
    unfold Builtin.Int.intTooBig at z2
    have z3 := of_decide_eq_true z2
    have e1 : bitsLine = 134217728 := by decide
    rw [e1] at z3
    omega
  · have hm : (m * 70001 + e * e + 37).natAbs < 2 ^ 3000000 := by
      have t1 : (e * e).natAbs < 2 ^ (1048576 + 1048576) := wide_lt hn hn
      have t2 : (m * 70001 + 37).natAbs < 2 ^ 64 := by omega
      have t3 : (2 : Nat) ^ 64 ≤ 2 ^ (1048576 + 1048576) := Nat.pow_le_pow_right (by decide) (by decide)
      have t4 : (2 : Nat) ^ (1048576 + 1048576 + 1) ≤ 2 ^ 3000000 := Nat.pow_le_pow_right (by decide) (by decide)
      rw [Nat.pow_succ] at t4
      have t5 : (m * 70001 + e * e + 37).natAbs ≤ (m * 70001 + 37).natAbs + (e * e).natAbs := by omega
      generalize (2 : Nat) ^ (1048576 + 1048576) = A at *
      generalize (2 : Nat) ^ 3000000 = B at *
      omega
    have := hb _ hm
    show (Builtin.Int.intBits (m * 70001 + e * e + 37) : Int) * 2 ≤ 134217728
    omega
theorem mod_bd (x : Int) {k : Int} (hk : 0 < k) : 0 ≤ x % k ∧ x % k < k := ⟨Int.emod_nonneg _ (by omega), Int.emod_lt_of_pos _ hk⟩
section
variable {P : Program} {w : World} {K : PySem.W.Frag} {mg : Str → Option Value} {base : Heap}
abbrev s_urn : Stmt := top 30
abbrev N_urn : List Str := ["script", "start", "mixed", "entry", "digits"]
abbrev P_urn : List Str := ["script", "start"]
theorem sc_urn : FnScope N_urn P_urn (defScope s_urn) := ⟨rfl, rfl, rfl, by decide +kernel, rfl, by decide +kernel, by decide +kernel⟩
theorem bi_urn {f : Addr} {fd : FuncData} {x : Str} {K : PySem.W.Frag} (F : Fun K x x s_urn f fd) : Binds K fd P_urn [] :=
  F.binds fun _ _ _ _ _ _ us hl => match us, hl with | [_, _], _ => rfl
theorem ok_urn {f : Addr} {fd : FuncData} (D : Df K mg "_law_urn" s_urn f fd) (T : Bi mg) : FnOk P w K mg base CX0 2 f fd P_urn (spUrn K) := by
  refine D.F.ok sc_urn (fun vs H Q E h => ?_) (fun cdv A outer s H vs Q E hr h => ?_)
  · obtain ⟨a, st, ns, rfl, _⟩ := h
    rfl
  · obtain ⟨a, st, ns, rfl, hS, hst, hbits, k⟩ := h
    have hu := hu_of hr
    refine ⟨_, (pss_cons (ps_set (i := 2) sc_urn.nd rfl (Or.inl rfl) (pe_op op_add pe_int (pe_op op_mul (pv 1) pe_int)))
      (pss_cons (ps_for PassesOwn.never rfl (pi_list (pv 0)) (pg_name (i := 3) sc_urn.nd rfl (Or.inl rfl))
      (pss_one (ps_set (i := 2) sc_urn.nd rfl (Or.inl rfl) (pe_op op_add (pe_op op_mod (pe_op op_powX (pe_op op_add (pe_op op_add (pe_op op_mul (pv 2) pe_int) (pe_op op_mulX (pv 3) (pv 3))) pe_int) pe_int) pe_int) pe_int))))
      (pss_cons (ps_set (i := 4) sc_urn.nd rfl (Or.inl rfl) (pe_ifExp (PW.pt (pw_and (pt_cmpR op_lt (pv 1) (pe_callB (call_len_seq) (by rfl) T.len PySem.boot_len (pa_cons (pv 0) pa_nil)) (nomark _)) (pw_and1 (pt_cmpR op_ge (pe_ix ix_list (pv 0) (pv 1) (fun _ _ => rfl)) (pe_op op_pow pe_int pe_int) (nomark _))))) (pe_op op_sub (pe_ix ix_list (pv 0) (pv 1) (fun _ _ => rfl)) (pe_op op_pow pe_int pe_int)) pe_int))
      (pss_one (ps_ret (pe_disp (pps_cons pe_str (pv 4) (pps_cons pe_str (pv 2) pps_nil)) (by rfl) (by rfl) (fun z => by cases z) (by decide))))))), ?_⟩
    refine ⟨_, rfl, _, _, rfl, rfl, Or.inl ⟨by omega, by omega⟩, _, _, rfl, rfl, ?_⟩
    refine ⟨_, rfl, a, rfl, ⟨_, hS⟩, for_list (K := K) (a := a) (xs := ns.map V.int) (fun i σ H' => ∃ (m : Int) (v : Option V), σ = [some (.ref a), some (.int (st : Int)), some (.int m), v, none] ∧ H' = H ∧ 0 ≤ m ∧ m < 2 ^ 32)
      ⟨_, none, rfl, rfl, by omega, by omega⟩ (fun i σ H' _ ⟨_, _, _, e, _⟩ => by rw [e]; exact hS) ?_ ?_⟩
    · rintro i y σ H' hi ⟨m, v, rfl, rfl, h0, h1⟩
      obtain ⟨z, hz, rfl⟩ : ∃ z, z ∈ ns ∧ y = V.int z := by
        obtain ⟨z, hz, e⟩ := List.mem_map.mp (List.mem_of_getElem? hi)
        exact ⟨z, hz, e.symm⟩
      obtain ⟨c1, c2, c3⟩ := urn_turn h0 h1 (hbits z hz)
      refine ⟨_, rfl, _, _, rfl, rfl, c1, _, rfl, _, rfl, _, _, rfl, rfl, c2, _, _, rfl, rfl, _, _, rfl, rfl, _, _, rfl, rfl, c3, _, _, rfl, rfl, (by show (0 : Int) < 2147483489; decide), _, _, rfl, rfl, ?_⟩
      obtain ⟨b0, b1⟩ := mod_bd ((m * 70001 + z * z + 37) ^ (2 : Int).toNat) (k := 2147483489) (by decide)
      refine ⟨_, some (.int z), rfl, rfl, ?_, ?_⟩ <;> omega
    · rintro σ H' ⟨m, v, rfl, rfl, h0, h1⟩
      have fin : ∀ dg : Int, 0 ≤ dg → ∀ (p : Addr), H' p = none → Q (.ref p) (upd (upd H' p (.dK [])) p (urnO dg m)) := fun dg hd p hp => by
        refine k p _ hp (fun b o e => ?_) ⟨dg, m, upd_same, hd, h0, h1⟩
        rw [upd_ne (ne_of_none e hp), upd_ne (ne_of_none e hp)]
        exact e
      -- digits
      refine ⟨_, rfl, _, rfl, a, _, rfl, .inl hS, _, _, rfl, rfl, _, rfl, ?_⟩
      refine ite2 (fun c => ?_) (fun c => ?_)
      · have c := of_decide_eq_true c
        rw [List.length_map] at c
        obtain ⟨n, hn⟩ : ∃ n, ns[st]? = some n := ⟨ns[st]'(by omega), by simp⟩
        have ha : atI (ns.map V.int) (st : Int) = some (.int n) := atI_nat (by rw [List.getElem?_map, hn]; rfl)
        refine ⟨_, rfl, _, rfl, a, _, _, _, rfl, rfl, hS, ha, _, _, rfl, rfl, ⟨by decide, by decide, by decide⟩, _, _, rfl, rfl, _, rfl, ?_⟩
        refine ite2 (fun c2 => ?_) (fun c2 => ?_)
        · have c2 := of_decide_eq_true c2
          refine ⟨_, rfl, _, rfl, a, _, _, _, rfl, rfl, hS, ha, _, _, rfl, rfl, ⟨by decide, by decide, by decide⟩, _, _, rfl, rfl, ?_⟩
          intro p hp
          refine ⟨_, rfl, _, rfl, upd_same, [(Sum.inr "digits", _), (Sum.inr "mixed", _)], rfl, (by show 2 ≤ 15; decide), ?_⟩
          exact fin _ (by omega) p hp
        · intro p hp
          refine ⟨_, rfl, _, rfl, upd_same, [(Sum.inr "digits", _), (Sum.inr "mixed", _)], rfl, (by show 2 ≤ 15; decide), ?_⟩
          exact fin 0 (by omega) p hp
      · refine iteF ?_
        intro p hp
        refine ⟨_, rfl, _, rfl, upd_same, [(Sum.inr "digits", _), (Sum.inr "mixed", _)], rfl, (by show 2 ≤ 15; decide), ?_⟩
        exact fin 0 (by omega) p hp
abbrev s_draw : Stmt := top 31
abbrev N_draw : List Str := ["urn", "size", "found"]
abbrev P_draw : List Str := ["urn", "size"]
theorem sc_draw : FnScope N_draw P_draw (defScope s_draw) := ⟨rfl, rfl, rfl, by decide +kernel, rfl, by decide +kernel, by decide +kernel⟩
theorem bi_draw {f : Addr} {fd : FuncData} {x : Str} {K : PySem.W.Frag} (F : Fun K x x s_draw f fd) : Binds K fd P_draw [] :=
  F.binds fun _ _ _ _ _ _ us hl => match us, hl with | [_, _], _ => rfl
theorem dm : ¬ (("digits" : Str) = "mixed") := by decide +kernel
theorem md : ¬ (("mixed" : Str) = "digits") := by decide +kernel
theorem put_d (dg mx z : Int) : putK ([(Sum.inr "digits", V.int dg), (Sum.inr "mixed", V.int mx)] : List (Key × V)) (Sum.inr "digits") (.int z) = ([(Sum.inr "digits", V.int z), (Sum.inr "mixed", V.int mx)] : List (Key × V)) := by
  first | rfl | decide +kernel | simp [putK]
theorem put_m (dg mx z : Int) : putK ([(Sum.inr "digits", V.int dg), (Sum.inr "mixed", V.int mx)] : List (Key × V)) (Sum.inr "mixed") (.int z) = ([(Sum.inr "digits", V.int dg), (Sum.inr "mixed", V.int z)] : List (Key × V)) := by
  first | rfl | decide +kernel | simp [putK, dm]
theorem val_d (dg mx : Int) : valV ([(Sum.inr "digits", V.int dg), (Sum.inr "mixed", V.int mx)] : List (Key × V)) (Sum.inr "digits") = some (.int dg) := by
  first | rfl | decide +kernel | simp [valV]
theorem val_m (dg mx : Int) : valV ([(Sum.inr "digits", V.int dg), (Sum.inr "mixed", V.int mx)] : List (Key × V)) (Sum.inr "mixed") = some (.int mx) := by
  first | rfl | decide +kernel | simp [valV, dm]
theorem get_d {H : Hp} {u : Addr} {dg mx : Int} (e : H u = some (urnO dg mx)) : DGet H u (.str "digits") (some (.int dg)) := by
  have h := DGet.k (k := (Sum.inr "digits" : Key)) e
  rw [val_d] at h
  exact h
theorem get_m {H : Hp} {u : Addr} {dg mx : Int} (e : H u = some (urnO dg mx)) : DGet H u (.str "mixed") (some (.int mx)) := by
  have h := DGet.k (k := (Sum.inr "mixed" : Key)) e
  rw [val_m] at h
  exact h
theorem dput_d {H : Hp} {u : Addr} {dg mx : Int} (z : Int) (e : H u = some (urnO dg mx)) : DPut H u (.str "digits") (.int z) (upd H u (urnO z mx)) := by
  have h := DPut.k (k := (Sum.inr "digits" : Key)) (v := .int z) e (by show 2 < sizeLine; decide)
  rw [put_d] at h
  exact h
theorem dput_m {H : Hp} {u : Addr} {dg mx : Int} (z : Int) (e : H u = some (urnO dg mx)) : DPut H u (.str "mixed") (.int z) (upd H u (urnO dg z)) := by
  have h := DPut.k (k := (Sum.inr "mixed" : Key)) (v := .int z) e (by show 2 < sizeLine; decide)
  rw [put_m] at h
  exact h
theorem ok_draw {f : Addr} {fd : FuncData} (D : Df K mg "_law_draw" s_draw f fd) : FnOk P w K mg base CX0 1 f fd P_draw spDraw := by
  refine D.F.ok sc_draw (fun vs H Q E h => ?_) (fun cdv A outer s H vs Q E hr h => ?_)
  · obtain ⟨u, n, rfl, _⟩ := h
    rfl
  · obtain ⟨u, n, rfl, ⟨dg, mx, e, d0, m0, m1⟩, n1, n2, k⟩ := h
    have hu := hu_of hr
    refine ⟨_, (pss_cons (ps_if (pt_cmpR op_ge (pe_dget hu (pv 0) pe_str (fun _ _ => rfl)) (pv 1) (nomark _)) (pss_cons (ps_set (i := 2) sc_draw.nd rfl (Or.inl rfl) (pe_op op_mod (pe_dget hu (pv 0) pe_str (fun _ _ => rfl)) (pv 1)))
        (pss_cons (ps_dput hu (pv 0) pe_str (pe_op op_fdiv (pe_dget hu (pv 0) pe_str (fun _ _ => rfl)) (pv 1)) rfl)
        (pss_one (ps_ret (pv 2))))) pss_nil)
      (pss_cons (ps_dput hu (pv 0) pe_str (pe_op op_mod (pe_op op_add (pe_op op_mul (pe_dget hu (pv 0) pe_str (fun _ _ => rfl)) pe_int) pe_int) pe_int) rfl)
      (pss_one (ps_ret (pe_op op_mod (pe_op op_fdiv (pe_op op_mod (pe_op op_pow (pe_op op_mod (pe_op op_pow (pe_dget hu (pv 0) pe_str (fun _ _ => rfl)) pe_int) pe_int) pe_int) pe_int) pe_int) (pv 1)))))), ?_⟩
    refine ⟨_, rfl, u, _, rfl, get_d e, _, rfl, _, _, rfl, rfl, _, rfl, ?_⟩
    refine ite2 (fun c => ?_) (fun c => ?_)
    · refine ⟨_, rfl, u, _, rfl, get_d e, _, rfl, _, _, rfl, rfl, (by show 0 < n; omega), ?_⟩
      refine ⟨_, rfl, u, _, rfl, get_d e, _, rfl, _, _, rfl, rfl, ⟨by omega, by omega⟩, _, rfl, u, _, rfl, dput_d _ e, _, rfl, ?_⟩
      obtain ⟨b0, b1⟩ := mod_bd dg (k := n) (by omega)
      exact k _ _ b0 b1 ⟨_, mx, upd_same, Int.ediv_nonneg d0 (by omega), m0, m1⟩ Mo.at
    · refine ⟨_, rfl, u, _, rfl, get_m e, _, _, rfl, rfl, Or.inl ⟨by omega, by omega⟩, _, _, rfl, rfl, _, _, rfl, rfl, (by show (0 : Int) < 2147483647; decide), _, rfl, u, _, rfl, dput_m _ e, ?_⟩
      obtain ⟨b0, b1⟩ := mod_bd (mx * 45991 + 6043) (k := 2147483647) (by decide)
      obtain ⟨c0, c1⟩ := mod_bd (((mx * 45991 + 6043) % 2147483647) ^ (2 : Int).toNat) (k := 2147483587) (by decide)
      refine ⟨_, rfl, u, _, rfl, get_m (dg := dg) upd_same, _, _, rfl, rfl, ⟨by decide, by decide, by omega⟩, _, _, rfl, rfl, (by show (0 : Int) < 2147483587; decide), _, _, rfl, rfl, ⟨by decide, by decide, by omega⟩,
        _, _, rfl, rfl, (by show (0 : Int) < 1000000021; decide), _, _, rfl, rfl, ⟨by decide, by decide⟩, _, rfl, _, _, rfl, rfl, (by show 0 < n; omega), ?_⟩
      obtain ⟨g0, g1⟩ := mod_bd ((((((mx * 45991 + 6043) % 2147483647) ^ (2 : Int).toNat) % 2147483587) ^ (3 : Int).toNat) % 1000000021 / 17) (k := n) (by omega)
      exact k _ _ g0 g1 ⟨dg, _, upd_same, d0, b0, by omega⟩ Mo.at
abbrev s_choose : Stmt := top 32
abbrev N_choose : List Str := ["urn", "things"]
abbrev P_choose : List Str := ["urn", "things"]
theorem sc_choose : FnScope N_choose P_choose (defScope s_choose) := ⟨rfl, rfl, rfl, by decide +kernel, rfl, by decide +kernel, by decide +kernel⟩
theorem bi_choose {f : Addr} {fd : FuncData} {x : Str} {K : PySem.W.Frag} (F : Fun K x x s_choose f fd) : Binds K fd P_choose [] :=
  F.binds fun _ _ _ _ _ _ us hl => match us, hl with | [_, _], _ => rfl
theorem ok_choose {f f1 : Addr} {fd fd1 : FuncData} (D : Df K mg "_law_choose" s_choose f fd) (D_draw : Df K mg "_law_draw" s_draw f1 fd1) (T : Bi mg) : FnOk P w K mg base CX0 2 f fd P_choose spChoose := by
  have G_draw := ok_draw (P := P) (w := w) (base := base) D_draw
  have b_draw := bi_draw D_draw.F
  refine D.F.ok sc_choose (fun vs H Q E h => ?_) (fun cdv A outer s H vs Q E hr h => ?_)
  · obtain ⟨u, l, xs, rfl, _⟩ := h
    rfl
  · obtain ⟨u, l, xs, rfl, U, hl, n1, n2, k⟩ := h
    refine ⟨_, (pss_one (ps_ret (pe_ix ix_list (pv 1) (pe_call G_draw (hr.mono (by decide)) rfl D_draw.g D_draw.F.kp b_draw .nil pass0 (pa_cons (pv 0) (pa_cons (pe_callB (call_len_seq) (by rfl) T.len PySem.boot_len (pa_cons (pv 1) pa_nil)) pa_nil))) (fun _ _ => rfl)))), ?_⟩
    refine ⟨_, rfl, _, rfl, _, rfl, l, _, rfl, .inl (.of hl), u, _, rfl, U, by omega, by omega, fun r H' r0 r1 U' m => ?_⟩
    obtain ⟨j, rfl⟩ : ∃ j : Nat, r = (j : Int) := ⟨r.toNat, by omega⟩
    have hj : j < xs.length := by omega
    refine ⟨l, xs, _, _, rfl, rfl, .of (U.lst m hl), atI_nat (List.getElem?_eq_getElem hj), ?_⟩
    exact k _ _ (List.getElem_mem hj) U' m
end
end Sk

set_option Elab.async false
set_option maxRecDepth 100000
set_option maxHeartbeats 4000000
namespace Sk
open PySem L2 PyProof.Rows

structure Cs (mg : Str → Option Value) : Prop where
  out : ∃ t, mg "OUTSIDE" = some (.str "-" t)
  long : ∃ t, mg "LONGEST_PLACE" = some (.int 8 t)
  part : ∃ t, mg "GREATEST_PART" = some (.int 1000000 t)
  wt : ∃ t, mg "GREATEST_WEIGHT" = some (.int 1000 t)
  cost : ∃ t, mg "GREATEST_COST" = some (.int 1000 t)
  mv : ∃ t, mg "PARTS_OF_MOVE" = some (.int 6 t)
  ct : ∃ t, mg "PARTS_OF_COUNT" = some (.int 5 t)
def anyB (_ : PyData) : Bool := true
/-- a test of one value: it answers f of the data and leaves what stood -/
def spB (K : PySem.W.Frag) (ok f : PyData → Bool) : Sp := fun vs H Q _ => ∃ (v : V) (d : PyData), vs = [v] ∧ Dp K H v d ∧ ok d = true ∧ ∀ H', Same H H' → Q (.bl (f d)) H'
def spWithin (K : PySem.W.Frag) : Sp := fun vs H Q _ => ∃ (v : V) (d : PyData) (a b : Int), vs = [v, .int a, .int b] ∧ Dp K H v d ∧ ∀ H', Same H H' → Q (.bl (withinB d a b)) H'
def spParts (K : PySem.W.Frag) : Sp := fun vs H Q _ => ∃ (v : V) (d : PyData) (n : Nat), vs = [v, .int (n : Int)] ∧ Dp K H v d ∧ 2 ≤ n ∧ ∀ H', Same H H' → Q (.bl (partsB d n)) H'
/-- the i-th item (from the front, or -i from the back) -/
def spItem (K : PySem.W.Frag) (i : Int) : Sp := fun vs H Q _ => ∃ (p : Addr) (xs : List V) (v : V), vs = [.ref p] ∧ SqT K H p xs ∧ atI xs i = some v ∧ Q v H
def shortB : PyData → Bool
  | .str z => decide (z.length ≤ 1000)
  | _ => true
section
variable {P : Program} {w : World} {K : PySem.W.Frag} {mg : Str → Option Value} {base : Heap}
abbrev s_integer : Stmt := top 1
abbrev N_integer : List Str := ["value"]
abbrev P_integer : List Str := ["value"]
theorem sc_integer : FnScope N_integer P_integer (defScope s_integer) := ⟨rfl, rfl, rfl, by decide +kernel, rfl, by decide +kernel, by decide +kernel⟩
theorem bi_integer {f : Addr} {fd : FuncData} {x : Str} {K : PySem.W.Frag} (F : Fun K x x s_integer f fd) : Binds K fd P_integer [] :=
  F.binds fun _ _ _ _ _ _ us hl => match us, hl with | [_], _ => rfl
theorem ok_integer {f : Addr} {fd : FuncData} (D : Df K mg "is_integer" s_integer f fd) (T : Bi mg) : FnOk P w K mg base CX0 1 f fd P_integer (spB K anyB intB) := by
  refine D.F.ok sc_integer (fun vs H Q E h => ?_) (fun cdv A outer s H vs Q E hr h => ?_)
  · obtain ⟨v, d, rfl, _⟩ := h
    rfl
  · obtain ⟨v, d, rfl, hd, _, k⟩ := h
    refine ⟨_, (pss_one (ps_ret (pe_and (pe_callB call_isi (by rfl) T.isinstance PyProof.Rows.boot_isinstance (pa_cons (pv 0) (pa_cons (pe_bltn (v := .ty "int") (by rfl) T.int_ (by decide +kernel) rfl) pa_nil))) (pe_one (pe_not (pe_callB call_isi (by rfl) T.isinstance PyProof.Rows.boot_isinstance (pa_cons (pv 0) (pa_cons (pe_bltn (v := .ty "bool") (by rfl) T.bool_ (by decide +kernel) rfl) pa_nil)))))))), ?_⟩
    obtain ⟨t1, y1, k1⟩ := isi_fact (T := "int") hd (by decide)
    obtain ⟨t2, y2, k2⟩ := isi_fact (T := "bool") hd (by decide)
    have e : intB d = (isK d "int" && !isK d "bool") := by cases d <;> rfl
    have k := k H (Same.refl H)
    rw [e] at k
    refine ⟨_, rfl, _, _, _, _, _, rfl, .ty "int", y1, k1, _, rfl, ?_⟩
    generalize isK d "int" = b1 at *
    cases b1 with
    | false => exact iteF k
    | true => exact iteT ⟨_, rfl, _, _, _, _, _, rfl, .ty "bool", y2, k2, _, rfl, k⟩
abbrev s_within : Stmt := top 2
abbrev N_within : List Str := ["value", "least", "greatest"]
abbrev P_within : List Str := ["value", "least", "greatest"]
theorem sc_within : FnScope N_within P_within (defScope s_within) := ⟨rfl, rfl, rfl, by decide +kernel, rfl, by decide +kernel, by decide +kernel⟩
theorem bi_within {f : Addr} {fd : FuncData} {x : Str} {K : PySem.W.Frag} (F : Fun K x x s_within f fd) : Binds K fd P_within [] :=
  F.binds fun _ _ _ _ _ _ us hl => match us, hl with | [_, _, _], _ => rfl
theorem ok_within {f f1 : Addr} {fd fd1 : FuncData} (D : Df K mg "is_within" s_within f fd) (D_integer : Df K mg "is_integer" s_integer f1 fd1) (T : Bi mg) : FnOk P w K mg base CX0 2 f fd P_within (spWithin K) := by
  have G_integer := ok_integer (P := P) (w := w) (base := base) D_integer T
  have b_integer := bi_integer D_integer.F
  refine D.F.ok sc_within (fun vs H Q E h => ?_) (fun cdv A outer s H vs Q E hr h => ?_)
  · obtain ⟨v, d, a, b, rfl, _⟩ := h
    rfl
  · obtain ⟨v, d, a, b, rfl, hd, k⟩ := h
    refine ⟨_, (pss_one (ps_ret (pe_and (pe_call G_integer (hr.mono (by decide)) rfl D_integer.g D_integer.F.kp b_integer .nil pass0 (pa_cons (pv 0) pa_nil)) (pe_one (pe_chain op_le op_le (pv 1) (pv 0) (pv 2)))))), ?_⟩
    refine ⟨_, rfl, v, d, rfl, hd, rfl, fun H1 s1 => ⟨_, rfl, ?_⟩⟩
    have k := k H1 s1
    cases hd with
    | int i =>
      refine iteT ⟨_, rfl, _, rfl, _, _, rfl, rfl, _, rfl, ?_⟩
      have e : withinB (.int i) a b = (decide (a ≤ i) && decide (i ≤ b)) := rfl
      rw [e] at k
      generalize decide (a ≤ i) = b1 at *
      cases b1 with
      | false => exact iteF k
      | true => exact iteT ⟨_, rfl, _, _, rfl, rfl, k⟩
    | non => exact iteF k
    | bl _ => exact iteF k
    | str _ => exact iteF k
    | lst _ _ => exact iteF k
    | tup _ _ => exact iteF k
abbrev s_place : Stmt := top 11
abbrev N_place : List Str := ["value", "sign"]
abbrev P_place : List Str := ["value"]
theorem sc_place : FnScope N_place P_place (defScope s_place) := ⟨rfl, rfl, rfl, by decide +kernel, rfl, by decide +kernel, by decide +kernel⟩
theorem bi_place {f : Addr} {fd : FuncData} {x : Str} {K : PySem.W.Frag} (F : Fun K x x s_place f fd) : Binds K fd P_place [] :=
  F.binds fun _ _ _ _ _ _ us hl => match us, hl with | [_], _ => rfl
theorem low_le (c : Nat) : (!decide ([c] < ([97] : List Nat))) = decide (97 ≤ c) := by
  have : ([c] < ([97] : List Nat)) ↔ c < 97 := by simp [List.cons_lt_cons_iff]
  by_cases h : 97 ≤ c
  · have n : ¬ ([c] < ([97] : List Nat)) := fun z => by have := this.mp z; omega
    simp [n, h]
  · have y : ([c] < ([97] : List Nat)) := this.mpr (by omega)
    simp [y, h]
theorem low_ge (c : Nat) : (!decide (([122] : List Nat) < [c])) = decide (c ≤ 122) := by
  have : (([122] : List Nat) < [c]) ↔ 122 < c := by simp [List.cons_lt_cons_iff]
  by_cases h : c ≤ 122
  · have n : ¬ (([122] : List Nat) < [c]) := fun z => by have := this.mp z; omega
    simp [n, h]
  · have y : (([122] : List Nat) < [c]) := this.mpr (by omega)
    simp [y, h]
theorem all_map_id (l : List Nat) : ((l.map lowB).all id) = l.all lowB := by
  induction l with
  | nil => rfl
  | cons a l ih => simp only [List.map_cons, List.all_cons, ih, id]
theorem ok_place {f : Addr} {fd : FuncData} (D : Df K mg "is_place" s_place f fd) (T : Bi mg) (C : Cs mg) : FnOk P w K mg base CX0 1 f fd P_place (spB K shortB placeB) := by
  obtain ⟨t8, h_long⟩ := C.long
  refine D.F.ok sc_place (fun vs H Q E h => ?_) (fun cdv A outer s H vs Q E hr h => ?_)
  · obtain ⟨v, d, rfl, _⟩ := h
    rfl
  · obtain ⟨v, d, rfl, hd, sh, k⟩ := h
    refine ⟨_, (pss_cons (ps_if (pt_not (pt_val (pe_callB call_isi (by rfl) T.isinstance PyProof.Rows.boot_isinstance (pa_cons (pv 0) (pa_cons (pe_bltn (v := .ty "str") (by rfl) T.str_ (by decide +kernel) rfl) pa_nil))))) (pss_one (ps_ret pe_bl)) pss_nil)
      (pss_one (ps_ret (pe_and (pe_chain op_le op_le pe_int (pe_callB call_len (by rfl) T.len PySem.boot_len (pa_cons (pv 0) pa_nil)) (pe_glob (v := .int 8) rfl h_long ⟨_, rfl⟩)) (pe_one (pe_callB (cr_all rfl) (by rfl) T.all PyProof.Rows.boot_all (pa_cons (pe_lc (own := [("sign", 1)]) (g := gName 1) (tt := tYes) rfl sc_place.nd (pi_str (pv 0)) (blkOk_by (N := N_place) (sc := defScope s_place) (by decide +kernel)) (fun _ _ _ _ _ => pg_name (i := 1) sc_place.nd rfl (Or.inl rfl)) (fun _ _ _ _ _ => pts_nil) (fun _ _ _ _ _ => (pe_chain op_le_str op_le_str pe_str (pv 1) pe_str))) pa_nil))))))), ?_⟩
    obtain ⟨t1, y1, k1⟩ := isi_fact (T := "str") hd (by decide)
    refine ⟨_, rfl, _, _, _, _, _, rfl, .ty "str", y1, k1, _, rfl, ?_⟩
    have k0 := k H (Same.refl H)
    cases hd with
    | non => exact iteT k0
    | bl _ => exact iteT k0
    | int _ => exact iteT k0
    | lst _ _ => exact iteT k0
    | tup _ _ => exact iteT k0
    | str z =>
      have sz : z.length ≤ 1000 := of_decide_eq_true sh
      refine iteF ?_
      refine ⟨_, rfl, _, z.length, rfl, ⟨Nat.le_trans sz (by decide), rfl⟩, _, _, rfl, rfl, _, rfl, ?_⟩
      have e : ∀ H', Same H H' → Q (.bl ((decide (1 ≤ (z.length : Int)) && decide ((z.length : Int) ≤ 8)) && z.cps.toList.all lowB)) H' := k
      generalize decide (1 ≤ (z.length : Int)) = b1 at *
      cases b1 with
      | false => exact iteF ⟨_, rfl, iteF (e H (Same.refl H))⟩
      | true =>
        refine iteT ⟨_, _, rfl, rfl, _, rfl, ?_⟩
        generalize decide ((z.length : Int) ≤ 8) = b2 at *
        cases b2 with
        | false => exact iteF (e H (Same.refl H))
        | true =>
          refine iteT ⟨_, rfl, z, rfl, fun q hq => ?_⟩
          refine lc_text (fun i H' => H' = upd H q (.lst (((z.cps.toList.take i).map lowB).map V.bl))) rfl ?_ ?_
          · rintro i c H' hi rfl
            have hc : z.cps.toList[i]? = some c := by rw [Array.getElem?_toList]; exact hi
            have tk : z.cps.toList.take (i + 1) = z.cps.toList.take i ++ [c] := by rw [List.take_add_one, hc]; rfl
            have lt : i < z.length := (Array.getElem?_eq_some_iff.mp hi).1
            have go : ∀ b : Bool, b = lowB c → (∃ acc, upd H q (.lst (((z.cps.toList.take i).map lowB).map V.bl)) q = some (.lst acc) ∧ acc.length < sizeLine ∧
                upd (upd H q (.lst (((z.cps.toList.take i).map lowB).map V.bl))) q (.lst (acc ++ [.bl b])) = upd H q (.lst (((z.cps.toList.take (i + 1)).map lowB).map V.bl))) := fun b hb => by
              refine ⟨_, upd_same, ?_, ?_⟩
              · rw [List.length_map, List.length_map, List.length_take]
                exact Nat.lt_of_le_of_lt (Nat.le_trans (Nat.min_le_left _ _) (Nat.le_of_lt lt)) (Nat.lt_of_le_of_lt sz (by decide))
              · rw [tk, List.map_append, List.map_append, hb, upd_upd_same]
                rfl
            refine ⟨rfl, _, rfl, _, _, rfl, rfl, _, rfl, ?_⟩
            show (if (!decide ([c] < ([97] : List Nat))) = true then _ else _)
            rw [low_le]
            by_cases c1 : 97 ≤ c
            · rw [decide_eq_true c1]
              refine iteT ⟨_, _, rfl, rfl, ?_⟩
              exact go _ (by show (!decide (([122] : List Nat) < [c])) = lowB c; rw [low_ge]; unfold lowB; rw [decide_eq_true c1, Bool.true_and])
            · rw [decide_eq_false c1]
              exact iteF (go _ (by unfold lowB; rw [decide_eq_false c1, Bool.false_and]))
          · rintro H' rfl
            refine ⟨q, z.cps.toList.map lowB, rfl, .of ?_, ?_⟩
            · rw [upd_same, List.take_of_length_le (by simp)]
            · rw [all_map_id]
              exact e _ fun b o eb => by rw [upd_ne (ne_of_none eb hq)]; exact eb
end
end Sk

set_option Elab.async false
set_option maxRecDepth 100000
set_option maxHeartbeats 4000000
namespace Sk
open PySem L2 PyProof.Rows

def okI (d : PyData) : Bool := scalarB d && shortB d
def okT : PyData → Bool
  | .tuple ds => ds.all okI
  | d => shortB d
def okL : PyData → Bool
  | .list ds => ds.all okT && decide (ds.length ≤ 500)
  | d => okT d
theorem item_of {ds : List PyData} {i : Nat} {d : PyData} (h : ds[i]? = some d) (f : PyData → Bool) : itemB ds i f = f d := by
  unfold itemB
  rw [h]
theorem has_item {K : PySem.W.Frag} {H : Hp} {ds : List PyData} {xs : List V} {i : Nat} (ha : DpAll K H xs ds) (hi : i < ds.length) : ∃ (d : PyData) (v : V), ds[i]? = some d ∧ xs[i]? = some v ∧ Dp K H v d := by
  obtain ⟨v, hv, hd⟩ := dpAll_get ha (List.getElem?_eq_getElem hi)
  exact ⟨_, v, List.getElem?_eq_getElem hi, hv, hd⟩
section
variable {P : Program} {w : World} {K : PySem.W.Frag} {mg : Str → Option Value} {base : Heap}
abbrev s_isw : Stmt := top 12
abbrev N_isw : List Str := ["value"]
abbrev P_isw : List Str := ["value"]
theorem sc_isw : FnScope N_isw P_isw (defScope s_isw) := ⟨rfl, rfl, rfl, by decide +kernel, rfl, by decide +kernel, by decide +kernel⟩
theorem bi_isw {f : Addr} {fd : FuncData} {x : Str} {K : PySem.W.Frag} (F : Fun K x x s_isw f fd) : Binds K fd P_isw [] :=
  F.binds fun _ _ _ _ _ _ us hl => match us, hl with | [_], _ => rfl
theorem ok_isw {f f1 f2 : Addr} {fd fd1 fd2 : FuncData} (D : Df K mg "is_weight" s_isw f fd) (D_within : Df K mg "is_within" s_within f1 fd1) (D_integer : Df K mg "is_integer" s_integer f2 fd2) (T : Bi mg) (C : Cs mg) : FnOk P w K mg base CX0 3 f fd P_isw (spB K anyB weightB) := by
  obtain ⟨tw, h_wt⟩ := C.wt
  have G_within := ok_within (P := P) (w := w) (base := base) D_within D_integer T
  have b_within := bi_within D_within.F
  refine D.F.ok sc_isw (fun vs H Q E h => ?_) (fun cdv A outer s H vs Q E hr h => ?_)
  · obtain ⟨v, d, rfl, _⟩ := h
    rfl
  · obtain ⟨v, d, rfl, hd, _, k⟩ := h
    refine ⟨_, (pss_one (ps_ret (pe_or (pe_cmpR op_isN (pv 0) pe_non (nomark _)) (pe_one (pe_call G_within (hr.mono (by decide)) rfl D_within.g D_within.F.kp b_within .nil pass0 (pa_cons (pv 0) (pa_cons pe_int (pa_cons (pe_glob (v := .int 1000) rfl h_wt ⟨_, rfl⟩) pa_nil)))))))), ?_⟩
    refine ⟨_, rfl, rfl, _, rfl, ?_⟩
    have other : v ≠ .non → weightB d = withinB d 1 1000 := fun nv => by
      cases hd with
      | non => exact absurd rfl nv
      | _ => rfl
    by_cases c : v = .non
    · rw [decide_eq_true c]
      subst c
      cases hd
      exact iteT (k H (Same.refl H))
    · rw [decide_eq_false c]
      refine iteF ⟨_, rfl, v, d, 1, 1000, rfl, hd, fun H1 s1 => ?_⟩
      rw [← other c]
      exact k H1 s1
abbrev s_cost : Stmt := top 13
abbrev N_cost : List Str := ["value"]
abbrev P_cost : List Str := ["value"]
theorem sc_cost : FnScope N_cost P_cost (defScope s_cost) := ⟨rfl, rfl, rfl, by decide +kernel, rfl, by decide +kernel, by decide +kernel⟩
theorem bi_cost {f : Addr} {fd : FuncData} {x : Str} {K : PySem.W.Frag} (F : Fun K x x s_cost f fd) : Binds K fd P_cost [] :=
  F.binds fun _ _ _ _ _ _ us hl => match us, hl with | [_], _ => rfl
def costB (d : PyData) : Bool := withinB d 1 1000
theorem ok_cost {f f1 f2 : Addr} {fd fd1 fd2 : FuncData} (D : Df K mg "is_cost" s_cost f fd) (D_within : Df K mg "is_within" s_within f1 fd1) (D_integer : Df K mg "is_integer" s_integer f2 fd2) (T : Bi mg) (C : Cs mg) : FnOk P w K mg base CX0 3 f fd P_cost (spB K anyB costB) := by
  obtain ⟨tw, h_cost⟩ := C.cost
  have G_within := ok_within (P := P) (w := w) (base := base) D_within D_integer T
  have b_within := bi_within D_within.F
  refine D.F.ok sc_cost (fun vs H Q E h => ?_) (fun cdv A outer s H vs Q E hr h => ?_)
  · obtain ⟨v, d, rfl, _⟩ := h
    rfl
  · obtain ⟨v, d, rfl, hd, _, k⟩ := h
    refine ⟨_, (pss_one (ps_ret (pe_call G_within (hr.mono (by decide)) rfl D_within.g D_within.F.kp b_within .nil pass0 (pa_cons (pv 0) (pa_cons pe_int (pa_cons (pe_glob (v := .int 1000) rfl h_cost ⟨_, rfl⟩) pa_nil)))))), ?_⟩
    exact ⟨_, rfl, v, d, 1, 1000, rfl, hd, k⟩
abbrev s_end : Stmt := top 19
abbrev N_end : List Str := ["value"]
abbrev P_end : List Str := ["value"]
theorem sc_end : FnScope N_end P_end (defScope s_end) := ⟨rfl, rfl, rfl, by decide +kernel, rfl, by decide +kernel, by decide +kernel⟩
theorem bi_end {f : Addr} {fd : FuncData} {x : Str} {K : PySem.W.Frag} (F : Fun K x x s_end f fd) : Binds K fd P_end [] :=
  F.binds fun _ _ _ _ _ _ us hl => match us, hl with | [_], _ => rfl
theorem ok_end {f f1 : Addr} {fd fd1 : FuncData} (D : Df K mg "_is_end" s_end f fd) (D_place : Df K mg "is_place" s_place f1 fd1) (T : Bi mg) (C : Cs mg) : FnOk P w K mg base CX0 2 f fd P_end (spB K okI endB) := by
  obtain ⟨tw, h_out⟩ := id C.out
  have G_place := ok_place (P := P) (w := w) (base := base) D_place T C
  have b_place := bi_place D_place.F
  refine D.F.ok sc_end (fun vs H Q E h => ?_) (fun cdv A outer s H vs Q E hr h => ?_)
  · obtain ⟨v, d, rfl, _⟩ := h
    rfl
  · obtain ⟨v, d, rfl, hd, sh, k⟩ := h
    refine ⟨_, (pss_one (ps_ret (pe_or (pe_cmpR op_eq (pv 0) (pe_glob (v := .str "-") rfl h_out ⟨_, rfl⟩) (nomark _)) (pe_one (pe_call G_place (hr.mono (by decide)) rfl D_place.g D_place.F.kp b_place .nil pass0 (pa_cons (pv 0) pa_nil)))))), ?_⟩
    have sh2 : shortB d = true := (Bool.and_eq_true_iff.mp sh).2
    have go : endB d = placeB d → Q = Q → ∀ x : V, Dp K H x d → spB K shortB placeB [x] H Q E0 := fun e _ x hx => ⟨x, d, rfl, hx, sh2, fun H1 s1 => by rw [← e]; exact k H1 s1⟩
    cases hd with
    | non => exact ⟨_, rfl, rfl, _, rfl, iteF ⟨_, rfl, go rfl rfl _ .non⟩⟩
    | bl b => exact ⟨_, rfl, rfl, _, rfl, iteF ⟨_, rfl, go rfl rfl _ (.bl b)⟩⟩
    | int i => exact ⟨_, rfl, rfl, _, rfl, iteF ⟨_, rfl, go rfl rfl _ (.int i)⟩⟩
    | lst _ _ => cases sh
    | tup _ _ => cases sh
    | str z =>
      refine ⟨_, rfl, rfl, _, rfl, ?_⟩
      by_cases c : z = ("-" : Str)
      · rw [decide_eq_true (by rw [c])]
        refine iteT ?_
        have e : endB (.str z) = true := by
          show (decide (z = ("-" : Str)) || placeB (.str z)) = true
          rw [decide_eq_true c, Bool.true_or]
        have q := k H (Same.refl H)
        rw [e] at q
        exact q
      · rw [decide_eq_false (fun e => c (V.str.inj e))]
        refine iteF ⟨_, rfl, go ?_ rfl _ (.str z)⟩
        show (decide (z = ("-" : Str)) || placeB (.str z)) = placeB (.str z)
        rw [decide_eq_false c, Bool.false_or]
abbrev s_written : Stmt := top 21
abbrev N_written : List Str := ["record"]
abbrev P_written : List Str := ["record"]
theorem sc_written : FnScope N_written P_written (defScope s_written) := ⟨rfl, rfl, rfl, by decide +kernel, rfl, by decide +kernel, by decide +kernel⟩
theorem bi_written {f : Addr} {fd : FuncData} {x : Str} {K : PySem.W.Frag} (F : Fun K x x s_written f fd) : Binds K fd P_written [] :=
  F.binds fun _ _ _ _ _ _ us hl => match us, hl with | [_], _ => rfl
theorem ok_written {f : Addr} {fd : FuncData} (D : Df K mg "written" s_written f fd) : FnOk P w K mg base CX0 1 f fd P_written (spItem K (-2)) := by
  refine D.F.ok sc_written (fun vs H Q E h => ?_) (fun cdv A outer s H vs Q E hr h => ?_)
  · obtain ⟨p, xs, v, rfl, _⟩ := h
    rfl
  · obtain ⟨p, xs, v, rfl, hS, ha, k⟩ := h
    exact ⟨_, (pss_one (ps_ret (pe_ix ix_tup (pv 0) (pe_un un_neg pe_int) (fun _ _ => rfl)))), ⟨_, rfl, _, rfl, p, xs, _, v, rfl, rfl, hS, ha, k⟩⟩
abbrev s_weight : Stmt := top 22
abbrev N_weight : List Str := ["record"]
abbrev P_weight : List Str := ["record"]
theorem sc_weight : FnScope N_weight P_weight (defScope s_weight) := ⟨rfl, rfl, rfl, by decide +kernel, rfl, by decide +kernel, by decide +kernel⟩
theorem bi_weight {f : Addr} {fd : FuncData} {x : Str} {K : PySem.W.Frag} (F : Fun K x x s_weight f fd) : Binds K fd P_weight [] :=
  F.binds fun _ _ _ _ _ _ us hl => match us, hl with | [_], _ => rfl
theorem ok_weight {f : Addr} {fd : FuncData} (D : Df K mg "weight_of" s_weight f fd) : FnOk P w K mg base CX0 1 f fd P_weight (spItem K (-1)) := by
  refine D.F.ok sc_weight (fun vs H Q E h => ?_) (fun cdv A outer s H vs Q E hr h => ?_)
  · obtain ⟨p, xs, v, rfl, _⟩ := h
    rfl
  · obtain ⟨p, xs, v, rfl, hS, ha, k⟩ := h
    exact ⟨_, (pss_one (ps_ret (pe_ix ix_tup (pv 0) (pe_un un_neg pe_int) (fun _ _ => rfl)))), ⟨_, rfl, _, rfl, p, xs, _, v, rfl, rfl, hS, ha, k⟩⟩
abbrev s_id : Stmt := top 20
abbrev N_id : List Str := ["record"]
abbrev P_id : List Str := ["record"]
theorem sc_id : FnScope N_id P_id (defScope s_id) := ⟨rfl, rfl, rfl, by decide +kernel, rfl, by decide +kernel, by decide +kernel⟩
theorem bi_id {f : Addr} {fd : FuncData} {x : Str} {K : PySem.W.Frag} (F : Fun K x x s_id f fd) : Binds K fd P_id [] :=
  F.binds fun _ _ _ _ _ _ us hl => match us, hl with | [_], _ => rfl
theorem ok_id {f : Addr} {fd : FuncData} (D : Df K mg "id_of" s_id f fd) : FnOk P w K mg base CX0 1 f fd P_id (spItem K 0) := by
  refine D.F.ok sc_id (fun vs H Q E h => ?_) (fun cdv A outer s H vs Q E hr h => ?_)
  · obtain ⟨p, xs, v, rfl, _⟩ := h
    rfl
  · obtain ⟨p, xs, v, rfl, hS, ha, k⟩ := h
    exact ⟨_, (pss_one (ps_ret (pe_ix ix_tup (pv 0) pe_int (fun _ _ => rfl)))), ⟨_, rfl, p, xs, _, v, rfl, rfl, hS, ha, k⟩⟩
abbrev s_parts : Stmt := top 18
abbrev N_parts : List Str := ["value", "many"]
abbrev P_parts : List Str := ["value", "many"]
theorem sc_parts : FnScope N_parts P_parts (defScope s_parts) := ⟨rfl, rfl, rfl, by decide +kernel, rfl, by decide +kernel, by decide +kernel⟩
theorem bi_parts {f : Addr} {fd : FuncData} {x : Str} {K : PySem.W.Frag} (F : Fun K x x s_parts f fd) : Binds K fd P_parts [] :=
  F.binds fun _ _ _ _ _ _ us hl => match us, hl with | [_, _], _ => rfl
theorem ok_parts {f f1 f2 f3 f4 f5 : Addr} {fd fd1 fd2 fd3 fd4 fd5 : FuncData} (D : Df K mg "_has_parts" s_parts f fd) (D_within : Df K mg "is_within" s_within f1 fd1) (D_integer : Df K mg "is_integer" s_integer f2 fd2) (D_isw : Df K mg "is_weight" s_isw f3 fd3)
    (D_written : Df K mg "written" s_written f4 fd4) (D_weight : Df K mg "weight_of" s_weight f5 fd5) (T : Bi mg) (C : Cs mg) : FnOk P w K mg base CX0 4 f fd P_parts (spParts K) := by
  obtain ⟨tw, h_part⟩ := id C.part
  have G_within := ok_within (P := P) (w := w) (base := base) D_within D_integer T
  have b_within := bi_within D_within.F
  have G_isw := ok_isw (P := P) (w := w) (base := base) D_isw D_within D_integer T C
  have b_isw := bi_isw D_isw.F
  have G_written := ok_written (P := P) (w := w) (base := base) D_written
  have b_written := bi_written D_written.F
  have G_weight := ok_weight (P := P) (w := w) (base := base) D_weight
  have b_weight := bi_weight D_weight.F
  refine D.F.ok sc_parts (fun vs H Q E h => ?_) (fun cdv A outer s H vs Q E hr h => ?_)
  · obtain ⟨v, d, n, rfl, _⟩ := h
    rfl
  · obtain ⟨v, d, n, rfl, hd, n2, k⟩ := h
    refine ⟨_, (pss_cons (ps_if (PW.pt (pw_or (pt_not (pt_val (pe_callB call_isi (by rfl) T.isinstance PyProof.Rows.boot_isinstance (pa_cons (pv 0) (pa_cons (pe_bltn (v := .ty "tuple") (by rfl) T.tuple_ (by decide +kernel) rfl) pa_nil))))) (pw_or1 (pt_cmpR op_ne (pe_callB (call_len_seq) (by rfl) T.len PySem.boot_len (pa_cons (pv 0) pa_nil)) (pv 1) (nomark _))))) (pss_one (ps_ret pe_bl)) pss_nil)
      (pss_cons (ps_if (PW.pt (pw_or (pt_not (pt_val (pe_call G_within (hr.mono (by decide)) rfl D_within.g D_within.F.kp b_within .nil pass0 (pa_cons (pe_ix ix_tup (pv 0) pe_int (fun _ _ => rfl)) (pa_cons pe_int (pa_cons (pe_glob (v := .int 1000000) rfl h_part ⟨_, rfl⟩) pa_nil)))))) (pw_or1 (pt_not (pt_val (pe_call G_within (hr.mono (by decide)) rfl D_within.g D_within.F.kp b_within .nil pass0 (pa_cons (pe_ix ix_tup (pv 0) pe_int (fun _ _ => rfl)) (pa_cons pe_int (pa_cons (pe_glob (v := .int 1000000) rfl h_part ⟨_, rfl⟩) pa_nil))))))))) (pss_one (ps_ret pe_bl)) pss_nil)
      (pss_one (ps_ret (pe_and (pe_call G_within (hr.mono (by decide)) rfl D_within.g D_within.F.kp b_within .nil pass0 (pa_cons (pe_call G_written (hr.mono (by decide)) rfl D_written.g D_written.F.kp b_written .nil pass0 (pa_cons (pv 0) pa_nil)) (pa_cons pe_int (pa_cons (pe_glob (v := .int 1000000) rfl h_part ⟨_, rfl⟩) pa_nil)))) (pe_one (pe_call G_isw (hr.mono (by decide)) rfl D_isw.g D_isw.F.kp b_isw .nil pass0 (pa_cons (pe_call G_weight (hr.mono (by decide)) rfl D_weight.g D_weight.F.kp b_weight .nil pass0 (pa_cons (pv 0) pa_nil)) pa_nil)))))))), ?_⟩
    obtain ⟨t1, y1, k1⟩ := isi_fact (T := "tuple") hd (by decide)
    refine ⟨_, rfl, _, _, _, _, _, rfl, .ty "tuple", y1, k1, _, rfl, ?_⟩
    have k0 := k H (Same.refl H)
    cases hd with
    | non => exact iteT (iteT k0)
    | bl _ => exact iteT (iteT k0)
    | int _ => exact iteT (iteT k0)
    | str _ => exact iteT (iteT k0)
    | lst _ _ => exact iteT (iteT k0)
    | @tup p xs ds hs ha =>
      have hl := dpAll_len ha
      refine iteF ⟨_, rfl, p, xs, rfl, .inr hs, _, rfl, rfl, _, rfl, ?_⟩
      have pe : partsB (.tuple ds) n = (decide (ds.length = n) && (itemB ds 0 (withinB · 1 1000000) && (itemB ds 1 (withinB · 0 1000000) && (itemB ds (n - 2) (withinB · 0 1000000) && itemB ds (n - 1) weightB)))) := rfl
      rw [pe] at k
      rw [pe] at k0
      by_cases c : ds.length = n
      · have c' : (V.int (xs.length : Int)) = V.int (n : Int) := by rw [hl, c]
        rw [decide_eq_true c']
        rw [decide_eq_true c, Bool.true_and] at k
        rw [decide_eq_true c, Bool.true_and] at k0
        refine iteF ?_
        obtain ⟨d0, x0, e0, g0, p0⟩ := has_item (i := 0) ha (by omega)
        obtain ⟨d1, x1, e1, g1, p1⟩ := has_item (i := 1) ha (by omega)
        obtain ⟨d2, x2, e2, g2, p2⟩ := has_item (i := n - 2) ha (by omega)
        obtain ⟨d3, x3, e3, g3, p3⟩ := has_item (i := n - 1) ha (by omega)
        rw [item_of e0, item_of e1, item_of e2, item_of e3] at k
        refine ⟨_, rfl, p, xs, _, x0, rfl, rfl, hs, atI_nat (j := 0) g0, x0, d0, 1, 1000000, rfl, p0, fun H1 s1 => ⟨_, rfl, ?_⟩⟩
        generalize withinB d0 1 1000000 = b0 at *
        cases b0 with
        | false => exact iteT (iteT (k H1 s1))
        | true =>
          refine iteF ⟨_, rfl, p, xs, _, x1, rfl, rfl, Same.seqT s1 hs, atI_nat (j := 1) g1, x1, d1, 0, 1000000, rfl, dp_same s1 p1, fun H2 s2 => ⟨_, rfl, ?_⟩⟩
          have s12 := s1.trans s2
          generalize withinB d1 0 1000000 = b1 at *
          cases b1 with
          | false => exact iteT (k H2 s12)
          | true =>
            refine iteF ?_
            have a2 : atI xs (-2) = some x2 := by
              have := atI_back (xs := xs) (k := 2) (by decide) (by omega)
              rw [hl, c, g2] at this
              exact this
            have a3 : atI xs (-1) = some x3 := by
              have := atI_back (xs := xs) (k := 1) (by decide) (by omega)
              rw [hl, c, g3] at this
              exact this
            refine ⟨_, rfl, p, xs, x2, rfl, Same.seqT s12 hs, a2, x2, d2, 0, 1000000, rfl, dp_same s12 p2, fun H3 s3 => ⟨_, rfl, ?_⟩⟩
            have s13 := s12.trans s3
            generalize withinB d2 0 1000000 = b2 at *
            cases b2 with
            | false => exact iteF (k H3 s13)
            | true => exact iteT ⟨_, rfl, p, xs, x3, rfl, Same.seqT s13 hs, a3, x3, d3, rfl, dp_same s13 p3, rfl, fun H4 s4 => k H4 (s13.trans s4)⟩
      · have c' : ¬ (V.int (xs.length : Int)) = V.int (n : Int) := fun e => by
          have := V.int.inj e
          omega
        rw [decide_eq_false c']
        rw [decide_eq_false c, Bool.false_and] at k0
        exact iteT k0
end
end Sk

set_option Elab.async false
set_option maxRecDepth 100000
set_option maxHeartbeats 4000000
namespace Sk
open PySem L2 PyProof.Rows

theorem tup_of_parts {d : PyData} {n : Nat} (h : partsB d n = true) : ∃ ds, d = .tuple ds ∧ ds.length = n := by
  cases d with
  | tuple ds => exact ⟨ds, rfl, of_decide_eq_true (Bool.and_eq_true_iff.mp h).1⟩
  | _ => exact absurd h (by simp [partsB])
theorem okI_at {ds : List PyData} {i : Nat} {d : PyData} (h : ds.all okI = true) (e : ds[i]? = some d) : okI d = true := List.all_eq_true.mp h d (List.mem_of_getElem? e)
theorem end_str {d : PyData} (h : endB d = true) : ∃ z, d = .str z := by
  cases d with
  | str z => exact ⟨z, rfl⟩
  | _ => exact absurd h (by simp [endB])
section
variable {P : Program} {w : World} {K : PySem.W.Frag} {mg : Str → Option Value} {base : Heap}
abbrev s_move : Stmt := top 14
abbrev N_move : List Str := ["value", "source", "target"]
abbrev P_move : List Str := ["value"]
theorem sc_move : FnScope N_move P_move (defScope s_move) := ⟨rfl, rfl, rfl, by decide +kernel, rfl, by decide +kernel, by decide +kernel⟩
theorem bi_move {f : Addr} {fd : FuncData} {x : Str} {K : PySem.W.Frag} (F : Fun K x x s_move f fd) : Binds K fd P_move [] :=
  F.binds fun _ _ _ _ _ _ us hl => match us, hl with | [_], _ => rfl
theorem ok_move {f f1 f2 : Addr} {fd fd1 fd2 : FuncData} (D : Df K mg "is_move" s_move f fd) (D_parts : Df K mg "_has_parts" s_parts f1 fd1) (G_parts : FnOk P w K mg base CX0 4 f1 fd1 P_parts (spParts K))
    (D_end : Df K mg "_is_end" s_end f2 fd2) (G_end : FnOk P w K mg base CX0 2 f2 fd2 P_end (spB K okI endB)) (C : Cs mg) : FnOk P w K mg base CX0 5 f fd P_move (spB K okT moveB) := by
  obtain ⟨tm, h_mv⟩ := C.mv
  have b_parts := bi_parts D_parts.F
  have b_end := bi_end D_end.F
  refine D.F.ok sc_move (fun vs H Q E h => ?_) (fun cdv A outer s H vs Q E hr h => ?_)
  · obtain ⟨v, d, rfl, _⟩ := h
    rfl
  · obtain ⟨v, d, rfl, hd, sh, k⟩ := h
    refine ⟨_, (pss_cons (ps_if (pt_not (pt_val (pe_call G_parts (hr.mono (by decide)) rfl D_parts.g D_parts.F.kp b_parts .nil pass0 (pa_cons (pv 0) (pa_cons (pe_glob (v := .int 6) rfl h_mv ⟨_, rfl⟩) pa_nil))))) (pss_one (ps_ret pe_bl)) pss_nil)
      (pss_cons (ps_par (i := 1) (j := 2) rfl sc_move.nd rfl rfl (by decide) rfl rfl (pa_cons (pe_ix ix_tup (pv 0) pe_int (fun _ _ => rfl)) (pa_cons (pe_ix ix_tup (pv 0) pe_int (fun _ _ => rfl)) pa_nil)) (by rfl))
      (pss_one (ps_ret (pe_and (pe_call G_end (hr.mono (by decide)) rfl D_end.g D_end.F.kp b_end .nil pass0 (pa_cons (pv 1) pa_nil)) (pe_and (pe_call G_end (hr.mono (by decide)) rfl D_end.g D_end.F.kp b_end .nil pass0 (pa_cons (pv 2) pa_nil)) (pe_one (pe_cmpR op_ne (pv 1) (pv 2) (nomark _))))))))), ?_⟩
    refine ⟨_, rfl, v, d, 6, rfl, hd, by decide, fun H1 s1 => ⟨_, rfl, ?_⟩⟩
    have me : ∀ x y ds, d = .tuple ds → ds[2]? = some x → ds[3]? = some y → moveB d = (partsB d 6 && (endB x && (endB y && otherB x y))) := fun x y ds e ex ey => by
      subst e
      unfold moveB
      simp only [ex, ey]
    cases c : partsB d 6 with
    | false =>
      have e : moveB d = false := by unfold moveB; rw [c, Bool.false_and]
      rw [e] at k
      exact iteT (k H1 s1)
    | true =>
      refine iteF ?_
      obtain ⟨ds, rfl, hl⟩ := tup_of_parts c
      have sh : ds.all okI = true := sh
      cases hd with
      | @tup p xs _ hs ha =>
      obtain ⟨d2, x2, e2, g2, p2⟩ := has_item (i := 2) ha (by omega)
      obtain ⟨d3, x3, e3, g3, p3⟩ := has_item (i := 3) ha (by omega)
      have q2 := okI_at sh e2
      have q3 := okI_at sh e3
      rw [me _ _ _ rfl e2 e3, c, Bool.true_and] at k
      have hs1 := Same.seqT s1 hs
      refine ⟨_, rfl, p, xs, _, x2, rfl, rfl, hs1, atI_nat (j := 2) g2, _, rfl, p, xs, _, x3, rfl, rfl, hs1, atI_nat (j := 3) g3, x2, x3, rfl, _, rfl, x2, d2, rfl, dp_same s1 p2, q2, fun H2 s2 => ⟨_, rfl, ?_⟩⟩
      have s12 := s1.trans s2
      cases c2 : endB d2 with
      | false =>
        rw [c2] at k
        exact iteF (k H2 s12)
      | true =>
        rw [c2, Bool.true_and] at k
        refine iteT ⟨_, rfl, x3, d3, rfl, dp_same s12 p3, q3, fun H3 s3 => ⟨_, rfl, ?_⟩⟩
        have s13 := s12.trans s3
        cases c3 : endB d3 with
        | false =>
          rw [c3] at k
          exact iteF (k H3 s13)
        | true =>
          rw [c3, Bool.true_and] at k
          obtain ⟨y, rfl⟩ := end_str c2
          obtain ⟨z, rfl⟩ := end_str c3
          cases p2
          cases p3
          refine iteT ⟨_, rfl, _, rfl, rfl, ?_⟩
          have e : (!decide (V.str y = V.str z)) = otherB (.str y) (.str z) := by
            show _ = (!decide (y = z))
            by_cases e : y = z
            · rw [decide_eq_true e, decide_eq_true (by rw [e])]
            · rw [decide_eq_false e, decide_eq_false (fun q => e (V.str.inj q))]
          rw [e]
          exact k H3 s13
abbrev s_count : Stmt := top 15
abbrev N_count : List Str := ["value"]
abbrev P_count : List Str := ["value"]
theorem sc_count : FnScope N_count P_count (defScope s_count) := ⟨rfl, rfl, rfl, by decide +kernel, rfl, by decide +kernel, by decide +kernel⟩
theorem bi_count {f : Addr} {fd : FuncData} {x : Str} {K : PySem.W.Frag} (F : Fun K x x s_count f fd) : Binds K fd P_count [] :=
  F.binds fun _ _ _ _ _ _ us hl => match us, hl with | [_], _ => rfl
theorem ok_count {f f1 f2 : Addr} {fd fd1 fd2 : FuncData} (D : Df K mg "is_count" s_count f fd) (D_parts : Df K mg "_has_parts" s_parts f1 fd1) (G_parts : FnOk P w K mg base CX0 4 f1 fd1 P_parts (spParts K))
    (D_place : Df K mg "is_place" s_place f2 fd2) (G_place : FnOk P w K mg base CX0 1 f2 fd2 P_place (spB K shortB placeB)) (C : Cs mg) : FnOk P w K mg base CX0 5 f fd P_count (spB K okT countB) := by
  obtain ⟨tm, h_ct⟩ := C.ct
  have b_parts := bi_parts D_parts.F
  have b_place := bi_place D_place.F
  refine D.F.ok sc_count (fun vs H Q E h => ?_) (fun cdv A outer s H vs Q E hr h => ?_)
  · obtain ⟨v, d, rfl, _⟩ := h
    rfl
  · obtain ⟨v, d, rfl, hd, sh, k⟩ := h
    refine ⟨_, (pss_one (ps_ret (pe_and (pe_call G_parts (hr.mono (by decide)) rfl D_parts.g D_parts.F.kp b_parts .nil pass0 (pa_cons (pv 0) (pa_cons (pe_glob (v := .int 5) rfl h_ct ⟨_, rfl⟩) pa_nil))) (pe_one (pe_call G_place (hr.mono (by decide)) rfl D_place.g D_place.F.kp b_place .nil pass0 (pa_cons (pe_ix ix_tup (pv 0) pe_int (fun _ _ => rfl)) pa_nil)))))), ?_⟩
    refine ⟨_, rfl, v, d, 5, rfl, hd, by decide, fun H1 s1 => ⟨_, rfl, ?_⟩⟩
    cases c : partsB d 5 with
    | false =>
      have e : countB d = false := by unfold countB; rw [c, Bool.false_and]
      rw [e] at k
      exact iteF (k H1 s1)
    | true =>
      refine iteT ?_
      obtain ⟨ds, rfl, hl⟩ := tup_of_parts c
      have sh : ds.all okI = true := sh
      cases hd with
      | @tup p xs _ hs ha =>
      obtain ⟨d2, x2, e2, g2, p2⟩ := has_item (i := 2) ha (by omega)
      have q2 := okI_at sh e2
      have e : countB (.tuple ds) = placeB d2 := by unfold countB; rw [c, Bool.true_and]; exact item_of e2 _
      rw [e] at k
      refine ⟨_, rfl, p, xs, _, x2, rfl, rfl, Same.seqT s1 hs, atI_nat (j := 2) g2, x2, d2, rfl, dp_same s1 p2, (Bool.and_eq_true_iff.mp q2).2, fun H2 s2 => k H2 (s1.trans s2)⟩
abbrev s_record : Stmt := top 16
abbrev N_record : List Str := ["value"]
abbrev P_record : List Str := ["value"]
theorem sc_record : FnScope N_record P_record (defScope s_record) := ⟨rfl, rfl, rfl, by decide +kernel, rfl, by decide +kernel, by decide +kernel⟩
theorem bi_record {f : Addr} {fd : FuncData} {x : Str} {K : PySem.W.Frag} (F : Fun K x x s_record f fd) : Binds K fd P_record [] :=
  F.binds fun _ _ _ _ _ _ us hl => match us, hl with | [_], _ => rfl
theorem ok_record {f f1 f2 : Addr} {fd fd1 fd2 : FuncData} (D : Df K mg "is_record" s_record f fd) (D_move : Df K mg "is_move" s_move f1 fd1) (G_move : FnOk P w K mg base CX0 5 f1 fd1 P_move (spB K okT moveB))
    (D_count : Df K mg "is_count" s_count f2 fd2) (G_count : FnOk P w K mg base CX0 5 f2 fd2 P_count (spB K okT countB)) : FnOk P w K mg base CX0 6 f fd P_record (spB K okT recB) := by
  have b_move := bi_move D_move.F
  have b_count := bi_count D_count.F
  refine D.F.ok sc_record (fun vs H Q E h => ?_) (fun cdv A outer s H vs Q E hr h => ?_)
  · obtain ⟨v, d, rfl, _⟩ := h
    rfl
  · obtain ⟨v, d, rfl, hd, sh, k⟩ := h
    refine ⟨_, (pss_one (ps_ret (pe_or (pe_call G_move (hr.mono (by decide)) rfl D_move.g D_move.F.kp b_move .nil pass0 (pa_cons (pv 0) pa_nil)) (pe_one (pe_call G_count (hr.mono (by decide)) rfl D_count.g D_count.F.kp b_count .nil pass0 (pa_cons (pv 0) pa_nil)))))), ?_⟩
    refine ⟨_, rfl, v, d, rfl, hd, sh, fun H1 s1 => ⟨_, rfl, ?_⟩⟩
    have e : recB d = (moveB d || countB d) := rfl
    rw [e] at k
    cases c : moveB d with
    | true =>
      rw [c] at k
      exact iteT (k H1 s1)
    | false =>
      rw [c] at k
      exact iteF ⟨_, rfl, v, d, rfl, dp_same s1 hd, sh, fun H2 s2 => k H2 (s1.trans s2)⟩
end
end Sk

set_option Elab.async false
set_option maxRecDepth 100000
set_option maxHeartbeats 4000000
namespace Sk
open PySem L2 PyProof.Rows

theorem same_upd {H H' : Hp} {q : Addr} {o o2 : HO} (h : Same (upd H q o) H') : Same (upd H q o2) (upd H' q o2) := fun b x e => by
  by_cases c : b = q
  · subst c
    rw [upd_same] at e ⊢
    exact e
  · rw [upd_ne c] at e ⊢
    exact h b x (by rw [upd_ne c]; exact e)
theorem same_new {H : Hp} {q : Addr} {o : HO} (h : H q = none) : Same H (upd H q o) := fun b x e => by
  rw [upd_ne (ne_of_none e h)]
  exact e
theorem same_rid {H H' : Hp} {q : Addr} {o : HO} (h : H q = none) (s : Same (upd H q o) H') : Same H H' := (same_new h).trans s
theorem rec_id {d : PyData} (h : recB d = true) : ∃ ds i, d = .tuple ds ∧ ds[0]? = some (.int i) ∧ idB d = i := by
  have go : ∀ n, partsB d n = true → ∃ ds i, d = .tuple ds ∧ ds[0]? = some (.int i) ∧ idB d = i := fun n c => by
    obtain ⟨ds, rfl, _⟩ := tup_of_parts c
    have c : (decide (ds.length = n) && (itemB ds 0 (withinB · 1 1000000) && _)) = true := c
    have c := (Bool.and_eq_true_iff.mp (Bool.and_eq_true_iff.mp c).2).1
    cases ds with
    | nil => exact absurd c (by simp [itemB])
    | cons a l =>
      have c : withinB a 1 1000000 = true := c
      cases a with
      | int i => exact ⟨_, i, rfl, rfl, rfl⟩
      | _ => exact absurd c (by simp [withinB])
  rcases Bool.or_eq_true_iff.mp h with h | h
  · exact go 6 (Bool.and_eq_true_iff.mp h).1
  · exact go 5 (Bool.and_eq_true_iff.mp h).1
def distinct (l : List Int) : List Int := l.foldl (fun t k => plusI k t) []
theorem distinct_snoc (l : List Int) (k : Int) : distinct (l ++ [k]) = plusI k (distinct l) := by
  unfold distinct
  rw [List.foldl_append]
  rfl
theorem distinct_mem (l : List Int) : ∀ t : List Int, ∀ z, z ∈ l.foldl (fun t k => plusI k t) t ↔ z ∈ t ∨ z ∈ l := by
  induction l with
  | nil => intro t z; simp
  | cons a l ih =>
    intro t z
    rw [List.foldl_cons, ih]
    have : z ∈ plusI a t ↔ z = a ∨ z ∈ t := by
      unfold plusI
      by_cases c : a ∈ t
      · rw [if_pos c]
        constructor
        · exact Or.inr
        · rintro (rfl | h)
          · exact c
          · exact h
      · rw [if_neg c, List.mem_cons]
    rw [this, List.mem_cons]
    constructor
    · rintro ((h | h) | h)
      · exact .inr (.inl h)
      · exact .inl h
      · exact .inr (.inr h)
    · rintro (h | h | h)
      · exact .inl (.inr h)
      · exact .inl (.inl h)
      · exact .inr h
theorem distinct_len (l : List Int) : (distinct l).length ≤ l.length ∧ ((distinct l).length = l.length ↔ l.Nodup) := by
  have go : ∀ m : List Int, (distinct m.reverse).length ≤ m.reverse.length ∧ ((distinct m.reverse).length = m.reverse.length ↔ m.reverse.Nodup) := fun m => by
      induction m with
      | nil => exact ⟨Nat.le_refl _, by simp [distinct]⟩
      | cons k m ih =>
        rw [List.reverse_cons]
        generalize m.reverse = l at *
        have m : k ∈ distinct l ↔ k ∈ l := by
          unfold distinct
          rw [distinct_mem]
          simp
        rw [distinct_snoc]
        unfold plusI
        have nd : (l ++ [k]).Nodup ↔ l.Nodup ∧ k ∉ l := by
          rw [List.nodup_append]
          constructor
          · rintro ⟨h1, _, h3⟩
            exact ⟨h1, fun h => h3 k h k (List.mem_singleton.mpr rfl) rfl⟩
          · rintro ⟨h1, h2⟩
            refine ⟨h1, (by simp), fun a ha b hb e => ?_⟩
            rw [List.mem_singleton.mp hb] at e
            subst e
            exact h2 ha
        rw [nd, List.length_append, List.length_singleton]
        by_cases c : k ∈ distinct l
        · rw [if_pos c]
          refine ⟨by omega, ⟨fun e => absurd e (by have := ih.1; omega), fun e => absurd (m.mp c) e.2⟩⟩
        · rw [if_neg c, List.length_cons]
          refine ⟨by have := ih.1; omega, ⟨fun e => ⟨ih.2.mp (by omega), fun h => c (m.mpr h)⟩, fun e => by have := ih.2.mpr e.1; omega⟩⟩
  have := go l.reverse
  rw [List.reverse_reverse] at this
  exact this
section
variable {P : Program} {w : World} {K : PySem.W.Frag} {mg : Str → Option Value} {base : Heap}
abbrev s_records : Stmt := top 17
abbrev N_records : List Str := ["value", "record", "part"]
abbrev P_records : List Str := ["value"]
theorem sc_records : FnScope N_records P_records (defScope s_records) := ⟨rfl, rfl, rfl, by decide +kernel, rfl, by decide +kernel, by decide +kernel⟩
theorem bi_records {f : Addr} {fd : FuncData} {x : Str} {K : PySem.W.Frag} (F : Fun K x x s_records f fd) : Binds K fd P_records [] :=
  F.binds fun _ _ _ _ _ _ us hl => match us, hl with | [_], _ => rfl
theorem ok_records {f f1 f2 : Addr} {fd fd1 fd2 : FuncData} (D : Df K mg "are_records" s_records f fd) (D_record : Df K mg "is_record" s_record f1 fd1) (G_record : FnOk P w K mg base CX0 6 f1 fd1 P_record (spB K okT recB))
    (D_id : Df K mg "id_of" s_id f2 fd2) (G_id : FnOk P w K mg base CX0 1 f2 fd2 P_id (spItem K 0)) (T : Bi mg) : FnOk P w K mg base CX0 7 f fd P_records (spB K okL recsB) := by
  have b_record := bi_record D_record.F
  have b_id := bi_id D_id.F
  refine D.F.ok sc_records (fun vs H Q E h => ?_) (fun cdv A outer s H vs Q E hr h => ?_)
  · obtain ⟨v, d, rfl, _⟩ := h
    rfl
  · obtain ⟨v, d, rfl, hd, sh, k⟩ := h
    refine ⟨_, (pss_cons (ps_if (PW.pt (pw_or (pt_not (pt_val (pe_callB call_isi (by rfl) T.isinstance PyProof.Rows.boot_isinstance (pa_cons (pv 0) (pa_cons (pe_bltn (v := .ty "list") (by rfl) T.list_ (by decide +kernel) rfl) pa_nil))))) (pw_or1 (pt_not (pt_val (pe_callB (cr_all rfl) (by rfl) T.all PyProof.Rows.boot_all (pa_cons (pe_lc (own := [("part", 2)]) (g := gName 2) (tt := tYes) rfl sc_records.nd (pi_list (pv 0)) (blkOk_by (N := N_records) (sc := defScope s_records) (by decide +kernel)) (fun _ _ _ _ _ => pg_name (i := 2) sc_records.nd rfl (Or.inl rfl)) (fun _ _ _ _ _ => pts_nil) (fun _ _ _ _ _ => (pe_call G_record (hr.mono (by decide)) rfl D_record.g D_record.F.kp b_record .nil pass0 (pa_cons (pv 2) pa_nil)))) pa_nil))))))) (pss_one (ps_ret pe_bl)) pss_nil)
      (pss_one (ps_ret (pe_cmpR op_eq (pe_callB call_lenI (by rfl) T.len PySem.boot_len (pa_cons (pe_sc1 (C := numbers _ _) (own := [("record", 1)]) (g := gName 1) rfl sc_records.nd (pi_list (pv 0)) (blkOk_by (N := N_records) (sc := defScope s_records) (by decide +kernel)) (fun _ _ _ _ _ => pg_name (i := 1) sc_records.nd rfl (Or.inl rfl)) (fun _ _ _ _ _ => (pe_call G_id (hr.mono (by decide)) rfl D_id.g D_id.F.kp b_id .nil pass0 (pa_cons (pv 1) pa_nil)))) pa_nil)) (pe_callB (call_len_seq) (by rfl) T.len PySem.boot_len (pa_cons (pv 0) pa_nil)) (nomark _))))), ?_⟩
    obtain ⟨t1, y1, k1⟩ := isi_fact (T := "list") hd (by decide)
    have k0 := k H (Same.refl H)
    refine ⟨_, rfl, _, _, _, _, _, rfl, .ty "list", y1, k1, _, rfl, ?_⟩
    cases hd with
    | non => exact iteT (iteT k0)
    | bl _ => exact iteT (iteT k0)
    | int _ => exact iteT (iteT k0)
    | str _ => exact iteT (iteT k0)
    | tup _ _ => exact iteT (iteT k0)
    | @lst p xs ds hs ha =>
      have sh : ds.all okT = true ∧ ds.length ≤ 500 := by
        have := Bool.and_eq_true_iff.mp sh
        exact ⟨this.1, of_decide_eq_true this.2⟩
      have hl := dpAll_len ha
      refine iteF ?_
      refine ⟨_, rfl, p, rfl, ⟨xs, hs⟩, fun q hq => ?_⟩
      refine lc_list (fun i H' => Same (upd H q (.lst ((ds.take i).map fun d => V.bl (recB d)))) H') (Same.refl _) (fun i H' _ p' => (same_rid hq p').seq hs) (fun i x H' hx p' => ?_) (fun H' p' => ?_)
      · obtain ⟨d, ed, pd⟩ := dpAll_at ha hx
        refine ⟨rfl, ?_⟩
        refine ⟨_, rfl, x, d, rfl, dp_same (same_rid hq p') pd, List.all_eq_true.mp sh.1 d (List.mem_of_getElem? ed), fun H2 s2 => ⟨(ds.take i).map fun d => V.bl (recB d), s2 _ _ (p' _ _ upd_same), ?_, ?_⟩⟩
        · rw [List.length_map, List.length_take]
          exact Nat.lt_of_le_of_lt (Nat.le_trans (Nat.min_le_right _ _) sh.2) (by decide)
        · rw [List.take_add_one, ed, Option.toList_some, List.map_append]
          exact same_upd (p'.trans s2)
      · rw [hl, List.take_length] at p'
        have g0 := p' _ _ upd_same
        refine ⟨q, ds.map recB, rfl, .of ?_, _, rfl, ?_⟩
        · rw [g0, List.map_map]
          rfl
        · have e1 : (ds.map recB).all id = ds.all recB := by rw [List.all_map]; rfl
          rw [e1]
          have sp := same_rid hq p'
          have e : recsB (.list ds) = (ds.all recB && decide ((ds.map idB).Nodup)) := rfl
          rw [e] at k
          cases c : ds.all recB with
          | false =>
            rw [c, Bool.false_and] at k
            exact iteT (k H' sp)
          | true =>
            rw [c, Bool.true_and] at k
            refine iteF ?_
            have sq := sp.seq hs
            refine ⟨_, rfl, p, rfl, ⟨xs, sq⟩, fun q2 hq2 => ?_⟩
            refine itl_W (xs := xs) (fun i H2 => H2 = upd H' q2 (IntO w q2 (distinct ((ds.take i).map idB)))) rfl (fun i H2 _ e => ?_) (fun i x H2 hx e => ?_) (fun H2 e => ?_)
            · subst e
              exact (same_new hq2).seq sq
            · subst e
              obtain ⟨d, ed, pd⟩ := dpAll_at ha hx
              obtain ⟨es, ii, rfl, e0, ei⟩ := rec_id (List.all_eq_true.mp c d (List.mem_of_getElem? ed))
              cases pd with
              | @tup pp ys _ hs2 ha2 =>
              obtain ⟨v0, gv, dv⟩ := dpAll_get ha2 e0
              cases dv
              refine ⟨rfl, _, rfl, pp, ys, .int ii, rfl, Same.seqT (sp.trans (same_new hq2)) hs2, atI_nat (j := 0) gv, distinct ((ds.take i).map idB), _, upd_same, ⟨ii, rfl, ?_, rfl⟩, ?_⟩
              · refine Nat.lt_of_le_of_lt (Nat.succ_le_succ (Nat.le_trans (distinct_len _).1 ?_)) (show 501 < scanBound by decide)
                rw [List.length_map, List.length_take]
                exact Nat.le_trans (Nat.min_le_left _ _) (Nat.le_trans (Nat.le_of_lt (by rw [← hl]; exact (List.getElem?_eq_some_iff.mp hx).1)) sh.2)
              · have tk : (ds.take (i + 1)).map idB = (ds.take i).map idB ++ [ii] := by
                  rw [List.take_add_one, ed, Option.toList_some, List.map_append, List.map_singleton, ei]
                rw [tk, distinct_snoc]
                exact upd_upd_same
            · subst e
              rw [hl, List.take_length]
              have sn := (same_new hq2 (o := IntO w q2 (distinct (ds.map idB)))).seq sq
              refine ⟨q2, distinct (ds.map idB), rfl, upd_same, _, rfl, p, xs, rfl, .inl sn, rfl, ?_⟩
              have e2 : decide (V.int ((distinct (ds.map idB)).length : Int) = V.int (xs.length : Int)) = decide ((ds.map idB).Nodup) := by
                have := (distinct_len (ds.map idB)).2
                rw [List.length_map, ← hl] at this
                refine decide_eq_decide.mpr ⟨fun e => this.mp (by have := V.int.inj e; omega), fun e => by rw [this.mpr e]⟩
              rw [e2]
              exact k _ (sp.trans (same_new hq2))
end
end Sk

set_option Elab.async false
set_option maxRecDepth 100000
set_option maxHeartbeats 4000000
namespace Sk
open PySem L2 PyProof.Rows
section
variable {P : Program} {w : World} {K : PySem.W.Frag} {mg : Str → Option Value} {base : Heap}

theorem key_part {A : Around} {E : Value → Shared → Prop} {s : Shared} {env : Env} {m : Str → Option Value} {p : Addr} {its : Array Value} {i : Nat} {x : Value} {np sp cp : Pos} {ck : Nat} {Q : Value → Shared → Prop}
    (hk : env.scope.kind = .function) (hl : env.kindOf "record" = some .local) (hn : s.heap.Ns env.locals m) (hv : m "record" = some (.ref p)) (ht : IsTup s.heap p its) (hx : its[i]? = some x) (hi : (i : Int) < 2 ^ 62)
    (h : Q x { s with toks := s.toks + 1 }) (hs : ∀ o k, subscripted (.Constant (.int (i : Int)) ck cp) false o k = operate [o, k] (getItem o k) := by intro _ _; rfl) : wpAny (model P w) A (eval (.Subscript (.Name "record" np) (.Constant (.int (i : Int)) ck cp) sp) env) Q E s := by
  refine Subscript_ (wpAny_Name (wpAny_loadName_local hk hl hn hv ?_))
  refine wpAny_Constant_int ?_
  have lt : i < its.size := (Array.getElem?_eq_some_iff.mp hx).1
  exact subscriptTail_builtinR (x := x) ht.typeIs slot_tuple_getitem.lookup (getItem_tuple (j := i) (Q := fun r s' => r = x ∧ Q r s') ht (by omega) (by omega) (by rw [seqIndex_of (by omega) (by omega)]; rfl) hx ⟨rfl, h⟩) (hs _ _)
end
section
variable {P : Program} {w : World} {K : PySem.W.Frag} {mg : Str → Option Value} {base : Heap}
abbrev s_key : Stmt := top 26
abbrev N_key : List Str := ["record"]
abbrev P_key : List Str := ["record"]
theorem sc_key : FnScope N_key P_key (defScope s_key) := ⟨rfl, rfl, rfl, by decide +kernel, rfl, by decide +kernel, by decide +kernel⟩
theorem bi_key {f : Addr} {fd : FuncData} {x : Str} {K : PySem.W.Frag} (F : Fun K x x s_key f fd) : Binds K fd P_key [] :=
  F.binds fun _ _ _ _ _ _ us hl => match us, hl with | [_], _ => rfl
theorem key_fn {f : Addr} {fd : FuncData} (D : Df K mg "_time_and_id" s_key f fd) : KeyFn P w K f := by
  have B := bi_key D.F
  obtain ⟨oc, od, kV, doc, pm, an, cv, ct, osl, rfl, lk, hcd⟩ := D.F.ex
  intro A s p its t i t0 t1 KX lim hroom ht g0 g1
  refine wpAny_call (codeAny_call_function hroom (KX _ _ lk) rfl sc_key.co sc_key.gen rfl (PySem.W.codeRec_of KX hcd) (B s [.ref p] KX rfl _ _ _ _ ?_))
  refine wpAny_newFunctionEnv_cells sc_key.kind (fun y hy => ?_) (fun env he s1 x1 => ?_)
  · have hy : y ∈ [(("record" : Str), Value.ref p)] := hy
    rw [List.mem_singleton] at hy
    subst hy
    exact Or.inl rfl
  · subst he
    refine ⟨lim.keeps x1.toInCall.keep, codeAny_func ?_⟩
    obtain ⟨h1, tk, rfl, hk⟩ := x1.done
    have ns := x1.toInCall.ns
    have ht1 : IsTup h1 p its := ht.keeps hk
    refine wpAny_execs_cons (wpAny_Return_some (wpAny_Tuple_spliced ?_))
    refine Calls.spliced_cons (key_part (i := 1) (x := .int t t1) rfl rfl ns rfl ht1 g1 (by decide) ?_)
    refine Calls.spliced_cons (key_part (i := 0) (x := .int i t0) rfl rfl ns rfl ht1 g0 (by decide) ?_)
    refine Calls.spliced_nil ?_
    refine ⟨show 2 ≤ sizeLine by decide, ?_⟩
    refine ⟨_, _, rfl, fun b o e => Heap.get?_push_of_some _ (hk b o e), ?_⟩
    exact .tuple (Heap.get?_push_size _ rfl) rfl rfl (.cons (.int _ _) (.cons (.int _ _) .nil))
end
end Sk

set_option Elab.async false
set_option maxRecDepth 100000
set_option maxHeartbeats 4000000
namespace Sk
open PySem L2 PyProof.Rows

def spWith (K : PySem.W.Frag) : Sp := fun vs H Q _ => ∃ (p : Addr) (xs : List V) (v : V), vs = [.ref p, v] ∧ SqT K H p xs ∧ 2 ≤ xs.length ∧ xs.length ≤ 6 ∧
  ∀ (r : Addr) (H' : Hp), H r = none → Same H H' → H' r = some (.tup (cutV xs none (some (-1)) ++ [v])) → Q (.ref r) H'
/-- a record whose ends (with "-") are es -/
def RecP (K : PySem.W.Frag) (H : Hp) (x : V) (es : List Str) : Prop := ∃ p xs, x = .ref p ∧ SqT K H p xs ∧ 5 ≤ xs.length ∧ xs.length ≤ 6 ∧ cutV xs (some 2) (some (-2)) = es.map V.str
theorem RecP.same {K : PySem.W.Frag} {H H' : Hp} {x : V} {es : List Str} (h : RecP K H x es) (s : Same H H') : RecP K H' x es := by
  obtain ⟨p, xs, rfl, hs, a, b, c⟩ := h
  exact ⟨p, xs, rfl, Same.seqT s hs, a, b, c⟩
def outs (es : List Str) : List Str := es.filter fun z => !decide (z = ("-" : Str))
def spIn (K : PySem.W.Frag) : Sp := fun vs H Q _ => ∃ (x : V) (es : List Str), vs = [x] ∧ RecP K H x es ∧ ∀ (q : Addr) (H' : Hp), H q = none → Same H H' → H' q = some (.lst ((outs es).map V.str)) → Q (.ref q) H'
def spSeq (K : PySem.W.Frag) : Sp := fun vs H Q _ => ∃ (a : Addr) (xs : List V) (kt : V → Int × Int), vs = [.ref a] ∧ SqL K H a xs ∧ xs.length ≤ 1000 ∧ (∀ x ∈ xs, RecAt K H x (kt x).1 (kt x).2) ∧ ∀ q, H q = none → Q (.ref q) (upd H q (.lst (inSeq kt xs)))
theorem RecP.few {K : PySem.W.Frag} {H : Hp} {x : V} {es : List Str} (h : RecP K H x es) : es.length ≤ 6 := by
  obtain ⟨p, xs, _, _, _, b, c⟩ := h
  have := cutV_length xs (some 2) (some (-2))
  rw [c, List.length_map] at this
  omega
section
variable {P : Program} {w : World} {K : PySem.W.Frag} {mg : Str → Option Value} {base : Heap}
abbrev s_with : Stmt := top 23
abbrev N_with : List Str := ["record", "weight"]
abbrev P_with : List Str := ["record", "weight"]
theorem sc_with : FnScope N_with P_with (defScope s_with) := ⟨rfl, rfl, rfl, by decide +kernel, rfl, by decide +kernel, by decide +kernel⟩
theorem bi_with {f : Addr} {fd : FuncData} {x : Str} {K : PySem.W.Frag} (F : Fun K x x s_with f fd) : Binds K fd P_with [] :=
  F.binds fun _ _ _ _ _ _ us hl => match us, hl with | [_, _], _ => rfl
theorem ok_with {f : Addr} {fd : FuncData} (D : Df K mg "with_weight" s_with f fd) : FnOk P w K mg base CX0 1 f fd P_with (spWith K) := by
  refine D.F.ok sc_with (fun vs H Q E h => ?_) (fun cdv A outer s H vs Q E hr h => ?_)
  · obtain ⟨p, xs, v, rfl, _⟩ := h
    rfl
  · obtain ⟨p, xs, v, rfl, hS, l2, l6, k⟩ := h
    refine ⟨_, (pss_one (ps_ret (pe_tup (StX.pa_star (pe_slice sl_tup (pv 0) po_none (po_some (pe_un un_neg pe_int))) (pa_cons (pv 1) pa_nil))))), ?_⟩
    have hc : ¬ (HT.sIx xs.length 0 none = 0 ∧ HT.sIx xs.length xs.length (some (-1)) = xs.length) := by
      generalize xs.length = n at *
      rcases (by omega : n = 2 ∨ n = 3 ∨ n = 4 ∨ n = 5 ∨ n = 6) with rfl | rfl | rfl | rfl | rfl <;> decide
    refine ⟨_, rfl, _, rfl, _, rfl, p, xs, rfl, hS, hc, fun q hq => ?_⟩
    refine ⟨q, _, rfl, .inl (.of upd_same), _, rfl, ?_, fun r hr => ?_⟩
    · have := cutV_length xs none (some (-1))
      rw [List.length_append, List.length_singleton]
      exact Nat.le_trans (Nat.add_le_add_right (Nat.le_trans this l6) 1) (by decide)
    · have ne : r ≠ q := fun e => by
        subst e
        rw [upd_same] at hr
        cases hr
      have h0 : H r = none := by
        rw [upd_ne ne] at hr
        exact hr
      exact k r _ h0 ((same_new hq).trans (same_new (by rw [upd_ne ne]; exact h0))) upd_same
abbrev s_in : Stmt := top 24
abbrev N_in : List Str := ["record", "end"]
abbrev P_in : List Str := ["record"]
theorem sc_in : FnScope N_in P_in (defScope s_in) := ⟨rfl, rfl, rfl, by decide +kernel, rfl, by decide +kernel, by decide +kernel⟩
theorem bi_in {f : Addr} {fd : FuncData} {x : Str} {K : PySem.W.Frag} (F : Fun K x x s_in f fd) : Binds K fd P_in [] :=
  F.binds fun _ _ _ _ _ _ us hl => match us, hl with | [_], _ => rfl
theorem ok_in {f : Addr} {fd : FuncData} (D : Df K mg "places_in" s_in f fd) (C : Cs mg) : FnOk P w K mg base CX0 1 f fd P_in (spIn K) := by
  obtain ⟨tw, h_out⟩ := id C.out
  refine D.F.ok sc_in (fun vs H Q E h => ?_) (fun cdv A outer s H vs Q E hr h => ?_)
  · obtain ⟨x, es, rfl, _⟩ := h
    rfl
  · obtain ⟨x, es, rfl, R, k⟩ := h
    have few := R.few
    obtain ⟨p, xs, rfl, hS, l5, l6, hes⟩ := R
    refine ⟨_, (pss_one (ps_ret (pe_lc (own := [("end", 1)]) (g := gName 1) rfl sc_in.nd (pi_tup (pe_slice sl_tup (pv 0) (po_some pe_int) (po_some (pe_un un_neg pe_int)))) (blkOk_by (N := N_in) (sc := defScope s_in) (by decide +kernel)) (fun _ _ _ _ _ => pg_name (i := 1) sc_in.nd rfl (Or.inl rfl)) (fun _ _ _ _ _ => (pts_one (pt_cmpR op_ne (pv 1) (pe_glob (v := .str "-") rfl h_out ⟨_, rfl⟩) (nomark _)))) (fun _ _ _ _ _ => (pv 1))))), ?_⟩
    have hc : ¬ (HT.sIx xs.length 0 (some 2) = 0 ∧ HT.sIx xs.length xs.length (some (-2)) = xs.length) := by
      generalize xs.length = n at *
      rcases (by omega : n = 5 ∨ n = 6) with rfl | rfl <;> decide
    refine ⟨_, rfl, _, rfl, _, rfl, _, rfl, p, xs, rfl, hS, hc, fun q hq => ?_⟩
    have sq : Same H (upd H q (.tup (cutV xs (some 2) (some (-2))))) := same_new hq
    rw [hes] at sq ⊢
    have at_q : upd H q (.tup (es.map V.str)) q = some (.tup (es.map V.str)) := upd_same
    generalize upd H q (.tup (es.map V.str)) = H1 at *
    refine ⟨q, rfl, ⟨_, .of at_q⟩, fun q2 hq2 => ?_⟩
    refine lc_tup (xs := es.map V.str) (fun i H' => H' = upd H1 q2 (.lst ((outs (es.take i)).map V.str))) rfl (fun i H' _ e => ?_) (fun i y H' hy e => ?_) (fun H' e => ?_)
    · subst e
      exact Same.seqT (same_new hq2) (.of at_q)
    · subst e
      rw [List.getElem?_map] at hy
      cases ez : es[i]? with
      | none => rw [ez] at hy; cases hy
      | some z =>
        rw [ez] at hy
        cases hy
        have tk : es.take (i + 1) = es.take i ++ [z] := by rw [List.take_add_one, ez]; rfl
        refine ⟨rfl, _, rfl, rfl, ?_⟩
        refine ⟨_, rfl, ?_⟩
        by_cases c : z = ("-" : Str)
        · have o : outs (es.take i ++ [z]) = outs (es.take i) := by
            unfold outs
            rw [List.filter_append, c]
            exact List.append_nil _
          have e0 : (!decide (V.str z = V.str ("-" : Str))) = false := by rw [decide_eq_true (by rw [c])]; rfl
          show (if (!decide (V.str z = V.str ("-" : Str))) = true then _ else _)
          rw [e0, tk, o]
          exact iteF rfl
        · have o : outs (es.take i ++ [z]) = outs (es.take i) ++ [z] := by
            unfold outs
            rw [List.filter_append]
            congr 1
            rw [List.filter_cons, decide_eq_false c]
            rfl
          have e0 : (!decide (V.str z = V.str ("-" : Str))) = true := by rw [decide_eq_false (fun e => c (V.str.inj e))]; rfl
          show (if (!decide (V.str z = V.str ("-" : Str))) = true then _ else _)
          rw [e0, tk, o]
          refine iteT ⟨_, rfl, (outs (es.take i)).map V.str, upd_same, ?_, ?_⟩
          · rw [List.length_map]
            exact Nat.lt_of_le_of_lt (Nat.le_trans (List.length_filter_le _ _) (Nat.le_trans (by rw [List.length_take]; exact Nat.min_le_right _ _) few)) (by decide)
          · rw [List.map_append]
            exact upd_upd_same
    · subst e
      rw [List.length_map, List.take_length]
      refine k q2 _ ?_ (sq.trans (same_new hq2)) upd_same
      cases e : H q2 with
      | none => rfl
      | some o => exact absurd (sq _ _ e) (by rw [hq2]; simp)
abbrev s_seq : Stmt := top 25
abbrev N_seq : List Str := ["records"]
abbrev P_seq : List Str := ["records"]
theorem sc_seq : FnScope N_seq P_seq (defScope s_seq) := ⟨rfl, rfl, rfl, by decide +kernel, rfl, by decide +kernel, by decide +kernel⟩
theorem bi_seq {f : Addr} {fd : FuncData} {x : Str} {K : PySem.W.Frag} (F : Fun K x x s_seq f fd) : Binds K fd P_seq [] :=
  F.binds fun _ _ _ _ _ _ us hl => match us, hl with | [_], _ => rfl
theorem ok_seq {f f1 : Addr} {fd fd1 : FuncData} (D : Df K mg "in_sequence" s_seq f fd) (D_key : Df K mg "_time_and_id" s_key f1 fd1) (T : Bi mg) : FnOk P w K mg base CX0 1 f fd P_seq (spSeq K) := by
  refine D.F.ok sc_seq (fun vs H Q E h => ?_) (fun cdv A outer s H vs Q E hr h => ?_)
  · obtain ⟨a, xs, kt, rfl, _⟩ := h
    rfl
  · obtain ⟨a, xs, kt, rfl, hl, hn, hrec, k⟩ := h
    have hu64 := hr.units
    have hd64 := hr.depth
    have KF : KeyFn P w K f1 := key_fn D_key
    refine ⟨_, (pss_one (ps_ret (pe_callBK (call_sortKey rfl hu64 hd64 KF) (by rfl) T.sorted PyProof.Rows.boot_sorted (pa_cons (pv 0) pa_nil) (pk_cons (pe_glob (v := .ref _) rfl D_key.g rfl) pk_nil)))), ?_⟩
    exact ⟨_, rfl, a, xs, kt, rfl, rfl, hl, hn, hrec, k⟩
end
end Sk

set_option Elab.async false
set_option maxRecDepth 100000
set_option maxHeartbeats 4000000
namespace Sk
open PySem L2 PyProof.Rows

theorem same_self {H : Hp} {q : Addr} {o : HO} (h : H q = some o) : Same (upd H q o) H := fun b x e => by
  by_cases c : b = q
  · subst c
    rw [upd_same] at e
    rw [h]
    exact e
  · rw [upd_ne c] at e
    exact e
def txs (l : List Str) : List Str := l.foldl (fun t k => plus k t) []
theorem txs_snoc (l : List Str) (k : Str) : txs (l ++ [k]) = plus k (txs l) := by
  unfold txs
  rw [List.foldl_append]
  rfl
theorem txs_go (l : List Str) : ∀ t : List Str, (∀ z, z ∈ l.foldl (fun t k => plus k t) t ↔ z ∈ t ∨ z ∈ l) ∧ (l.foldl (fun t k => plus k t) t).length ≤ t.length + l.length := by
  induction l with
  | nil => intro t; simp
  | cons a l ih =>
    intro t
    have lp : (plus a t).length ≤ t.length + 1 := by
      unfold plus
      split <;> simp
    refine ⟨fun z => ?_, ?_⟩
    · rw [List.foldl_cons, (ih _).1, mem_plus, List.mem_cons]
      constructor
      · rintro ((h | h) | h)
        · exact .inr (.inl h)
        · exact .inl h
        · exact .inr (.inr h)
      · rintro (h | h | h)
        · exact .inl (.inr h)
        · exact .inl (.inl h)
        · exact .inr h
    · rw [List.foldl_cons, List.length_cons]
      have := (ih (plus a t)).2
      omega
theorem txs_mem (l : List Str) (z : Str) : z ∈ txs l ↔ z ∈ l := by
  unfold txs
  rw [(txs_go l []).1]
  simp
theorem txs_len (l : List Str) : (txs l).length ≤ l.length := by
  have := (txs_go l []).2
  rw [List.length_nil, Nat.zero_add] at this
  exact this
/-- the places of records, one by one -/
def ends (ev : V → List Str) (xs : List V) : List Str := xs.flatMap fun x => outs (ev x)
theorem ends_snoc (ev : V → List Str) (xs : List V) (x : V) : ends ev (xs ++ [x]) = ends ev xs ++ outs (ev x) := by
  unfold ends
  rw [List.flatMap_append]
  simp
theorem ends_len {K : PySem.W.Frag} {H : Hp} (ev : V → List Str) : ∀ (xs : List V), (∀ x ∈ xs, RecP K H x (ev x)) → (ends ev xs).length ≤ 6 * xs.length
  | [], _ => by simp [ends]
  | x :: xs, h => by
    have ih := ends_len ev xs fun y hy => h y (List.mem_cons_of_mem _ hy)
    have f := (h x (List.mem_cons_self ..)).few
    have g : (outs (ev x)).length ≤ (ev x).length := List.length_filter_le _ _
    have e : ends ev (x :: xs) = outs (ev x) ++ ends ev xs := rfl
    rw [e, List.length_append, List.length_cons]
    omega
def spPlaces (K : PySem.W.Frag) : Sp := fun vs H Q _ => ∃ (a : Addr) (xs : List V) (ev : V → List Str), vs = [.ref a] ∧ SqL K H a xs ∧ xs.length ≤ 500 ∧ (∀ x ∈ xs, RecP K H x (ev x)) ∧
  ∀ (ks : List Str) (q : Addr) (H' : Hp), Canon ks (ends ev xs) → ks.length ≤ (ends ev xs).length → H q = none → Same H H' → H' q = some (.lst (ks.map V.str)) → Q (.ref q) H'
section
variable {P : Program} {w : World} {K : PySem.W.Frag} {mg : Str → Option Value} {base : Heap}
abbrev s_places : Stmt := top 27
abbrev N_places : List Str := ["records", "record", "place"]
abbrev P_places : List Str := ["records"]
theorem sc_places : FnScope N_places P_places (defScope s_places) := ⟨rfl, rfl, rfl, by decide +kernel, rfl, by decide +kernel, by decide +kernel⟩
theorem bi_places {f : Addr} {fd : FuncData} {x : Str} {K : PySem.W.Frag} (F : Fun K x x s_places f fd) : Binds K fd P_places [] :=
  F.binds fun _ _ _ _ _ _ us hl => match us, hl with | [_], _ => rfl
theorem ok_places {f f1 : Addr} {fd fd1 : FuncData} (D : Df K mg "places_of" s_places f fd) (D_in : Df K mg "places_in" s_in f1 fd1) (G_in : FnOk P w K mg base CX0 1 f1 fd1 P_in (spIn K)) (T : Bi mg) : FnOk P w K mg base CX0 2 f fd P_places (spPlaces K) := by
  have b_in := bi_in D_in.F
  refine D.F.ok sc_places (fun vs H Q E h => ?_) (fun cdv A outer s H vs Q E hr h => ?_)
  · obtain ⟨a, xs, ev, rfl, _⟩ := h
    rfl
  · obtain ⟨a, xs, ev, rfl, hl, hn, hrec, k⟩ := h
    refine ⟨_, (pss_one (ps_ret (pe_callB (call_sortTx rfl) (by rfl) T.sorted PyProof.Rows.boot_sorted (pa_cons (pe_sc2 (C := texts _ _) (own := [("record", 1), ("place", 2)]) (vs1 := [2]) (wi1 := iList K (tCall (spIn K) [] E0 (tCons (tVar 1) tNil))) (g := gName 1) (g1 := gName 2) rfl sc_places.nd (pi_list (pv 0)) (blkOk_by (N := N_places) (sc := defScope s_places) (by decide +kernel)) (by decide) (fun _ _ _ _ _ => pg_name (i := 1) sc_places.nd rfl (Or.inl rfl)) (fun _ _ _ _ _ => pi_list (pe_call G_in (hr.mono (by decide)) rfl D_in.g D_in.F.kp b_in .nil pass0 (pa_cons (pv 1) pa_nil))) (fun _ _ _ _ _ => pg_name (i := 2) sc_places.nd rfl (Or.inl rfl)) (fun _ _ _ _ _ => (pv 2))) pa_nil)))), ?_⟩
    refine ⟨_, rfl, a, rfl, ⟨xs, hl⟩, fun d hd => ?_⟩
    refine itl_W (xs := xs) (fun i H' => Same (upd H d (TxO P w d (txs (ends ev (xs.take i))))) H') (Same.refl _) (fun i H' _ p' => (same_rid hd p').seq hl) (fun i x H' hx p' => ?_) (fun H' p' => ?_)
    · have s1 := same_rid hd p'
      have hx0 := List.mem_of_getElem? hx
      have few := (hrec x hx0).few
      have tk : xs.take (i + 1) = xs.take i ++ [x] := by rw [List.take_add_one, hx]; rfl
      have le := ends_len (K := K) (H := H) ev (xs.take i) fun y hy => hrec y (List.mem_of_mem_take hy)
      have li : (xs.take i).length ≤ 500 := by rw [List.length_take]; exact Nat.le_trans (Nat.min_le_right _ _) hn
      have fo : (outs (ev x)).length ≤ 6 := Nat.le_trans (List.length_filter_le _ _) few
      refine ⟨rfl, _, rfl, x, ev x, rfl, (hrec x hx0).same s1, fun q H4 hq s4 eq => ⟨q, rfl, ⟨_, .of eq⟩, ?_⟩⟩
      have d4 : H4 d = some (TxO P w d (txs (ends ev (xs.take i)))) := s4 _ _ (p' _ _ upd_same)
      have qd : q ≠ d := fun e => by
        subst e
        rw [p' _ _ upd_same] at hq
        cases hq
      refine itl_W (xs := (outs (ev x)).map V.str) (fun j H5 => Same (upd H4 d (TxO P w d (txs (ends ev (xs.take i) ++ (outs (ev x)).take j)))) H5) ?_ (fun j H5 _ p5 => .of (p5 _ _ (by rw [upd_ne qd]; exact eq))) (fun j y H5 hy p5 => ?_) (fun H5 p5 => ?_)
      · rw [List.take_zero, List.append_nil]
        exact same_self d4
      · rw [List.getElem?_map] at hy
        cases ez : (outs (ev x))[j]? with
        | none => rw [ez] at hy; cases hy
        | some z =>
          rw [ez] at hy
          cases hy
          refine ⟨rfl, _, rfl, txs (ends ev (xs.take i) ++ (outs (ev x)).take j), _, p5 _ _ upd_same, ⟨z, rfl, ?_, rfl⟩, ?_⟩
          · have := txs_len (ends ev (xs.take i) ++ (outs (ev x)).take j)
            rw [List.length_append, List.length_take] at this
            show _ < 4096
            omega
          · have t2 : (outs (ev x)).take (j + 1) = (outs (ev x)).take j ++ [z] := by rw [List.take_add_one, ez]; rfl
            rw [t2, ← List.append_assoc, txs_snoc]
            exact same_upd p5
      · rw [List.length_map, List.take_length] at p5
        rw [tk, ends_snoc]
        exact (same_upd (p'.trans s4)).trans p5
    · rw [List.take_length] at p'
      have le := ends_len (K := K) (H := H) ev xs hrec
      have tl := txs_len (ends ev xs)
      refine ⟨d, txs (ends ev xs), rfl, p' _ _ upd_same, show _ < 4096 by omega, fun ks q hp hso nd hq => ?_⟩
      have s1 := same_rid hd p'
      refine k ks q _ ⟨hso, hp.nodup_iff.mpr nd, fun z => (hp.mem_iff).trans (txs_mem _ z)⟩ (by rw [hp.length_eq]; omega) ?_ (s1.trans (same_new hq)) upd_same
      cases e : H q with
      | none => rfl
      | some o => exact absurd (s1 _ _ e) (by rw [hq]; simp)
end
end Sk

set_option Elab.async false
set_option maxRecDepth 100000
set_option maxHeartbeats 4000000
namespace Sk
open PySem L2 PyProof.Rows

def tab (ks : List Str) (g : Str → Int) : List (Key × V) := ks.map fun z => ((Sum.inr z : Key), V.int (g z))
theorem tab_val {g : Str → Int} {z : Str} : ∀ {ks : List Str}, z ∈ ks → valV (tab ks g) (.inr z) = some (.int (g z))
  | [], h => nomatch h
  | k :: ks, h => by
    show valV (((Sum.inr k : Key), V.int (g k)) :: tab ks g) (.inr z) = _
    by_cases c : k = z
    · subst c
      exact valV_pos rfl
    · rw [valV_neg (fun e => c (Sum.inr.inj e))]
      exact tab_val ((List.mem_cons.mp h).resolve_left fun e => c e.symm)
theorem tab_non {g : Str → Int} {z : Str} : ∀ {ks : List Str}, z ∉ ks → valV (tab ks g) (.inr z) = none
  | [], _ => rfl
  | k :: ks, h => by
    show valV (((Sum.inr k : Key), V.int (g k)) :: tab ks g) (.inr z) = _
    rw [valV_neg (fun e => h (by rw [Sum.inr.inj e]; exact List.mem_cons_self ..))]
    exact tab_non fun m => h (List.mem_cons_of_mem _ m)
theorem tab_put {ks : List Str} {g : Str → Int} {z : Str} {n : Int} (h : z ∈ ks) : putK (tab ks g) (.inr z) (.int n) = tab ks (fun y => if y = z then n else g y) := by
  unfold putK
  rw [valV_any, tab_val h]
  show (if true = true then _ else _) = _
  rw [if_pos rfl]
  unfold tab
  rw [List.map_map]
  refine List.map_congr_left fun y _ => ?_
  show (if (Sum.inr y : Key) = .inr z then _ else _) = _
  by_cases c : y = z
  · rw [if_pos (by rw [c])]
    show (_, V.int n) = (_, V.int (if y = z then n else g y))
    rw [if_pos c]
  · rw [if_neg (fun e => c (Sum.inr.inj e))]
    show (_, V.int (g y)) = (_, V.int (if y = z then n else g y))
    rw [if_neg c]
theorem tab_same {ks : List Str} {g g' : Str → Int} (h : ∀ z, g z = g' z) : tab ks g = tab ks g' := by
  have : g = g' := funext h
  rw [this]
def occ (l : List Str) (y : Str) : Int := ((l.filter fun z => decide (z = y)).length : Int)
theorem occ_snoc (l : List Str) (z y : Str) : 1 + occ (l ++ [z]) y = if y = z then 1 + occ l z + 1 else 1 + occ l y := by
  unfold occ
  rw [List.filter_append, List.length_append]
  by_cases c : y = z
  · subst c
    rw [if_pos rfl, List.filter_cons, decide_eq_true rfl]
    simp
    omega
  · rw [if_neg c, List.filter_cons, decide_eq_false (fun e => c e.symm)]
    simp
def spStr (K : PySem.W.Frag) : Sp := fun vs H Q _ => ∃ (a : Addr) (xs : List V) (ev : V → List Str), vs = [.ref a] ∧ SqL K H a xs ∧ xs.length ≤ 500 ∧ (∀ x ∈ xs, RecP K H x (ev x)) ∧
  ∀ (ks : List Str) (q : Addr) (H' : Hp), Canon ks (ends ev xs) → ks.length ≤ (ends ev xs).length → H q = none → Same H H' → H' q = some (.dK (tab ks fun z => 1 + occ (ends ev xs) z)) → Q (.ref q) H'
section
variable {P : Program} {w : World} {K : PySem.W.Frag} {mg : Str → Option Value} {base : Heap}
abbrev s_stretches : Stmt := top 28
abbrev N_stretches : List Str := ["records", "numbers", "record", "place"]
abbrev P_stretches : List Str := ["records"]
theorem sc_stretches : FnScope N_stretches P_stretches (defScope s_stretches) := ⟨rfl, rfl, rfl, by decide +kernel, rfl, by decide +kernel, by decide +kernel⟩
theorem bi_stretches {f : Addr} {fd : FuncData} {x : Str} {K : PySem.W.Frag} (F : Fun K x x s_stretches f fd) : Binds K fd P_stretches [] :=
  F.binds fun _ _ _ _ _ _ us hl => match us, hl with | [_], _ => rfl
theorem ok_stretches {f f1 f2 : Addr} {fd fd1 fd2 : FuncData} (D : Df K mg "stretches_of" s_stretches f fd) (D_places : Df K mg "places_of" s_places f1 fd1) (G_places : FnOk P w K mg base CX0 2 f1 fd1 P_places (spPlaces K))
    (D_in : Df K mg "places_in" s_in f2 fd2) (G_in : FnOk P w K mg base CX0 1 f2 fd2 P_in (spIn K)) (T : Bi mg) : FnOk P w K mg base CX0 3 f fd P_stretches (spStr K) := by
  have b_places := bi_places D_places.F
  have b_in := bi_in D_in.F
  refine D.F.ok sc_stretches (fun vs H Q E h => ?_) (fun cdv A outer s H vs Q E hr h => ?_)
  · obtain ⟨a, xs, ev, rfl, _⟩ := h
    rfl
  · obtain ⟨a, xs, ev, rfl, hl, hn, hrec, k⟩ := h
    have hu64 := hr.units
    have hu : (cxOf CX0 P w K mg base N_stretches "stretches_of" (defScope s_stretches) f cdv A outer s H E).nox.A.units + 1 < cLine := by
      have : (A.deeper (envOfC "stretches_of" (defScope s_stretches) s.heap.objs.size f cdv)).units + 64 < cLine := hu64
      show (A.deeper _).units + 1 < cLine
      omega
    refine ⟨_, (pss_cons (ps_setDc (slot := 1) (own := [("place", 3)]) (g := gName 3) rfl sc_stretches.nd rfl rfl (sw_dict rfl rfl rfl (by decide +kernel)) (pi_list (pe_call G_places (hr.mono (by decide)) rfl D_places.g D_places.F.kp b_places .nil pass0 (pa_cons (pv 0) pa_nil))) (blkOk_by (N := N_stretches) (sc := defScope s_stretches) (by decide +kernel)) (fun _ _ _ _ _ => pg_name (i := 3) sc_stretches.nd rfl (Or.inl rfl)) (fun _ _ _ _ _ => (pv 3)) (fun _ _ _ _ _ => pe_int))
      (pss_cons (ps_for PassesOwn.never rfl (pi_list (pv 0)) (pg_name (i := 2) sc_stretches.nd rfl (Or.inl rfl))
      (pss_one (ps_for PassesOwn.never rfl (pi_list (pe_call G_in (hr.mono (by decide)) rfl D_in.g D_in.F.kp b_in .nil pass0 (pa_cons (pv 2) pa_nil))) (pg_name (i := 3) sc_stretches.nd rfl (Or.inl rfl))
        (pss_one (ps_daug hu (pv 1) (pv 3) pe_int in_add (fun _ _ _ => rfl))))))
      (pss_one (ps_ret (pv 1))))), ?_⟩
    refine ⟨_, rfl, a, xs, ev, rfl, hl, hn, hrec, fun ks q H1 can kl0 hq s1 eq => ⟨q, rfl, ⟨_, .of eq⟩, fun d hd => ?_⟩⟩
    have kl : ks.length ≤ 3000 := by
      have := ends_len (K := K) (H := H) ev xs hrec
      omega
    have h0d : H d = none := by
      cases e : H d with
      | none => rfl
      | some o => exact absurd (s1 _ _ e) (by rw [hd]; simp)
    refine itl_W (xs := ks.map V.str) (fun i H' => H' = upd H1 d (.dK (tab (ks.take i) fun _ => 1))) rfl (fun i H' _ e => ?_) (fun i y H' hy e => ?_) (fun H' e => ?_)
    · subst e
      exact .of (same_new hd _ _ eq)
    · subst e
      rw [List.getElem?_map] at hy
      cases ez : ks[i]? with
      | none => rw [ez] at hy; cases hy
      | some z =>
        rw [ez] at hy
        cases hy
        have tk : ks.take (i + 1) = ks.take i ++ [z] := by rw [List.take_add_one, ez]; rfl
        have nm : z ∉ ks.take i := fun m => by
          obtain ⟨j, hj, e⟩ := List.getElem_of_mem m
          rw [List.length_take] at hj
          rw [List.getElem_take] at e
          have lt : i < ks.length := (List.getElem?_eq_some_iff.mp ez).1
          have e2 : ks[i] = z := (List.getElem?_eq_some_iff.mp ez).2
          have := (List.getElem_inj (h₀ := by omega) (h₁ := lt) can.2.1).mp (e.trans e2.symm)
          omega
        refine ⟨rfl, _, rfl, tab (ks.take i) (fun _ => 1), .inr z, rfl, upd_same, ?_, ?_⟩
        · unfold tab
          rw [List.length_map, List.length_take]
          exact Nat.lt_of_le_of_lt (Nat.le_trans (Nat.min_le_right _ _) kl) (by decide)
        · rw [putK_new _ (tab_non nm), tk]
          unfold tab
          rw [List.map_append]
          exact upd_upd_same
    · subst e
      rw [List.length_map, List.take_length]
      have sq : Same H (upd H1 d (.dK (tab ks fun _ => 1))) := s1.trans (same_new hd)
      refine ⟨_, rfl, a, rfl, ⟨xs, sq.seq hl⟩, ?_⟩
      refine for_list (xs := xs) (fun i σ H' => (∃ v2 v3, σ = [some (.ref a), some (.ref d), v2, v3]) ∧ Same (upd H1 d (.dK (tab ks fun z => 1 + occ (ends ev (xs.take i)) z))) H') ⟨⟨_, _, rfl⟩, Same.refl _⟩
        (fun i σ H' _ p' => ((s1.trans (same_new hd)).trans p'.2).seq hl) (fun i x σ H' hx p' => ?_) (fun σ H' p' => ?_)
      · obtain ⟨⟨v2, v3, rfl⟩, p'⟩ := p'
        have sx := (s1.trans (same_new hd)).trans p'
        have hx0 := List.mem_of_getElem? hx
        have tk : xs.take (i + 1) = xs.take i ++ [x] := by rw [List.take_add_one, hx]; rfl
        refine ⟨_, rfl, x, ev x, rfl, (hrec x hx0).same sx, fun r H4 hr4 s4 eq4 => ⟨r, rfl, ⟨_, .of eq4⟩, ?_⟩⟩
        have rd : r ≠ d := fun e => by
          subst e
          rw [p' _ _ upd_same] at hr4
          cases hr4
        have d4 := s4 _ _ (p' _ _ upd_same)
        refine for_list (xs := (outs (ev x)).map V.str) (fun j σ H5 => (∃ v3, σ = [some (.ref a), some (.ref d), some x, v3]) ∧ Same (upd H4 d (.dK (tab ks fun z => 1 + occ (ends ev (xs.take i) ++ (outs (ev x)).take j) z))) H5)
          ⟨⟨_, rfl⟩, ?_⟩ (fun j σ H5 _ p5 => .of (p5.2 _ _ (by rw [upd_ne rd]; exact eq4))) (fun j y σ H5 hy p5 => ?_) (fun σ H5 p5 => ?_)
        · rw [List.take_zero, List.append_nil]
          exact same_self d4
        · obtain ⟨⟨v3, rfl⟩, p5⟩ := p5
          rw [List.getElem?_map] at hy
          cases ez : (outs (ev x))[j]? with
          | none => rw [ez] at hy; cases hy
          | some z =>
            rw [ez] at hy
            cases hy
            have zin : z ∈ ks := (can.2.2 z).mpr (List.mem_flatMap.mpr ⟨x, hx0, List.mem_of_getElem? ez⟩)
            have t2 : (outs (ev x)).take (j + 1) = (outs (ev x)).take j ++ [z] := by rw [List.take_add_one, ez]; rfl
            have at5 := p5 _ _ upd_same
            have get : DGet H5 d (V.str z) (some (V.int (1 + occ (ends ev (xs.take i) ++ (outs (ev x)).take j) z))) := by
              have := DGet.k (k := (.inr z : Key)) at5
              rw [tab_val zin] at this
              exact this
            have few : (tab ks fun z => 1 + occ (ends ev (xs.take i) ++ (outs (ev x)).take j) z).length < sizeLine := by
              unfold tab
              rw [List.length_map]
              exact Nat.lt_of_le_of_lt kl (by decide)
            refine ⟨_, rfl, _, rfl, d, _, rfl, get, _, 1, rfl, rfl, _, DPut.k (k := (.inr z : Key)) at5 few, ⟨_, rfl⟩, ?_⟩
            rw [tab_put zin, t2, ← List.append_assoc]
            rw [tab_same (g' := fun y => 1 + occ (ends ev (xs.take i) ++ (outs (ev x)).take j ++ [z]) y) fun y => (occ_snoc _ z y).symm]
            exact same_upd p5
        · obtain ⟨⟨v3, rfl⟩, p5⟩ := p5
          rw [List.length_map, List.take_length] at p5
          refine ⟨⟨_, _, rfl⟩, ?_⟩
          rw [tk, ends_snoc]
          exact (same_upd (p'.trans s4)).trans p5
      · obtain ⟨⟨v2, v3, rfl⟩, p'⟩ := p'
        rw [List.take_length] at p'
        exact ⟨_, rfl, k ks d _ can kl0 h0d ((s1.trans (same_new hd)).trans p') (p' _ _ upd_same)⟩
end
end Sk

set_option Elab.async false
set_option maxRecDepth 100000
set_option maxHeartbeats 4000000
namespace Sk
open PySem L2 PyProof.Rows

/-! ### what is shown -/
theorem shows_flat {v : V} (h : Flat v) : ShowsX (toD v) := by
  obtain ⟨a, b, _, d, e⟩ := flat_leaf h
  exact ⟨a, b, by rw [d]; decide, Nat.le_trans e (by decide)⟩
theorem Shows.x {d : PyData} (h : Shows d) : ShowsX d := ⟨h.short, h.sh, h.dp, h.wt⟩
def Rowy (d : PyData) : Prop := ∃ ys : List V, d = .tuple (ys.map toD) ∧ (∀ y ∈ ys, Flat y) ∧ ys.length ≤ 10
theorem rowy_one {d : PyData} (h : Rowy d) : d.leavesShort 13 = true ∧ d.showable = true ∧ d.depth ≤ 1 ∧ d.weight ≤ 410 := by
  obtain ⟨ys, rfl, f, l⟩ := h
  obtain ⟨b1, b2, b3, b4, b5⟩ := flat_all f
  exact ⟨by simp only [PyData.leavesShort]; exact b1, by simp only [PyData.showable]; exact b2, by simp only [PyData.depth]; omega, by simp only [PyData.weight]; omega⟩
theorem rowy_all : ∀ {ds : List PyData}, (∀ d ∈ ds, Rowy d) → PyData.leavesShortAll 13 ds = true ∧ PyData.showableAll ds = true ∧ PyData.depthAll ds ≤ 1 ∧ PyData.weightAll ds ≤ 411 * ds.length
  | [], _ => ⟨by simp only [PyData.leavesShortAll], by simp only [PyData.showableAll], by simp only [PyData.depthAll]; omega, by simp only [PyData.weightAll]; omega⟩
  | d :: ds, h => by
    obtain ⟨a1, a2, a3, a4⟩ := rowy_one (h d (List.mem_cons_self ..))
    obtain ⟨b1, b2, b3, b4⟩ := rowy_all (ds := ds) fun e he => h e (List.mem_cons_of_mem _ he)
    refine ⟨?_, ?_, ?_, ?_⟩
    · simp only [PyData.leavesShortAll, a1, b1, Bool.and_self]
    · simp only [PyData.showableAll, a2, b2, Bool.and_self]
    · simp only [PyData.depthAll]
      omega
    · simp only [PyData.weightAll, List.length_cons]
      omega
theorem shows_rows {ds : List PyData} (h : ∀ d ∈ ds, Rowy d) (l : ds.length ≤ 1000) : ShowsX (.list ds) := by
  obtain ⟨b1, b2, b3, b4⟩ := rowy_all h
  exact ⟨by simp only [PyData.leavesShort]; exact b1, by simp only [PyData.showable]; exact b2, by simp only [PyData.depth]; omega, by simp only [PyData.weight]; omega⟩
def kvD (kvs : List (Key × V)) : List (PyData × PyData) := kvs.map fun e => (keyDat e.1, toD e.2)
def FlatK (e : Key × V) : Prop := Flat e.2 ∧ Flat (kV e.1)
theorem keyDat_eq : ∀ k : Key, keyDat k = toD (kV k)
  | .inl _ => rfl
  | .inr _ => rfl
theorem kv_all : ∀ {kvs : List (Key × V)}, (∀ e ∈ kvs, FlatK e) → PyData.leavesShortKv 13 (kvD kvs) = true ∧ PyData.showableKv (kvD kvs) = true ∧ PyData.depthKv (kvD kvs) = 0 ∧ PyData.weightKv (kvD kvs) ≤ 82 * kvs.length
  | [], _ => ⟨by simp only [kvD, List.map_nil, PyData.leavesShortKv], by simp only [kvD, List.map_nil, PyData.showableKv], rfl, by simp only [kvD, List.map_nil, PyData.weightKv]; omega⟩
  | e :: kvs, h => by
    obtain ⟨f1, f2⟩ := h e (List.mem_cons_self ..)
    obtain ⟨a1, a2, _, a4, a5⟩ := flat_leaf f1
    obtain ⟨c1, c2, _, c4, c5⟩ := flat_leaf f2
    rw [← keyDat_eq] at c1 c2 c4 c5
    obtain ⟨b1, b2, b3, b4⟩ := kv_all (kvs := kvs) fun x hx => h x (List.mem_cons_of_mem _ hx)
    have s : kvD (e :: kvs) = (keyDat e.1, toD e.2) :: kvD kvs := rfl
    rw [s]
    refine ⟨?_, ?_, ?_, ?_⟩
    · simp only [PyData.leavesShortKv, a1, c1, b1, Bool.and_self]
    · simp only [PyData.showableKv, a2, c2, b2, Bool.and_self]
    · simp only [PyData.depthKv, a4, c4, b3, Nat.max_self]
    · simp only [PyData.weightKv, List.length_cons]
      omega
theorem shows_dict {kvs : List (Key × V)} (h : ∀ e ∈ kvs, FlatK e) (l : kvs.length ≤ 1000) : ShowsX (.dict (kvD kvs)) := by
  obtain ⟨b1, b2, b3, b4⟩ := kv_all h
  exact ⟨by simp only [PyData.leavesShort]; exact b1, by simp only [PyData.showable]; exact b2, by simp only [PyData.depth]; omega, by simp only [PyData.weight]; omega⟩
/-! ### pairs of the same -/
theorem DpX.same {K : PySem.W.Frag} {H H' : Hp} {v : V} {d : PyData} (s : Same H H') (h : DpX K H v d) : DpX K H' v d := by
  cases h with
  | of h => exact .of (dp_same s h)
  | dic e f => exact .dic (s _ _ e) f
def PairOk (K : PySem.W.Frag) (H : Hp) (x : V) : Prop := ∃ p v1 v2 d, x = .ref p ∧ SqT K H p [v1, v2] ∧ DpX K H v1 d ∧ DpX K H v2 d ∧ ShowsX d
theorem PairOk.same {K : PySem.W.Frag} {H H' : Hp} {x : V} (h : PairOk K H x) (s : Same H H') : PairOk K H' x := by
  obtain ⟨p, v1, v2, d, rfl, hs, a, b, c⟩ := h
  exact ⟨p, v1, v2, d, rfl, Same.seqT s hs, a.same s, b.same s, c⟩
theorem pair_flat {K : PySem.W.Frag} {H : Hp} {t : Addr} {v : V} (h : H t = some (.tup [v, v])) (f : Flat v) : PairOk K H (.ref t) := ⟨t, v, v, toD v, rfl, .of h, .of (dp_flat f), .of (dp_flat f), shows_flat f⟩
theorem all_app {K : PySem.W.Frag} {H : Hp} {xs ys : List V} (a : ∀ x ∈ xs, PairOk K H x) (b : ∀ x ∈ ys, PairOk K H x) : ∀ x ∈ xs ++ ys, PairOk K H x := fun x hx => (List.mem_append.mp hx).elim (a x) (b x)
theorem all_one {K : PySem.W.Frag} {H : Hp} {x : V} (a : PairOk K H x) : ∀ y ∈ [x], PairOk K H y := fun y hy => by rw [List.mem_singleton.mp hy]; exact a
theorem all_two {K : PySem.W.Frag} {H : Hp} {x z : V} (a : PairOk K H x) (b : PairOk K H z) : ∀ y ∈ [x, z], PairOk K H y := fun y hy => by
  rcases List.mem_cons.mp hy with rfl | hy
  · exact a
  · rw [List.mem_singleton.mp hy]
    exact b
theorem all_same {K : PySem.W.Frag} {H H' : Hp} {xs : List V} (s : Same H H') (a : ∀ x ∈ xs, PairOk K H x) : ∀ x ∈ xs, PairOk K H' x := fun x hx => (a x hx).same s
/-- the heap without one -/
def del (H : Hp) (L : Addr) : Hp := fun b => if b = L then none else H b
theorem del_at {H : Hp} {L : Addr} : del H L L = none := if_pos rfl
theorem del_ne {H : Hp} {L b : Addr} (h : b ≠ L) : del H L b = H b := if_neg h
/-- a list of pairs that grows in its place -/
def Core (K : PySem.W.Frag) (H0 H : Hp) (L : Addr) (ps : List V) : Prop := ∃ Hc, Hc L = none ∧ Same H0 Hc ∧ Same Hc H ∧ H L = some (.lst ps) ∧ ∀ x ∈ ps, PairOk K Hc x
theorem core_new {K : PySem.W.Frag} {H0 H : Hp} {L : Addr} {ps : List V} (h : H L = none) (s : Same H0 H) (a : ∀ x ∈ ps, PairOk K H x) : Core K H0 (upd H L (.lst ps)) L ps := ⟨H, h, s, same_new h, upd_same, a⟩
theorem Core.base {K : PySem.W.Frag} {H0 H : Hp} {L : Addr} {ps : List V} (c : Core K H0 H L ps) : Same H0 H := by
  obtain ⟨Hc, _, a, b, _⟩ := c
  exact a.trans b
theorem core_add {K : PySem.W.Frag} {H0 H H' : Hp} {L : Addr} {ps : List V} {x : V} (c : Core K H0 H L ps) (s : Same H H') (p : PairOk K (del H' L) x) : Core K H0 (upd H' L (.lst (ps ++ [x]))) L (ps ++ [x]) := by
  obtain ⟨Hc, n, a, b, e, al⟩ := c
  have sd : Same Hc (del H' L) := fun y o h => by
    have ne : y ≠ L := fun z => by rw [z, n] at h; cases h
    rw [del_ne ne]
    exact s _ _ (b _ _ h)
  refine ⟨del H' L, del_at, a.trans sd, fun y o h => ?_, upd_same, all_app (all_same sd al) (all_one p)⟩
  have ne : y ≠ L := fun z => by rw [z, del_at] at h; cases h
  rw [upd_ne ne]
  rw [del_ne ne] at h
  exact h
theorem Urn.same {H H' : Hp} {u : Addr} (U : Urn H u) (s : Same H H') : Urn H' u := by
  obtain ⟨dg, mx, e, r⟩ := U
  exact ⟨dg, mx, s _ _ e, r⟩
end Sk

set_option Elab.async false
set_option maxRecDepth 100000
set_option maxHeartbeats 4000000
namespace Sk
open PySem L2 PyProof.Rows

theorem pair_rows {K : PySem.W.Frag} {H : Hp} {t q1 q2 : Addr} {I : List V} (ht : H t = some (.tup [.ref q1, .ref q2])) (h1 : H q1 = some (.lst I)) (h2 : H q2 = some (.lst I)) (dm : V → PyData)
    (al : ∀ y ∈ I, Dp K H y (dm y) ∧ Rowy (dm y)) (len : I.length ≤ 1000) : PairOk K H (.ref t) := by
  have da : ∀ {l : List V}, (∀ y ∈ l, Dp K H y (dm y) ∧ Rowy (dm y)) → DpAll K H l (l.map dm) := fun {l} => by
    induction l with
    | nil => exact fun _ => .nil
    | cons y l ih => exact fun h => .cons (h y (List.mem_cons_self ..)).1 (ih fun z hz => h z (List.mem_cons_of_mem _ hz))
  refine ⟨t, _, _, .list (I.map dm), rfl, .of ht, .of (.lst (.of h1) (da al)), .of (.lst (.of h2) (da al)), shows_rows (fun d hd => ?_) (by rw [List.length_map]; exact len)⟩
  obtain ⟨y, hy, rfl⟩ := List.mem_map.mp hd
  exact (al y hy).2
theorem pair_texts {K : PySem.W.Frag} {H : Hp} {t q1 q2 : Addr} {ks : List Str} (ht : H t = some (.tup [.ref q1, .ref q2])) (h1 : H q1 = some (.lst (ks.map V.str))) (h2 : H q2 = some (.lst (ks.map V.str)))
    (al : ∀ z ∈ ks, Flat (.str z)) (len : ks.length ≤ 1000) : PairOk K H (.ref t) := by
  have f : ∀ x ∈ ks.map V.str, Flat x := fun x hx => by
    obtain ⟨z, hz, rfl⟩ := List.mem_map.mp hx
    exact al z hz
  exact ⟨t, _, _, .list ((ks.map V.str).map toD), rfl, .of ht, .of (.lst (.of h1) (dpAll_flat f)), .of (.lst (.of h2) (dpAll_flat f)), (shows_lst f (by rw [List.length_map]; exact len)).x⟩
theorem pair_tups {K : PySem.W.Frag} {H : Hp} {t q1 q2 : Addr} {ys : List V} (ht : H t = some (.tup [.ref q1, .ref q2])) (h1 : H q1 = some (.tup ys)) (h2 : H q2 = some (.tup ys))
    (al : ∀ y ∈ ys, Flat y) (len : ys.length ≤ 1000) : PairOk K H (.ref t) :=
  ⟨t, _, _, .tuple (ys.map toD), rfl, .of ht, .of (.tup (.of h1) (dpAll_flat al)), .of (.tup (.of h2) (dpAll_flat al)), (shows_tup al len).x⟩
theorem pair_dict {K : PySem.W.Frag} {H : Hp} {t q1 q2 : Addr} {kvs : List (Key × V)} (ht : H t = some (.tup [.ref q1, .ref q2])) (h1 : H q1 = some (.dK kvs)) (h2 : H q2 = some (.dK kvs))
    (al : ∀ e ∈ kvs, FlatK e) (len : kvs.length ≤ 1000) : PairOk K H (.ref t) :=
  ⟨t, _, _, _, rfl, .of ht, .dic h1 (fun e he => (al e he).1), .dic h2 (fun e he => (al e he).1), shows_dict al len⟩
theorem flat_ab {z : Str} (h : z ∈ (["a", "b", "b"] : List Str)) : Flat (.str z) := by
  simp only [List.mem_cons, List.not_mem_nil, or_false] at h
  rcases h with rfl | rfl | rfl <;> decide +kernel
theorem occ_le (l : List Str) (z : Str) : 0 ≤ occ l z ∧ occ l z ≤ l.length := by
  unfold occ
  have := List.length_filter_le (fun y => decide (y = z)) l
  omega
theorem flat_int {i : Int} (h : -1000000000 ≤ i) (h' : i ≤ 1000000000) : Flat (.int i) := by
  show decide (i.natAbs < 1000000000000) = true
  exact decide_eq_true (by omega)
theorem tab_flat {ks : List Str} {l : List Str} (h : ∀ z ∈ ks, z ∈ (["a", "b", "b"] : List Str)) (hl : l.length ≤ 100) : ∀ e ∈ tab ks fun z => 1 + occ l z, FlatK e := fun e he => by
  obtain ⟨z, hz, rfl⟩ := List.mem_map.mp he
  have := occ_le l z
  exact ⟨flat_int (i := 1 + occ l z) (by omega) (by omega), flat_ab (h z hz)⟩
theorem wk_place {f : Addr} {fd : FuncData} {x : Str} {K : PySem.W.Frag} (F : Fun K x x s_place f fd) : KwOnly fd P_place ["value"] 1 id id := by
  obtain ⟨oc, od, kV, doc, pm, an, cv, ct, osl, rfl, lk, hcd⟩ := F.ex
  exact kw_one fun u => rfl
theorem wk_isw {f : Addr} {fd : FuncData} {x : Str} {K : PySem.W.Frag} (F : Fun K x x s_isw f fd) : KwOnly fd P_isw ["value"] 1 id id := by
  obtain ⟨oc, od, kV, doc, pm, an, cv, ct, osl, rfl, lk, hcd⟩ := F.ex
  exact kw_one fun u => rfl
theorem wk_cost {f : Addr} {fd : FuncData} {x : Str} {K : PySem.W.Frag} (F : Fun K x x s_cost f fd) : KwOnly fd P_cost ["value"] 1 id id := by
  obtain ⟨oc, od, kV, doc, pm, an, cv, ct, osl, rfl, lk, hcd⟩ := F.ex
  exact kw_one fun u => rfl
theorem wk_move {f : Addr} {fd : FuncData} {x : Str} {K : PySem.W.Frag} (F : Fun K x x s_move f fd) : KwOnly fd P_move ["value"] 1 id id := by
  obtain ⟨oc, od, kV, doc, pm, an, cv, ct, osl, rfl, lk, hcd⟩ := F.ex
  exact kw_one fun u => rfl
theorem wk_count {f : Addr} {fd : FuncData} {x : Str} {K : PySem.W.Frag} (F : Fun K x x s_count f fd) : KwOnly fd P_count ["value"] 1 id id := by
  obtain ⟨oc, od, kV, doc, pm, an, cv, ct, osl, rfl, lk, hcd⟩ := F.ex
  exact kw_one fun u => rfl
theorem wk_record {f : Addr} {fd : FuncData} {x : Str} {K : PySem.W.Frag} (F : Fun K x x s_record f fd) : KwOnly fd P_record ["value"] 1 id id := by
  obtain ⟨oc, od, kV, doc, pm, an, cv, ct, osl, rfl, lk, hcd⟩ := F.ex
  exact kw_one fun u => rfl
theorem wk_records {f : Addr} {fd : FuncData} {x : Str} {K : PySem.W.Frag} (F : Fun K x x s_records f fd) : KwOnly fd P_records ["value"] 1 id id := by
  obtain ⟨oc, od, kV, doc, pm, an, cv, ct, osl, rfl, lk, hcd⟩ := F.ex
  exact kw_one fun u => rfl
theorem wk_seq {f : Addr} {fd : FuncData} {x : Str} {K : PySem.W.Frag} (F : Fun K x x s_seq f fd) : KwOnly fd P_seq ["records"] 1 id id := by
  obtain ⟨oc, od, kV, doc, pm, an, cv, ct, osl, rfl, lk, hcd⟩ := F.ex
  exact kw_one fun u => rfl
theorem wk_places {f : Addr} {fd : FuncData} {x : Str} {K : PySem.W.Frag} (F : Fun K x x s_places f fd) : KwOnly fd P_places ["records"] 1 id id := by
  obtain ⟨oc, od, kV, doc, pm, an, cv, ct, osl, rfl, lk, hcd⟩ := F.ex
  exact kw_one fun u => rfl
theorem wk_stretches {f : Addr} {fd : FuncData} {x : Str} {K : PySem.W.Frag} (F : Fun K x x s_stretches f fd) : KwOnly fd P_stretches ["records"] 1 id id := by
  obtain ⟨oc, od, kV, doc, pm, an, cv, ct, osl, rfl, lk, hcd⟩ := F.ex
  exact kw_one fun u => rfl
theorem wk_written {f : Addr} {fd : FuncData} {x : Str} {K : PySem.W.Frag} (F : Fun K x x s_written f fd) : KwOnly fd P_written ["record"] 1 id id := by
  obtain ⟨oc, od, kV, doc, pm, an, cv, ct, osl, rfl, lk, hcd⟩ := F.ex
  exact kw_one fun u => rfl
theorem wk_weight {f : Addr} {fd : FuncData} {x : Str} {K : PySem.W.Frag} (F : Fun K x x s_weight f fd) : KwOnly fd P_weight ["record"] 1 id id := by
  obtain ⟨oc, od, kV, doc, pm, an, cv, ct, osl, rfl, lk, hcd⟩ := F.ex
  exact kw_one fun u => rfl
def swap {α : Type} : List α → List α
  | [a, b] => [b, a]
  | l => l
theorem wk_with {f : Addr} {fd : FuncData} {x : Str} {K : PySem.W.Frag} (F : Fun K x x s_with f fd) : KwOnly fd P_with ["weight", "record"] 2 swap swap := by
  obtain ⟨oc, od, kV, doc, pm, an, cv, ct, osl, rfl, lk, hcd⟩ := F.ex
  refine ⟨fun s ws hl => ?_, fun {zs ws} r => ?_⟩
  · match ws, hl with
    | [a, b], _ => exact .of_eq rfl
  · cases r with
    | nil => exact .nil
    | cons r1 r =>
      cases r with
      | nil => exact .cons r1 .nil
      | cons r2 r =>
        cases r with
        | nil => exact .cons r2 (.cons r1 .nil)
        | cons r3 r => exact .cons r1 (.cons r2 (.cons r3 r))
def spLaw (K : PySem.W.Frag) : Sp := fun vs H Q _ => ∃ (a : Addr) (ns : List Int), vs = [.ref a] ∧ SqL K H a (ns.map V.int) ∧ ns.length ≤ 63 ∧ (∀ z ∈ ns, Builtin.Int.intBits z ≤ 1048576) ∧ ∀ H', Q (.bl true) H'
end Sk

set_option Elab.async false
set_option maxRecDepth 100000
set_option maxHeartbeats 4000000
namespace Sk
open PySem L2 PyProof.Rows
section
variable {P : Program} {w : World} {K : PySem.W.Frag} {mg : Str → Option Value} {base : Heap}
abbrev s_law : Stmt := top 33
abbrev N_law : List Str := ["script", "start", "urn", "turn", "rows", "thing", "pairs", "pair"]
abbrev P_law : List Str := ["script"]
theorem sc_law : FnScope N_law P_law (defScope s_law) := ⟨rfl, rfl, rfl, by decide +kernel, rfl, by decide +kernel, by decide +kernel⟩
theorem bi_law {f : Addr} {fd : FuncData} {x : Str} {K : PySem.W.Frag} (F : Fun K x x s_law f fd) : Binds K fd P_law [] :=
  F.binds fun _ _ _ _ _ _ us hl => match us, hl with | [_], _ => rfl
theorem ok_law {f f1 f2 f3 f4 f5 f6 f7 f8 f9 f10 f11 f12 f13 f14 f15 f16 f17 f18 f19 f20 f21 f22 f23 : Addr} {fd fd1 fd2 fd3 fd4 fd5 fd6 fd7 fd8 fd9 fd10 fd11 fd12 fd13 fd14 fd15 fd16 fd17 fd18 fd19 fd20 fd21 fd22 fd23 : FuncData} (D : Df K mg "law" s_law f fd) (D_urn : Df K mg "_law_urn" s_urn f1 fd1) (D_draw : Df K mg "_law_draw" s_draw f2 fd2) (D_choose : Df K mg "_law_choose" s_choose f3 fd3) (D_integer : Df K mg "is_integer" s_integer f4 fd4) (D_within : Df K mg "is_within" s_within f5 fd5) (D_place : Df K mg "is_place" s_place f6 fd6) (D_isw : Df K mg "is_weight" s_isw f7 fd7) (D_cost : Df K mg "is_cost" s_cost f8 fd8) (D_end : Df K mg "_is_end" s_end f9 fd9) (D_parts : Df K mg "_has_parts" s_parts f10 fd10) (D_written : Df K mg "written" s_written f11 fd11) (D_weight : Df K mg "weight_of" s_weight f12 fd12) (D_id : Df K mg "id_of" s_id f13 fd13) (D_move : Df K mg "is_move" s_move f14 fd14) (D_count : Df K mg "is_count" s_count f15 fd15) (D_record : Df K mg "is_record" s_record f16 fd16) (D_records : Df K mg "are_records" s_records f17 fd17) (D_with : Df K mg "with_weight" s_with f18 fd18) (D_in : Df K mg "places_in" s_in f19 fd19) (D_key : Df K mg "_time_and_id" s_key f20 fd20) (D_seq : Df K mg "in_sequence" s_seq f21 fd21) (D_places : Df K mg "places_of" s_places f22 fd22) (D_stretches : Df K mg "stretches_of" s_stretches f23 fd23) (T : Bi mg) (C : Cs mg) : AtTop P w K mg base f fd P_law (spLaw K) := by
  have G_urn := ok_urn (P := P) (w := w) (base := base) D_urn T
  have b_urn := bi_urn D_urn.F
  have G_draw := ok_draw (P := P) (w := w) (base := base) D_draw
  have b_draw := bi_draw D_draw.F
  have G_choose := ok_choose (P := P) (w := w) (base := base) D_choose D_draw T
  have b_choose := bi_choose D_choose.F
  have G_integer := ok_integer (P := P) (w := w) (base := base) D_integer T
  have b_integer := bi_integer D_integer.F
  have G_within := ok_within (P := P) (w := w) (base := base) D_within D_integer T
  have b_within := bi_within D_within.F
  have G_place := ok_place (P := P) (w := w) (base := base) D_place T C
  have b_place := bi_place D_place.F
  have w_place := wk_place D_place.F
  have G_isw := ok_isw (P := P) (w := w) (base := base) D_isw D_within D_integer T C
  have b_isw := bi_isw D_isw.F
  have w_isw := wk_isw D_isw.F
  have G_cost := ok_cost (P := P) (w := w) (base := base) D_cost D_within D_integer T C
  have b_cost := bi_cost D_cost.F
  have w_cost := wk_cost D_cost.F
  have G_end := ok_end (P := P) (w := w) (base := base) D_end D_place T C
  have b_end := bi_end D_end.F
  have G_parts := ok_parts (P := P) (w := w) (base := base) D_parts D_within D_integer D_isw D_written D_weight T C
  have b_parts := bi_parts D_parts.F
  have G_written := ok_written (P := P) (w := w) (base := base) D_written
  have b_written := bi_written D_written.F
  have w_written := wk_written D_written.F
  have G_weight := ok_weight (P := P) (w := w) (base := base) D_weight
  have b_weight := bi_weight D_weight.F
  have w_weight := wk_weight D_weight.F
  have G_id := ok_id (P := P) (w := w) (base := base) D_id
  have b_id := bi_id D_id.F
  have G_move := ok_move (P := P) (w := w) (base := base) D_move D_parts G_parts D_end G_end C
  have b_move := bi_move D_move.F
  have w_move := wk_move D_move.F
  have G_count := ok_count (P := P) (w := w) (base := base) D_count D_parts G_parts D_place G_place C
  have b_count := bi_count D_count.F
  have w_count := wk_count D_count.F
  have G_record := ok_record (P := P) (w := w) (base := base) D_record D_move G_move D_count G_count
  have b_record := bi_record D_record.F
  have w_record := wk_record D_record.F
  have G_records := ok_records (P := P) (w := w) (base := base) D_records D_record G_record D_id G_id T
  have b_records := bi_records D_records.F
  have w_records := wk_records D_records.F
  have G_with := ok_with (P := P) (w := w) (base := base) D_with
  have b_with := bi_with D_with.F
  have G_in := ok_in (P := P) (w := w) (base := base) D_in C
  have b_in := bi_in D_in.F
  have G_seq := ok_seq (P := P) (w := w) (base := base) D_seq D_key T
  have b_seq := bi_seq D_seq.F
  have w_seq := wk_seq D_seq.F
  have G_places := ok_places (P := P) (w := w) (base := base) D_places D_in G_in T
  have b_places := bi_places D_places.F
  have w_places := wk_places D_places.F
  have G_stretches := ok_stretches (P := P) (w := w) (base := base) D_stretches D_places G_places D_in G_in T
  have b_stretches := bi_stretches D_stretches.F
  have w_stretches := wk_stretches D_stretches.F
  have w_with := wk_with D_with.F
  refine atTop (k := 8) D.F sc_law ⟨rfl, by decide, by decide⟩ (fun vs H Q E h => ?_) (fun cdv A outer s H vs Q hr hgA h => ?_)
  · obtain ⟨a, ns, rfl, _⟩ := h
    rfl
  · obtain ⟨a, ns, rfl, hS, hlen, hbits, k⟩ := h
    have hu64 := hr.units
    have hg : (cxOf CX0 P w K mg base N_law "law" (defScope s_law) f cdv A outer s H E0).nox.A.guards = some [] := by
      show (A.deeper _).guards = some []
      first | exact hgA | (unfold Around.deeper; simpa using hgA) | simpa [Around.deeper] using hgA
    refine ⟨_, (pss_cons (ps_for PassesOwn.never rfl (pi_range1 rfl T.range (pa_cons (pe_callB (call_max2 rfl) (by rfl) T.max (by decide +kernel) (pa_cons pe_int (pa_cons (pe_callB (call_min2 rfl) (by rfl) T.min (by decide +kernel) (pa_cons pe_int (pa_cons (pe_callB (call_len_seq) (by rfl) T.len PySem.boot_len (pa_cons (pv 0) pa_nil)) pa_nil))) pa_nil))) pa_nil)) (pg_name (i := 1) sc_law.nd rfl (Or.inl rfl))
      (pss_cons (ps_set (i := 2) sc_law.nd rfl (Or.inl rfl) (pe_call G_urn (hr.mono (by decide)) rfl D_urn.g D_urn.F.kp b_urn .nil pass0 (pa_cons (pv 0) (pa_cons (pv 1) pa_nil))))
        (pss_one (ps_for PassesOwn.never rfl (pi_range1 rfl T.range (pa_cons pe_int pa_nil)) (pg_name (i := 3) sc_law.nd rfl (Or.inl rfl))
        (pss_cons (ps_set (i := 4) sc_law.nd rfl (Or.inl rfl) (pe_lst (pa_cons (pe_tup (pa_cons pe_int (pa_cons pe_int (pa_cons pe_str (pa_cons pe_str (pa_cons (pe_op op_add pe_int (pe_call G_draw (hr.mono (by decide)) rfl D_draw.g D_draw.F.kp b_draw .nil pass0 (pa_cons (pv 2) (pa_cons pe_int pa_nil)))) (pa_cons pe_int pa_nil))))))) (pa_cons (pe_tup (pa_cons pe_int (pa_cons (pe_call G_draw (hr.mono (by decide)) rfl D_draw.g D_draw.F.kp b_draw .nil pass0 (pa_cons (pv 2) (pa_cons pe_int pa_nil))) (pa_cons pe_str (pa_cons pe_int (pa_cons pe_non pa_nil)))))) pa_nil))))
          (pss_cons (ps_set (i := 5) sc_law.nd rfl (Or.inl rfl) (pe_call G_choose (hr.mono (by decide)) rfl D_choose.g D_choose.F.kp b_choose .nil pass0 (pa_cons (pv 2) (pa_cons (pe_lst (pa_cons (pv 4) (pa_cons (pe_ix ix_list (pv 4) pe_int (fun _ _ => rfl)) (pa_cons (pe_ix ix_list (pv 4) pe_int (fun _ _ => rfl)) (pa_cons pe_str (pa_cons pe_str (pa_cons pe_int (pa_cons pe_non (pa_cons pe_int (pa_cons (pe_lst (pa_cons (pe_ix ix_list (pv 4) pe_int (fun _ _ => rfl)) (pa_cons (pe_ix ix_list (pv 4) pe_int (fun _ _ => rfl)) pa_nil))) pa_nil)))))))))) pa_nil))))
          (pss_cons (ps_set (i := 6) sc_law.nd rfl (Or.inl rfl) (pe_lst (pa_cons (pe_tup (pa_cons (pe_call G_place (hr.mono (by decide)) rfl D_place.g D_place.F.kp b_place .nil pass0 (pa_cons (pv 5) pa_nil)) (pa_cons (pe_callW G_place (hr.mono (by decide)) rfl D_place.g D_place.F.kp w_place pass0 (pk_cons (pv 5) pk_nil)) pa_nil))) (pa_cons (pe_tup (pa_cons (pe_call G_isw (hr.mono (by decide)) rfl D_isw.g D_isw.F.kp b_isw .nil pass0 (pa_cons (pv 5) pa_nil)) (pa_cons (pe_callW G_isw (hr.mono (by decide)) rfl D_isw.g D_isw.F.kp w_isw pass0 (pk_cons (pv 5) pk_nil)) pa_nil))) pa_nil))))
          (pss_cons (ps_set (i := 6) sc_law.nd rfl (Or.inl rfl) (pe_op op_cat (pv 6) (pe_lst (pa_cons (pe_tup (pa_cons (pe_call G_move (hr.mono (by decide)) rfl D_move.g D_move.F.kp b_move .nil pass0 (pa_cons (pv 5) pa_nil)) (pa_cons (pe_callW G_move (hr.mono (by decide)) rfl D_move.g D_move.F.kp w_move pass0 (pk_cons (pv 5) pk_nil)) pa_nil))) (pa_cons (pe_tup (pa_cons (pe_call G_count (hr.mono (by decide)) rfl D_count.g D_count.F.kp b_count .nil pass0 (pa_cons (pv 5) pa_nil)) (pa_cons (pe_callW G_count (hr.mono (by decide)) rfl D_count.g D_count.F.kp w_count pass0 (pk_cons (pv 5) pk_nil)) pa_nil))) pa_nil)))))
          (pss_cons (ps_set (i := 6) sc_law.nd rfl (Or.inl rfl) (pe_op op_cat (pv 6) (pe_lst (pa_cons (pe_tup (pa_cons (pe_call G_record (hr.mono (by decide)) rfl D_record.g D_record.F.kp b_record .nil pass0 (pa_cons (pv 5) pa_nil)) (pa_cons (pe_callW G_record (hr.mono (by decide)) rfl D_record.g D_record.F.kp w_record pass0 (pk_cons (pv 5) pk_nil)) pa_nil))) (pa_cons (pe_tup (pa_cons (pe_call G_cost (hr.mono (by decide)) rfl D_cost.g D_cost.F.kp b_cost .nil pass0 (pa_cons (pv 5) pa_nil)) (pa_cons (pe_callW G_cost (hr.mono (by decide)) rfl D_cost.g D_cost.F.kp w_cost pass0 (pk_cons (pv 5) pk_nil)) pa_nil))) pa_nil)))))
          (pss_cons (ps_set (i := 6) sc_law.nd rfl (Or.inl rfl) (pe_op op_cat (pv 6) (pe_lst (pa_cons (pe_tup (pa_cons (pe_call G_records (hr.mono (by decide)) rfl D_records.g D_records.F.kp b_records .nil pass0 (pa_cons (pv 5) pa_nil)) (pa_cons (pe_callW G_records (hr.mono (by decide)) rfl D_records.g D_records.F.kp w_records pass0 (pk_cons (pv 5) pk_nil)) pa_nil))) pa_nil))))
          (pss_cons (ps_set (i := 6) sc_law.nd rfl (Or.inl rfl) (pe_op op_cat (pv 6) (pe_lst (pa_cons (pe_tup (pa_cons (pe_call G_seq (hr.mono (by decide)) rfl D_seq.g D_seq.F.kp b_seq .nil pass0 (pa_cons (pv 4) pa_nil)) (pa_cons (pe_callW G_seq (hr.mono (by decide)) rfl D_seq.g D_seq.F.kp w_seq pass0 (pk_cons (pv 4) pk_nil)) pa_nil))) (pa_cons (pe_tup (pa_cons (pe_call G_places (hr.mono (by decide)) rfl D_places.g D_places.F.kp b_places .nil pass0 (pa_cons (pv 4) pa_nil)) (pa_cons (pe_callW G_places (hr.mono (by decide)) rfl D_places.g D_places.F.kp w_places pass0 (pk_cons (pv 4) pk_nil)) pa_nil))) pa_nil)))))
          (pss_cons (ps_set (i := 6) sc_law.nd rfl (Or.inl rfl) (pe_op op_cat (pv 6) (pe_lst (pa_cons (pe_tup (pa_cons (pe_call G_stretches (hr.mono (by decide)) rfl D_stretches.g D_stretches.F.kp b_stretches .nil pass0 (pa_cons (pv 4) pa_nil)) (pa_cons (pe_callW G_stretches (hr.mono (by decide)) rfl D_stretches.g D_stretches.F.kp w_stretches pass0 (pk_cons (pv 4) pk_nil)) pa_nil))) pa_nil))))
          (pss_cons (ps_expr (pe_bm PySem.F.plainAttrs_list PySem.F.slot_list_append PySem.F.type_list_append mt_append (pv 6) (pa_cons (pe_tup (pa_cons (pe_call G_written (hr.mono (by decide)) rfl D_written.g D_written.F.kp b_written .nil pass0 (pa_cons (pe_ix ix_list (pv 4) pe_int (fun _ _ => rfl)) pa_nil)) (pa_cons (pe_callW G_written (hr.mono (by decide)) rfl D_written.g D_written.F.kp w_written pass0 (pk_cons (pe_ix ix_list (pv 4) pe_int (fun _ _ => rfl)) pk_nil)) pa_nil))) pa_nil)))
          (pss_cons (ps_expr (pe_bm PySem.F.plainAttrs_list PySem.F.slot_list_append PySem.F.type_list_append mt_append (pv 6) (pa_cons (pe_tup (pa_cons (pe_call G_weight (hr.mono (by decide)) rfl D_weight.g D_weight.F.kp b_weight .nil pass0 (pa_cons (pe_ix ix_list (pv 4) pe_int (fun _ _ => rfl)) pa_nil)) (pa_cons (pe_callW G_weight (hr.mono (by decide)) rfl D_weight.g D_weight.F.kp w_weight pass0 (pk_cons (pe_ix ix_list (pv 4) pe_int (fun _ _ => rfl)) pk_nil)) pa_nil))) pa_nil)))
          (pss_cons (ps_expr (pe_bm PySem.F.plainAttrs_list PySem.F.slot_list_append PySem.F.type_list_append mt_append (pv 6) (pa_cons (pe_tup (pa_cons (pe_call G_with (hr.mono (by decide)) rfl D_with.g D_with.F.kp b_with .nil pass0 (pa_cons (pe_ix ix_list (pv 4) pe_int (fun _ _ => rfl)) (pa_cons pe_int pa_nil))) (pa_cons (pe_callW G_with (hr.mono (by decide)) rfl D_with.g D_with.F.kp w_with pass0 (pk_cons pe_int (pk_cons (pe_ix ix_list (pv 4) pe_int (fun _ _ => rfl)) pk_nil))) pa_nil))) pa_nil)))
          (pss_one (ps_if (pt_cmpR (op_neD hu64) (pe_lc (own := [("pair", 7)]) (g := gName 7) rfl sc_law.nd (pi_list (pv 6)) (blkOk_by (N := N_law) (sc := defScope s_law) (by decide +kernel)) (fun _ _ _ _ _ => pg_name (i := 7) sc_law.nd rfl (Or.inl rfl)) (fun _ _ _ _ _ => (pts_one (pt_cmpR op_ne (pe_callB (r := rReprX K) (call_reprX (by exact hg) (by exact hu64)) (by rfl) T.repr (by decide +kernel) (pa_cons (pe_ix (r := rIxT K) ix_tup (pv 7) pe_int (fun _ _ => rfl)) pa_nil)) (pe_callB (r := rReprX K) (call_reprX (by exact hg) (by exact hu64)) (by rfl) T.repr (by decide +kernel) (pa_cons (pe_ix (r := rIxT K) ix_tup (pv 7) pe_int (fun _ _ => rfl)) pa_nil)) (nomark _)))) (fun _ _ _ _ _ => (pv 7))) (pe_lst pa_nil) (nomark _)) (pss_one (ps_ret pe_bl)) pss_nil)))))))))))))))))
      (pss_one (ps_ret pe_bl))), ?_⟩
    refine ⟨_, rfl, a, _, rfl, .inl hS, _, _, rfl, _, _, rfl, _, rfl, ?_, ?_, ?_⟩
    · rw [List.length_map]; split <;> split <;> omega
    · rw [List.length_map]; split <;> split <;> omega
    refine for_range (lo := 0) (fun i σ H' => ∃ v1 v2 v3 v4 v5 v6 v7 : Option V, σ = [some (.ref a), v1, v2, v3, v4, v5, v6, v7] ∧ SqL K H' a (ns.map V.int))
      ⟨none, none, none, none, none, none, none, rfl, hS⟩ ?_ (fun σ H' _ => k H')
    rintro i σ H1 hi ⟨v1, v2, v3, v4, v5, v6, v7, rfl, S1⟩
    have hi6 : i ≤ 100 := by
      rw [List.length_map] at hi
      revert hi
      split <;> split <;> omega
    refine ⟨_, rfl, _, rfl, a, i, ns, by rw [Int.zero_add]; rfl, S1, hi6, hbits, fun u H2 hu0 s2 U2 => ?_⟩
    refine ⟨_, rfl, (by show (-(2 ^ 62) : Int) ≤ 5; decide), (by show (5 : Int) < 2 ^ 62; decide), ?_⟩
    refine for_range (lo := 0) (fun j σ H' => ∃ v3 v4 v5 v6 v7 : Option V, σ = [some (.ref a), some (.int (0 + i)), some (.ref u), v3, v4, v5, v6, v7] ∧ SqL K H' a (ns.map V.int) ∧ Urn H' u)
      ⟨_, _, _, _, _, rfl, s2.seq S1, U2⟩ ?_ (fun σ H' hq => ?_)
    · rintro j σ H3 hj ⟨v3, v4, v5, v6, v7, rfl, S3, U3⟩
      -- rows
      refine ⟨_, rfl, u, _, rfl, U3, by decide, by decide, fun r1 H4 r10 r11 U4 m4 => ?_⟩
      refine ⟨_, _, rfl, rfl, (by show 6 ≤ sizeLine; decide), fun p0 hp0 => ?_⟩
      refine ⟨_, rfl, u, _, rfl, U4.new hp0, by decide, by decide, fun r2 H5 r20 r21 U5 m5 => ?_⟩
      refine ⟨(by show 5 ≤ sizeLine; decide), fun p1 hp1 => ⟨(by show 2 ≤ sizeLine; decide), fun l hl => ?_⟩⟩
      have a0 : H5 p0 = some (HO.tup [.int 4, .int 2, .str "a", .str "b", .int (1 + r1), .int 3]) := (U4.new (o := HO.tup [.int 4, .int 2, .str "a", .str "b", .int (1 + r1), .int 3]) hp0).tup m5 upd_same
      have n01 : p0 ≠ p1 := ne_of_none a0 hp1
      have x1 := same_new (o := HO.tup [.int 2, .int r2, .str "b", .int 2, .non]) hp1
      have x2 := same_new (o := HO.lst [.ref p0, .ref p1]) hl
      have UR := (U5.new (o := HO.tup [.int 2, .int r2, .str "b", .int 2, .non]) hp1).new (o := HO.lst [.ref p0, .ref p1]) hl
      have SR := ((((m4.add (o := HO.tup [.int 4, .int 2, .str "a", .str "b", .int (1 + r1), .int 3]) hp0).trans m5).add (o := HO.tup [.int 2, .int r2, .str "b", .int 2, .non]) hp1).add (o := HO.lst [.ref p0, .ref p1]) hl).sqL U3 S3
      have e0 := x2 _ _ (x1 _ _ a0)
      have e1 := x2 _ _ (upd_same (H := H5) (a := p1) (o := HO.tup [.int 2, .int r2, .str "b", .int 2, .non]))
      have el : upd (upd H5 p1 (HO.tup [.int 2, .int r2, .str "b", .int 2, .non])) l (HO.lst [.ref p0, .ref p1]) l = some (HO.lst [.ref p0, .ref p1]) := upd_same
      generalize hR : upd (upd H5 p1 (HO.tup [.int 2, .int r2, .str "b", .int 2, .non])) l (HO.lst [.ref p0, .ref p1]) = R at *
      -- thing
      refine ⟨_, rfl, _, rfl, _, rfl, l, _, _, .ref p0, rfl, rfl, .of el, rfl, _, rfl, l, _, _, .ref p1, rfl, rfl, .of el, rfl, _, rfl, l, _, _, .ref p1, rfl, rfl, .of el, rfl, _, rfl, l, _, _, .ref p1, rfl, rfl, .of el, rfl, (by show 2 ≤ sizeLine; decide), fun l2 hl2 => ?_⟩
      have y1 := same_new (o := HO.lst [.ref p1, .ref p1]) hl2
      refine ⟨(by show 9 ≤ sizeLine; decide), fun l3 hl3 => ?_⟩
      have y2 := same_new (o := HO.lst [V.ref l, .ref p0, .ref p1, .str "a", .str "-", .int 7, .non, .int 0, .ref l2]) hl3
      have UQ := (UR.new (o := HO.lst [.ref p1, .ref p1]) hl2).new (o := HO.lst [V.ref l, .ref p0, .ref p1, .str "a", .str "-", .int 7, .non, .int 0, .ref l2]) hl3
      refine ⟨u, l3, _, rfl, UQ, upd_same, (by show 1 ≤ 9; decide), (by show 9 ≤ 1000; decide), fun x H7 hx U7 m7 => ?_⟩
      have b0 := UQ.tup m7 (y2 _ _ (y1 _ _ e0))
      have b1 := UQ.tup m7 (y2 _ _ (y1 _ _ e1))
      have bl := UQ.lst m7 (y2 _ _ (y1 _ _ el))
      have bm := UQ.lst m7 (y2 _ _ (upd_same (H := R) (a := l2) (o := HO.lst [.ref p1, .ref p1])))
      have S7 := (((Mo.new (u := u) (o := HO.lst [.ref p1, .ref p1]) hl2).add (o := HO.lst [V.ref l, .ref p0, .ref p1, .str "a", .str "-", .int 7, .non, .int 0, .ref l2]) hl3).trans m7).sqL UR SR
      have d0 : Dp K H7 (.ref p0) (.tuple [.int 4, .int 2, .str "a", .str "b", .int (1 + r1), .int 3]) := .tup (.of b0) (.cons (.int _) (.cons (.int _) (.cons (.str _) (.cons (.str _) (.cons (.int _) (.cons (.int _) .nil))))))
      have d1 : Dp K H7 (.ref p1) (.tuple [.int 2, .int r2, .str "b", .int 2, .none]) := .tup (.of b1) (.cons (.int _) (.cons (.int _) (.cons (.str _) (.cons (.int _) (.cons .non .nil)))))
      have dt : ∃ d, Dp K H7 x d ∧ okL d = true ∧ okT d = true ∧ okI d = okI d ∧ shortB d = true := by
        simp only [List.mem_cons, List.not_mem_nil, or_false] at hx
        rcases hx with rfl | rfl | rfl | rfl | rfl | rfl | rfl | rfl | rfl
        · exact ⟨_, .lst (.of bl) (.cons d0 (.cons d1 .nil)), rfl, rfl, rfl, rfl⟩
        · exact ⟨_, d0, rfl, rfl, rfl, rfl⟩
        · exact ⟨_, d1, rfl, rfl, rfl, rfl⟩
        · exact ⟨_, .str _, rfl, rfl, rfl, rfl⟩
        · exact ⟨_, .str _, rfl, rfl, rfl, rfl⟩
        · exact ⟨_, .int _, rfl, rfl, rfl, rfl⟩
        · exact ⟨_, .non, rfl, rfl, rfl, rfl⟩
        · exact ⟨_, .int _, rfl, rfl, rfl, rfl⟩
        · exact ⟨_, .lst (.of bm) (.cons d1 (.cons d1 .nil)), rfl, rfl, rfl, rfl⟩
      obtain ⟨d, hd, kL, kT, _, kS⟩ := dt
      have s7 : Same H7 H7 := Same.refl H7
      -- pairs
      refine ⟨_, rfl, x, d, rfl, dp_same s7 hd, kS, fun Ha sa => ⟨_, rfl, rfl, x, d, rfl, dp_same (s7.trans sa) hd, kS, fun Hb sb => ?_⟩⟩
      refine ⟨(by show 2 ≤ sizeLine; decide), fun t1 ht => ?_⟩
      have e := (sa.trans sb).trans (same_new (o := (.tup [.bl (placeB d), .bl (placeB d)])) ht)
      have q1 : PairOk K (upd Hb t1 (.tup [.bl (placeB d), .bl (placeB d)])) (.ref t1) := pair_flat upd_same rfl
      generalize hg1 : upd Hb t1 (.tup [.bl (placeB d), .bl (placeB d)]) = Hn1 at *
      have s7 := s7.trans e
      refine ⟨_, rfl, x, d, rfl, dp_same s7 hd, rfl, fun Ha sa => ⟨_, rfl, rfl, x, d, rfl, dp_same (s7.trans sa) hd, rfl, fun Hb sb => ?_⟩⟩
      refine ⟨(by show 2 ≤ sizeLine; decide), fun t2 ht => ?_⟩
      have e := (sa.trans sb).trans (same_new (o := (.tup [.bl (weightB d), .bl (weightB d)])) ht)
      have q2 : PairOk K (upd Hb t2 (.tup [.bl (weightB d), .bl (weightB d)])) (.ref t2) := pair_flat upd_same rfl
      generalize hg2 : upd Hb t2 (.tup [.bl (weightB d), .bl (weightB d)]) = Hn2 at *
      have s7 := s7.trans e
      have q1 := q1.same e
      refine ⟨(by show 2 ≤ sizeLine; decide), fun L1 hL => ?_⟩
      have e := same_new (o := HO.lst [V.ref t1, V.ref t2]) hL
      have aok := all_same e (all_two q1 q2)
      have eL : upd Hn2 L1 (HO.lst [V.ref t1, V.ref t2]) L1 = some (HO.lst [V.ref t1, V.ref t2]) := upd_same
      generalize hg3 : upd Hn2 L1 (HO.lst [V.ref t1, V.ref t2]) = Hn3 at *
      have s7 := s7.trans e
      refine ⟨_, rfl, ?_⟩
      refine ⟨_, rfl, x, d, rfl, dp_same s7 hd, kT, fun Ha sa => ⟨_, rfl, rfl, x, d, rfl, dp_same (s7.trans sa) hd, kT, fun Hb sb => ?_⟩⟩
      refine ⟨(by show 2 ≤ sizeLine; decide), fun t3 ht => ?_⟩
      have e := (sa.trans sb).trans (same_new (o := (.tup [.bl (moveB d), .bl (moveB d)])) ht)
      have q3 : PairOk K (upd Hb t3 (.tup [.bl (moveB d), .bl (moveB d)])) (.ref t3) := pair_flat upd_same rfl
      generalize hg4 : upd Hb t3 (.tup [.bl (moveB d), .bl (moveB d)]) = Hn4 at *
      have s7 := s7.trans e
      have aok := all_same e aok
      have eL := e _ _ eL
      refine ⟨_, rfl, x, d, rfl, dp_same s7 hd, kT, fun Ha sa => ⟨_, rfl, rfl, x, d, rfl, dp_same (s7.trans sa) hd, kT, fun Hb sb => ?_⟩⟩
      refine ⟨(by show 2 ≤ sizeLine; decide), fun t4 ht => ?_⟩
      have e := (sa.trans sb).trans (same_new (o := (.tup [.bl (countB d), .bl (countB d)])) ht)
      have q4 : PairOk K (upd Hb t4 (.tup [.bl (countB d), .bl (countB d)])) (.ref t4) := pair_flat upd_same rfl
      generalize hg5 : upd Hb t4 (.tup [.bl (countB d), .bl (countB d)]) = Hn5 at *
      have s7 := s7.trans e
      have q3 := q3.same e
      have aok := all_same e aok
      have eL := e _ _ eL
      refine ⟨(by show 2 ≤ sizeLine; decide), fun M hM => ?_⟩
      have eM := same_new (o := HO.lst [V.ref t3, V.ref t4]) hM
      refine ⟨L1, M, _, _, rfl, rfl, eM _ _ eL, upd_same, (by show 2 + 2 ≤ sizeLine; decide), fun L2 hN => ?_⟩
      have aok := all_same eM (all_app aok (all_two q3 q4))
      have e := eM.trans (same_new (o := HO.lst ([V.ref t1, V.ref t2] ++ [V.ref t3, V.ref t4])) hN)
      have aok := all_same (same_new (o := HO.lst ([V.ref t1, V.ref t2] ++ [V.ref t3, V.ref t4])) hN) aok
      have eL : upd (upd Hn5 M (HO.lst [V.ref t3, V.ref t4])) L2 (HO.lst ([V.ref t1, V.ref t2] ++ [V.ref t3, V.ref t4])) L2 = some (HO.lst ([V.ref t1, V.ref t2] ++ [V.ref t3, V.ref t4])) := upd_same
      generalize hg6 : upd (upd Hn5 M (HO.lst [V.ref t3, V.ref t4])) L2 (HO.lst ([V.ref t1, V.ref t2] ++ [V.ref t3, V.ref t4])) = Hn6 at *
      have s7 := s7.trans e
      refine ⟨_, rfl, ?_⟩
      refine ⟨_, rfl, x, d, rfl, dp_same s7 hd, kT, fun Ha sa => ⟨_, rfl, rfl, x, d, rfl, dp_same (s7.trans sa) hd, kT, fun Hb sb => ?_⟩⟩
      refine ⟨(by show 2 ≤ sizeLine; decide), fun t5 ht => ?_⟩
      have e := (sa.trans sb).trans (same_new (o := (.tup [.bl (recB d), .bl (recB d)])) ht)
      have q5 : PairOk K (upd Hb t5 (.tup [.bl (recB d), .bl (recB d)])) (.ref t5) := pair_flat upd_same rfl
      generalize hg7 : upd Hb t5 (.tup [.bl (recB d), .bl (recB d)]) = Hn7 at *
      have s7 := s7.trans e
      have aok := all_same e aok
      have eL := e _ _ eL
      refine ⟨_, rfl, x, d, rfl, dp_same s7 hd, rfl, fun Ha sa => ⟨_, rfl, rfl, x, d, rfl, dp_same (s7.trans sa) hd, rfl, fun Hb sb => ?_⟩⟩
      refine ⟨(by show 2 ≤ sizeLine; decide), fun t6 ht => ?_⟩
      have e := (sa.trans sb).trans (same_new (o := (.tup [.bl (costB d), .bl (costB d)])) ht)
      have q6 : PairOk K (upd Hb t6 (.tup [.bl (costB d), .bl (costB d)])) (.ref t6) := pair_flat upd_same rfl
      generalize hg8 : upd Hb t6 (.tup [.bl (costB d), .bl (costB d)]) = Hn8 at *
      have s7 := s7.trans e
      have q5 := q5.same e
      have aok := all_same e aok
      have eL := e _ _ eL
      refine ⟨(by show 2 ≤ sizeLine; decide), fun M hM => ?_⟩
      have eM := same_new (o := HO.lst [V.ref t5, V.ref t6]) hM
      refine ⟨L2, M, _, _, rfl, rfl, eM _ _ eL, upd_same, (by show 4 + 2 ≤ sizeLine; decide), fun L3 hN => ?_⟩
      have aok := all_same eM (all_app aok (all_two q5 q6))
      have e := eM.trans (same_new (o := HO.lst (([V.ref t1, V.ref t2] ++ [V.ref t3, V.ref t4]) ++ [V.ref t5, V.ref t6])) hN)
      have aok := all_same (same_new (o := HO.lst (([V.ref t1, V.ref t2] ++ [V.ref t3, V.ref t4]) ++ [V.ref t5, V.ref t6])) hN) aok
      have eL : upd (upd Hn8 M (HO.lst [V.ref t5, V.ref t6])) L3 (HO.lst (([V.ref t1, V.ref t2] ++ [V.ref t3, V.ref t4]) ++ [V.ref t5, V.ref t6])) L3 = some (HO.lst (([V.ref t1, V.ref t2] ++ [V.ref t3, V.ref t4]) ++ [V.ref t5, V.ref t6])) := upd_same
      generalize hg9 : upd (upd Hn8 M (HO.lst [V.ref t5, V.ref t6])) L3 (HO.lst (([V.ref t1, V.ref t2] ++ [V.ref t3, V.ref t4]) ++ [V.ref t5, V.ref t6])) = Hn9 at *
      have s7 := s7.trans e
      refine ⟨_, rfl, ?_⟩
      refine ⟨_, rfl, x, d, rfl, dp_same s7 hd, kL, fun Ha sa => ⟨_, rfl, rfl, x, d, rfl, dp_same (s7.trans sa) hd, kL, fun Hb sb => ?_⟩⟩
      refine ⟨(by show 2 ≤ sizeLine; decide), fun t7 ht => ?_⟩
      have e := (sa.trans sb).trans (same_new (o := (.tup [.bl (recsB d), .bl (recsB d)])) ht)
      have q7 : PairOk K (upd Hb t7 (.tup [.bl (recsB d), .bl (recsB d)])) (.ref t7) := pair_flat upd_same rfl
      generalize hg10 : upd Hb t7 (.tup [.bl (recsB d), .bl (recsB d)]) = Hn10 at *
      have s7 := s7.trans e
      have aok := all_same e aok
      have eL := e _ _ eL
      refine ⟨(by show 1 ≤ sizeLine; decide), fun M hM => ?_⟩
      have eM := same_new (o := HO.lst [V.ref t7]) hM
      refine ⟨L3, M, _, _, rfl, rfl, eM _ _ eL, upd_same, (by show 6 + 1 ≤ sizeLine; decide), fun L4 hN => ?_⟩
      have aok := all_same eM (all_app aok (all_one q7))
      have e := eM.trans (same_new (o := HO.lst ((([V.ref t1, V.ref t2] ++ [V.ref t3, V.ref t4]) ++ [V.ref t5, V.ref t6]) ++ [V.ref t7])) hN)
      have aok := all_same (same_new (o := HO.lst ((([V.ref t1, V.ref t2] ++ [V.ref t3, V.ref t4]) ++ [V.ref t5, V.ref t6]) ++ [V.ref t7])) hN) aok
      have eL : upd (upd Hn10 M (HO.lst [V.ref t7])) L4 (HO.lst ((([V.ref t1, V.ref t2] ++ [V.ref t3, V.ref t4]) ++ [V.ref t5, V.ref t6]) ++ [V.ref t7])) L4 = some (HO.lst ((([V.ref t1, V.ref t2] ++ [V.ref t3, V.ref t4]) ++ [V.ref t5, V.ref t6]) ++ [V.ref t7])) := upd_same
      generalize hg11 : upd (upd Hn10 M (HO.lst [V.ref t7])) L4 (HO.lst ((([V.ref t1, V.ref t2] ++ [V.ref t3, V.ref t4]) ++ [V.ref t5, V.ref t6]) ++ [V.ref t7])) = Hn11 at *
      have s7 := s7.trans e
      -- the three that go over all rows
      let kt : V → Int × Int := fun y => if y = .ref p0 then (2, 4) else (r2, 2)
      let ev : V → List Str := fun y => if y = .ref p0 then ["a", "b"] else ["b"]
      let dm : V → PyData := fun y => if y = .ref p0 then (.tuple [.int 4, .int 2, .str "a", .str "b", .int (1 + r1), .int 3]) else (.tuple [.int 2, .int r2, .str "b", .int 2, .none])
      have ne01 : ¬ (V.ref p1 = V.ref p0) := fun z => n01 (V.ref.inj z).symm
      have rk : ∀ {H' : Hp}, Same H7 H' → ∀ y ∈ [V.ref p0, V.ref p1], RecAt K H' y (kt y).1 (kt y).2 := fun {H'} s y hy => by
        rcases List.mem_cons.mp hy with rfl | hy
        · have k : kt (.ref p0) = (2, 4) := if_pos rfl
          rw [k]
          exact ⟨p0, _, rfl, .of (s _ _ b0), rfl, rfl⟩
        · rw [List.mem_singleton.mp hy]
          have k : kt (.ref p1) = (r2, 2) := if_neg ne01
          rw [k]
          exact ⟨p1, _, rfl, .of (s _ _ b1), rfl, rfl⟩
      have rp : ∀ {H' : Hp}, Same H7 H' → ∀ y ∈ [V.ref p0, V.ref p1], RecP K H' y (ev y) := fun {H'} s y hy => by
        rcases List.mem_cons.mp hy with rfl | hy
        · have k : ev (.ref p0) = (["a", "b"] : List Str) := if_pos rfl
          rw [k]
          exact ⟨p0, _, rfl, .of (s _ _ b0), (by show 5 ≤ 6; decide), (by show 6 ≤ 6; decide), rfl⟩
        · rw [List.mem_singleton.mp hy]
          have k : ev (.ref p1) = (["b"] : List Str) := if_neg ne01
          rw [k]
          exact ⟨p1, _, rfl, .of (s _ _ b1), (by show 5 ≤ 5; decide), (by show 5 ≤ 6; decide), rfl⟩
      have rd : ∀ {H' : Hp}, Same H7 H' → ∀ y ∈ [V.ref p0, V.ref p1], Dp K H' y (dm y) ∧ Rowy (dm y) := fun {H'} s y hy => by
        rcases List.mem_cons.mp hy with rfl | hy
        · have k : dm (.ref p0) = (.tuple [.int 4, .int 2, .str "a", .str "b", .int (1 + r1), .int 3]) := if_pos rfl
          rw [k]
          refine ⟨dp_same s d0, [.int 4, .int 2, .str "a", .str "b", .int (1 + r1), .int 3], rfl, fun y hy => ?_, (by show 6 ≤ 10; decide)⟩
          simp only [List.mem_cons, List.not_mem_nil, or_false] at hy
          rcases hy with rfl | rfl | rfl | rfl | rfl | rfl
          all_goals first | rfl | exact flat_int (by omega) (by omega) | decide +kernel
        · rw [List.mem_singleton.mp hy]
          have k : dm (.ref p1) = (.tuple [.int 2, .int r2, .str "b", .int 2, .none]) := if_neg ne01
          rw [k]
          refine ⟨dp_same s d1, [.int 2, .int r2, .str "b", .int 2, .non], rfl, fun y hy => ?_, (by show 5 ≤ 10; decide)⟩
          simp only [List.mem_cons, List.not_mem_nil, or_false] at hy
          rcases hy with rfl | rfl | rfl | rfl | rfl
          all_goals first | rfl | exact flat_int (by omega) (by omega) | decide +kernel
      have ends_eq : ends ev [.ref p0, .ref p1] = (["a", "b", "b"] : List Str) := by
        have k0 : ev (.ref p0) = (["a", "b"] : List Str) := if_pos rfl
        have k1 : ev (.ref p1) = (["b"] : List Str) := if_neg ne01
        show outs (ev (.ref p0)) ++ (outs (ev (.ref p1)) ++ []) = _
        rw [k0, k1]
        decide +kernel
      clear_value kt ev dm
      -- in_sequence
      refine ⟨_, rfl, ?_⟩
      refine ⟨_, rfl, l, _, kt, rfl, .of (s7 _ _ bl), (by show 2 ≤ 1000; decide), rk s7, fun q1 hq1 => ?_⟩
      have z1 := same_new (o := (HO.lst (inSeq kt [.ref p0, .ref p1]))) hq1
      refine ⟨_, rfl, rfl, l, _, kt, rfl, .of ((s7.trans z1) _ _ bl), (by show 2 ≤ 1000; decide), rk (s7.trans z1), fun q2 hq2 => ?_⟩
      have z2 := same_new (o := (HO.lst (inSeq kt [.ref p0, .ref p1]))) hq2
      refine ⟨(by show 2 ≤ sizeLine; decide), fun t8 ht => ?_⟩
      have z3 := same_new (o := HO.tup [V.ref q1, V.ref q2]) ht
      have e := (z1.trans z2).trans z3
      have pm : (inSeq kt [.ref p0, .ref p1]).Perm [.ref p0, .ref p1] := List.mergeSort_perm _ _
      have q8 : PairOk K (upd (upd (upd Hn11 q1 (HO.lst (inSeq kt [.ref p0, .ref p1]))) q2 (HO.lst (inSeq kt [.ref p0, .ref p1]))) t8 (HO.tup [V.ref q1, V.ref q2])) (.ref t8) := pair_rows upd_same (z3 _ _ (z2 _ _ upd_same)) (z3 _ _ upd_same) dm (fun y hy => rd (s7.trans e) y (pm.mem_iff.mp hy)) (by rw [pm.length_eq]; show 2 ≤ 1000; decide)
      generalize hg12 : upd (upd (upd Hn11 q1 (HO.lst (inSeq kt [.ref p0, .ref p1]))) q2 (HO.lst (inSeq kt [.ref p0, .ref p1]))) t8 (HO.tup [V.ref q1, V.ref q2]) = Hn12 at *
      have s7 := s7.trans e
      have aok := all_same e aok
      have eL := e _ _ eL
      -- places_of
      refine ⟨_, rfl, l, _, ev, rfl, .of (s7 _ _ bl), (by show 2 ≤ 500; decide), rp s7, fun ks g1 Ha can kl hg1 sa ea => ?_⟩
      refine ⟨_, rfl, rfl, l, _, ev, rfl, .of ((s7.trans sa) _ _ bl), (by show 2 ≤ 500; decide), rp (s7.trans sa), fun ks2 g2 Hb can2 kl2 hg2 sb eb => ?_⟩
      have ek := canon_one can2 can
      subst ek
      rw [ends_eq] at can kl
      have inab : ∀ z ∈ ks2, z ∈ (["a", "b", "b"] : List Str) := fun z hz => (can.2.2 z).mp hz
      have k3 : ks2.length ≤ 3 := kl
      refine ⟨(by show 2 ≤ sizeLine; decide), fun t9 ht => ?_⟩
      have z3 := same_new (o := HO.tup [V.ref g1, V.ref g2]) ht
      have e := (sa.trans sb).trans z3
      have q9 : PairOk K (upd Hb t9 (HO.tup [V.ref g1, V.ref g2])) (.ref t9) := pair_texts upd_same (z3 _ _ (sb _ _ ea)) (z3 _ _ eb) (fun z hz => flat_ab (inab z hz)) (by omega)
      generalize hg13 : upd Hb t9 (HO.tup [V.ref g1, V.ref g2]) = Hn13 at *
      have s7 := s7.trans e
      have q8 := q8.same e
      have aok := all_same e aok
      have eL := e _ _ eL
      refine ⟨(by show 2 ≤ sizeLine; decide), fun M hM => ?_⟩
      have eM := same_new (o := HO.lst [V.ref t8, V.ref t9]) hM
      refine ⟨L4, M, _, _, rfl, rfl, eM _ _ eL, upd_same, (by show 7 + 2 ≤ sizeLine; decide), fun L5 hN => ?_⟩
      have aok := all_same eM (all_app aok (all_two q8 q9))
      have e := eM.trans (same_new (o := HO.lst (((([V.ref t1, V.ref t2] ++ [V.ref t3, V.ref t4]) ++ [V.ref t5, V.ref t6]) ++ [V.ref t7]) ++ [V.ref t8, V.ref t9])) hN)
      have aok := all_same (same_new (o := HO.lst (((([V.ref t1, V.ref t2] ++ [V.ref t3, V.ref t4]) ++ [V.ref t5, V.ref t6]) ++ [V.ref t7]) ++ [V.ref t8, V.ref t9])) hN) aok
      have eL : upd (upd Hn13 M (HO.lst [V.ref t8, V.ref t9])) L5 (HO.lst (((([V.ref t1, V.ref t2] ++ [V.ref t3, V.ref t4]) ++ [V.ref t5, V.ref t6]) ++ [V.ref t7]) ++ [V.ref t8, V.ref t9])) L5 = some (HO.lst (((([V.ref t1, V.ref t2] ++ [V.ref t3, V.ref t4]) ++ [V.ref t5, V.ref t6]) ++ [V.ref t7]) ++ [V.ref t8, V.ref t9])) := upd_same
      generalize hg14 : upd (upd Hn13 M (HO.lst [V.ref t8, V.ref t9])) L5 (HO.lst (((([V.ref t1, V.ref t2] ++ [V.ref t3, V.ref t4]) ++ [V.ref t5, V.ref t6]) ++ [V.ref t7]) ++ [V.ref t8, V.ref t9])) = Hn14 at *
      have s7 := s7.trans e
      -- stretches_of
      refine ⟨_, rfl, ?_⟩
      refine ⟨_, rfl, l, _, ev, rfl, .of (s7 _ _ bl), (by show 2 ≤ 500; decide), rp s7, fun ks g1 Ha can kl hg1 sa ea => ?_⟩
      refine ⟨_, rfl, rfl, l, _, ev, rfl, .of ((s7.trans sa) _ _ bl), (by show 2 ≤ 500; decide), rp (s7.trans sa), fun ks2 g2 Hb can2 kl2 hg2 sb eb => ?_⟩
      have ek := canon_one can2 can
      subst ek
      rw [ends_eq] at can kl ea eb
      have inab : ∀ z ∈ ks2, z ∈ (["a", "b", "b"] : List Str) := fun z hz => (can.2.2 z).mp hz
      have k3 : ks2.length ≤ 3 := kl
      refine ⟨(by show 2 ≤ sizeLine; decide), fun t10 ht => ?_⟩
      have z3 := same_new (o := HO.tup [V.ref g1, V.ref g2]) ht
      have e := (sa.trans sb).trans z3
      have q10 : PairOk K (upd Hb t10 (HO.tup [V.ref g1, V.ref g2])) (.ref t10) := pair_dict upd_same (z3 _ _ (sb _ _ ea)) (z3 _ _ eb) (tab_flat inab (by show 3 ≤ 100; decide)) (by unfold tab; rw [List.length_map]; omega)
      generalize hg15 : upd Hb t10 (HO.tup [V.ref g1, V.ref g2]) = Hn15 at *
      have s7 := s7.trans e
      have aok := all_same e aok
      have eL := e _ _ eL
      refine ⟨(by show 1 ≤ sizeLine; decide), fun M hM => ?_⟩
      have eM := same_new (o := HO.lst [V.ref t10]) hM
      refine ⟨L5, M, _, _, rfl, rfl, eM _ _ eL, upd_same, (by show 9 + 1 ≤ sizeLine; decide), fun L6 hN => ?_⟩
      have aok := all_same eM (all_app aok (all_one q10))
      have s7 := s7.trans eM
      have co := core_new (K := K) hN s7 aok
      generalize hg99 : upd (upd Hn15 M (HO.lst [V.ref t10])) L6 (HO.lst ((((([V.ref t1, V.ref t2] ++ [V.ref t3, V.ref t4]) ++ [V.ref t5, V.ref t6]) ++ [V.ref t7]) ++ [V.ref t8, V.ref t9]) ++ [V.ref t10])) = Hz at *
      -- written
      have s := co.base
      have eN : Hz L6 = some (HO.lst ((((([V.ref t1, V.ref t2] ++ [V.ref t3, V.ref t4]) ++ [V.ref t5, V.ref t6]) ++ [V.ref t7]) ++ [V.ref t8, V.ref t9]) ++ [V.ref t10])) := co.choose_spec.2.2.2.1
      refine ⟨_, rfl, .inl ⟨rfl, _, .of eN⟩, _, rfl, l, _, _, .ref p0, rfl, rfl, .of (s _ _ bl), rfl, p0, [.int 4, .int 2, .str "a", .str "b", .int (1 + r1), .int 3], (V.int (1 + r1)), rfl, .of (s _ _ b0), rfl, ?_⟩
      refine ⟨_, rfl, l, _, _, .ref p0, rfl, rfl, .of (s _ _ bl), rfl, rfl, p0, [.int 4, .int 2, .str "a", .str "b", .int (1 + r1), .int 3], (V.int (1 + r1)), rfl, .of (s _ _ b0), rfl, ?_⟩
      refine ⟨(by show 2 ≤ sizeLine; decide), fun t11 ht => ?_⟩
      have z := same_new (o := (HO.tup [(V.int (1 + r1)), (V.int (1 + r1))])) ht
      refine ⟨L6, _, _, rfl, rfl, z _ _ eN, (by show 10 < sizeLine; decide), ?_⟩
      have nt : t11 ≠ L6 := (ne_of_none eN ht).symm
      have co := core_add co z (pair_flat (t := t11) (v := (V.int (1 + r1))) (by rw [del_ne nt]; exact upd_same) (by first | rfl | exact flat_int (by omega) (by omega)))
      generalize hg110 : upd (upd Hz t11 (HO.tup [(V.int (1 + r1)), (V.int (1 + r1))])) L6 _ = Hz11 at *
      have s := co.base
      have eN : Hz11 L6 = some (HO.lst (((((([V.ref t1, V.ref t2] ++ [V.ref t3, V.ref t4]) ++ [V.ref t5, V.ref t6]) ++ [V.ref t7]) ++ [V.ref t8, V.ref t9]) ++ [V.ref t10]) ++ [V.ref t11])) := co.choose_spec.2.2.2.1
      refine ⟨_, rfl, .inl ⟨rfl, _, .of eN⟩, _, rfl, l, _, _, .ref p1, rfl, rfl, .of (s _ _ bl), rfl, p1, [.int 2, .int r2, .str "b", .int 2, .non], V.non, rfl, .of (s _ _ b1), rfl, ?_⟩
      refine ⟨_, rfl, l, _, _, .ref p1, rfl, rfl, .of (s _ _ bl), rfl, rfl, p1, [.int 2, .int r2, .str "b", .int 2, .non], V.non, rfl, .of (s _ _ b1), rfl, ?_⟩
      refine ⟨(by show 2 ≤ sizeLine; decide), fun t12 ht => ?_⟩
      have z := same_new (o := (HO.tup [V.non, V.non])) ht
      refine ⟨L6, _, _, rfl, rfl, z _ _ eN, (by show 11 < sizeLine; decide), ?_⟩
      have nt : t12 ≠ L6 := (ne_of_none eN ht).symm
      have co := core_add co z (pair_flat (t := t12) (v := V.non) (by rw [del_ne nt]; exact upd_same) (by first | rfl | exact flat_int (by omega) (by omega)))
      generalize hg120 : upd (upd Hz11 t12 (HO.tup [V.non, V.non])) L6 _ = Hz12 at *
      -- with_weight
      have s := co.base
      have eN : Hz12 L6 = some (HO.lst ((((((([V.ref t1, V.ref t2] ++ [V.ref t3, V.ref t4]) ++ [V.ref t5, V.ref t6]) ++ [V.ref t7]) ++ [V.ref t8, V.ref t9]) ++ [V.ref t10]) ++ [V.ref t11]) ++ [V.ref t12])) := co.choose_spec.2.2.2.1
      refine ⟨_, rfl, .inl ⟨rfl, _, .of eN⟩, _, rfl, l, _, _, .ref p0, rfl, rfl, .of (s _ _ bl), rfl, p0, [.int 4, .int 2, .str "a", .str "b", .int (1 + r1), .int 3], .int 9, rfl, .of (s _ _ b0), (by show 2 ≤ 6; decide), (by show 6 ≤ 6; decide), fun g1 Ha hg1 sa ea => ?_⟩
      refine ⟨_, rfl, l, _, _, .ref p0, rfl, rfl, .of ((s.trans sa) _ _ bl), rfl, rfl, p0, [.int 4, .int 2, .str "a", .str "b", .int (1 + r1), .int 3], .int 9, rfl, .of ((s.trans sa) _ _ b0), (by show 2 ≤ 6; decide), (by show 6 ≤ 6; decide), fun g2 Hb hg2 sb eb => ?_⟩
      refine ⟨(by show 2 ≤ sizeLine; decide), fun t13 ht => ?_⟩
      have z := same_new (o := HO.tup [V.ref g1, V.ref g2]) ht
      refine ⟨L6, _, _, rfl, rfl, z _ _ (sb _ _ (sa _ _ eN)), (by show 12 < sizeLine; decide), ?_⟩
      have nt : t13 ≠ L6 := (ne_of_none (sb _ _ (sa _ _ eN)) ht).symm
      have n1 : g1 ≠ L6 := (ne_of_none eN hg1).symm
      have n2 : g2 ≠ L6 := (ne_of_none (sa _ _ eN) hg2).symm
      have f9 : ∀ y ∈ (cutV ([.int 4, .int 2, .str "a", .str "b", .int (1 + r1), .int 3] : List V) none (some (-1)) ++ [.int 9]), Flat y := fun y hy => by
        have c : (cutV ([.int 4, .int 2, .str "a", .str "b", .int (1 + r1), .int 3] : List V) none (some (-1)) ++ [.int 9]) = [.int 4, .int 2, .str "a", .str "b", .int (1 + r1), .int 9] := rfl
        rw [c] at hy
        simp only [List.mem_cons, List.not_mem_nil, or_false] at hy
        rcases hy with rfl | rfl | rfl | rfl | rfl | rfl
        all_goals first | rfl | exact flat_int (by omega) (by omega) | decide +kernel
      have co := core_add co ((sa.trans sb).trans z) (pair_tups (t := t13) (q1 := g1) (q2 := g2) (by rw [del_ne nt]; exact upd_same) (by rw [del_ne n1]; exact z _ _ (sb _ _ ea)) (by rw [del_ne n2]; exact z _ _ eb) f9 (by show 6 ≤ 1000; decide))
      generalize hg130 : upd _ _ _ = Hf at co ⊢
      obtain ⟨Hc, nN, s0, s1, eN, al⟩ := id co
      generalize hps : (((((((([V.ref t1, V.ref t2] ++ [V.ref t3, V.ref t4]) ++ [V.ref t5, V.ref t6]) ++ [V.ref t7]) ++ [V.ref t8, V.ref t9]) ++ [V.ref t10]) ++ [V.ref t11]) ++ [V.ref t12]) ++ [V.ref t13]) = ps at *
      -- no pair differs
      refine ⟨_, rfl, L6, rfl, ⟨_, .of eN⟩, fun D hD => ?_⟩
      refine lc_list (xs := ps) (fun i H' => H' = upd Hf D (.lst [])) rfl (fun i H' _ e => by subst e; exact .of (same_new hD _ _ eN)) (fun i y H' hy e => ?_) (fun H' e => ?_)
      · subst e
        obtain ⟨p, v1, v2, d', rfl, hs, dx1, dx2, sh⟩ := (al y (List.mem_of_getElem? hy)).same (s1.trans (same_new (o := HO.lst []) hD))
        refine ⟨rfl, _, rfl, p, _, _, v1, rfl, rfl, hs, rfl, v1, d', rfl, dx1, sh, ?_⟩
        refine ⟨_, rfl, p, _, _, v2, rfl, rfl, hs, rfl, v2, d', rfl, dx2, sh, ?_⟩
        exact ⟨rfl, _, rfl, iteNS rfl rfl⟩
      · subst e
        refine ⟨(by show 0 ≤ sizeLine; decide), fun D2 hD2 => ?_⟩
        have w1 := same_new (o := HO.lst []) hD
        have w2 := same_new (o := HO.lst []) hD2
        refine ⟨.list [], .list [], .lst (.of (w2 _ _ upd_same)) .nil, .lst (.of upd_same) .nil, rfl, rfl, ?_⟩
        refine ⟨_, rfl, iteF ?_⟩
        have sf := ((s0.trans s1).trans w1).trans w2
        exact ⟨_, _, _, _, _, rfl, sf.seq S7, U7.same sf⟩
    · obtain ⟨v3, v4, v5, v6, v7, rfl, S3, U3⟩ := hq
      exact ⟨_, _, _, _, _, _, _, rfl, S3⟩
end
end Sk

set_option Elab.async false
set_option maxRecDepth 100000
set_option maxHeartbeats 4000000
namespace Sk
open PySem L2 PyProof.Rows
/-! ### what the top has written; the row -/
theorem all_mk {P : Program} {w : World} {K : PySem.W.Frag} {h : Heap} {mg : Str → Option Value} {fa f0 f1 f2 f3 f4 f5 f6 f7 f8 f9 f10 f11 f12 f13 f14 f15 f16 f17 f18 f19 f20 f21 f22 f23 : Addr} (X : K.In h) (G : h.Ns mainGlobals mg) (hfa : mg "law" = some (.ref fa))
    {od0 an0 : Option Addr} {sl0 : Array (Option Value)} {oc0 kV0 dc0 pm0 cd0 ct0 : Value}
    {od1 an1 : Option Addr} {sl1 : Array (Option Value)} {oc1 kV1 dc1 pm1 cd1 ct1 : Value}
    {od2 an2 : Option Addr} {sl2 : Array (Option Value)} {oc2 kV2 dc2 pm2 cd2 ct2 : Value}
    {od3 an3 : Option Addr} {sl3 : Array (Option Value)} {oc3 kV3 dc3 pm3 cd3 ct3 : Value}
    {od4 an4 : Option Addr} {sl4 : Array (Option Value)} {oc4 kV4 dc4 pm4 cd4 ct4 : Value}
    {od5 an5 : Option Addr} {sl5 : Array (Option Value)} {oc5 kV5 dc5 pm5 cd5 ct5 : Value}
    {od6 an6 : Option Addr} {sl6 : Array (Option Value)} {oc6 kV6 dc6 pm6 cd6 ct6 : Value}
    {od7 an7 : Option Addr} {sl7 : Array (Option Value)} {oc7 kV7 dc7 pm7 cd7 ct7 : Value}
    {od8 an8 : Option Addr} {sl8 : Array (Option Value)} {oc8 kV8 dc8 pm8 cd8 ct8 : Value}
    {od9 an9 : Option Addr} {sl9 : Array (Option Value)} {oc9 kV9 dc9 pm9 cd9 ct9 : Value}
    {od10 an10 : Option Addr} {sl10 : Array (Option Value)} {oc10 kV10 dc10 pm10 cd10 ct10 : Value}
    {od11 an11 : Option Addr} {sl11 : Array (Option Value)} {oc11 kV11 dc11 pm11 cd11 ct11 : Value}
    {od12 an12 : Option Addr} {sl12 : Array (Option Value)} {oc12 kV12 dc12 pm12 cd12 ct12 : Value}
    {od13 an13 : Option Addr} {sl13 : Array (Option Value)} {oc13 kV13 dc13 pm13 cd13 ct13 : Value}
    {od14 an14 : Option Addr} {sl14 : Array (Option Value)} {oc14 kV14 dc14 pm14 cd14 ct14 : Value}
    {od15 an15 : Option Addr} {sl15 : Array (Option Value)} {oc15 kV15 dc15 pm15 cd15 ct15 : Value}
    {od16 an16 : Option Addr} {sl16 : Array (Option Value)} {oc16 kV16 dc16 pm16 cd16 ct16 : Value}
    {od17 an17 : Option Addr} {sl17 : Array (Option Value)} {oc17 kV17 dc17 pm17 cd17 ct17 : Value}
    {od18 an18 : Option Addr} {sl18 : Array (Option Value)} {oc18 kV18 dc18 pm18 cd18 ct18 : Value}
    {od19 an19 : Option Addr} {sl19 : Array (Option Value)} {oc19 kV19 dc19 pm19 cd19 ct19 : Value}
    {od20 an20 : Option Addr} {sl20 : Array (Option Value)} {oc20 kV20 dc20 pm20 cd20 ct20 : Value}
    {od21 an21 : Option Addr} {sl21 : Array (Option Value)} {oc21 kV21 dc21 pm21 cd21 ct21 : Value}
    {od22 an22 : Option Addr} {sl22 : Array (Option Value)} {oc22 kV22 dc22 pm22 cd22 ct22 : Value}
    {od23 an23 : Option Addr} {sl23 : Array (Option Value)} {oc23 kV23 dc23 pm23 cd23 ct23 : Value}
    {ck0 : Tok}
    {ck1 : Tok}
    {ck2 : Tok}
    {ck3 : Tok}
    {ck4 : Tok}
    {ck5 : Tok}
    {ck6 : Tok}
    (a0 : PySem.W.nsIn K mainGlobals "_law_urn" = some (some (.ref f0)))
    (l0 : K.lookup f0 = some ⟨oc0, od0, .func (PySem.W.fnOf "_law_urn" "_law_urn" (defArgs s_urn) (defBody s_urn) (defScope s_urn) .none kV0 dc0 pm0 an0 cd0 ct0), sl0⟩)
    (c0 : PySem.W.codeIn K cd0 "_law_urn" = true)
    (k0 : PySem.W.keepIn K (.ref f0) = true)
    (a1 : PySem.W.nsIn K mainGlobals "_law_draw" = some (some (.ref f1)))
    (l1 : K.lookup f1 = some ⟨oc1, od1, .func (PySem.W.fnOf "_law_draw" "_law_draw" (defArgs s_draw) (defBody s_draw) (defScope s_draw) .none kV1 dc1 pm1 an1 cd1 ct1), sl1⟩)
    (c1 : PySem.W.codeIn K cd1 "_law_draw" = true)
    (k1 : PySem.W.keepIn K (.ref f1) = true)
    (a2 : PySem.W.nsIn K mainGlobals "_law_choose" = some (some (.ref f2)))
    (l2 : K.lookup f2 = some ⟨oc2, od2, .func (PySem.W.fnOf "_law_choose" "_law_choose" (defArgs s_choose) (defBody s_choose) (defScope s_choose) .none kV2 dc2 pm2 an2 cd2 ct2), sl2⟩)
    (c2 : PySem.W.codeIn K cd2 "_law_choose" = true)
    (k2 : PySem.W.keepIn K (.ref f2) = true)
    (a3 : PySem.W.nsIn K mainGlobals "is_integer" = some (some (.ref f3)))
    (l3 : K.lookup f3 = some ⟨oc3, od3, .func (PySem.W.fnOf "is_integer" "is_integer" (defArgs s_integer) (defBody s_integer) (defScope s_integer) .none kV3 dc3 pm3 an3 cd3 ct3), sl3⟩)
    (c3 : PySem.W.codeIn K cd3 "is_integer" = true)
    (k3 : PySem.W.keepIn K (.ref f3) = true)
    (a4 : PySem.W.nsIn K mainGlobals "is_within" = some (some (.ref f4)))
    (l4 : K.lookup f4 = some ⟨oc4, od4, .func (PySem.W.fnOf "is_within" "is_within" (defArgs s_within) (defBody s_within) (defScope s_within) .none kV4 dc4 pm4 an4 cd4 ct4), sl4⟩)
    (c4 : PySem.W.codeIn K cd4 "is_within" = true)
    (k4 : PySem.W.keepIn K (.ref f4) = true)
    (a5 : PySem.W.nsIn K mainGlobals "is_place" = some (some (.ref f5)))
    (l5 : K.lookup f5 = some ⟨oc5, od5, .func (PySem.W.fnOf "is_place" "is_place" (defArgs s_place) (defBody s_place) (defScope s_place) .none kV5 dc5 pm5 an5 cd5 ct5), sl5⟩)
    (c5 : PySem.W.codeIn K cd5 "is_place" = true)
    (k5 : PySem.W.keepIn K (.ref f5) = true)
    (a6 : PySem.W.nsIn K mainGlobals "is_weight" = some (some (.ref f6)))
    (l6 : K.lookup f6 = some ⟨oc6, od6, .func (PySem.W.fnOf "is_weight" "is_weight" (defArgs s_isw) (defBody s_isw) (defScope s_isw) .none kV6 dc6 pm6 an6 cd6 ct6), sl6⟩)
    (c6 : PySem.W.codeIn K cd6 "is_weight" = true)
    (k6 : PySem.W.keepIn K (.ref f6) = true)
    (a7 : PySem.W.nsIn K mainGlobals "is_cost" = some (some (.ref f7)))
    (l7 : K.lookup f7 = some ⟨oc7, od7, .func (PySem.W.fnOf "is_cost" "is_cost" (defArgs s_cost) (defBody s_cost) (defScope s_cost) .none kV7 dc7 pm7 an7 cd7 ct7), sl7⟩)
    (c7 : PySem.W.codeIn K cd7 "is_cost" = true)
    (k7 : PySem.W.keepIn K (.ref f7) = true)
    (a8 : PySem.W.nsIn K mainGlobals "_is_end" = some (some (.ref f8)))
    (l8 : K.lookup f8 = some ⟨oc8, od8, .func (PySem.W.fnOf "_is_end" "_is_end" (defArgs s_end) (defBody s_end) (defScope s_end) .none kV8 dc8 pm8 an8 cd8 ct8), sl8⟩)
    (c8 : PySem.W.codeIn K cd8 "_is_end" = true)
    (k8 : PySem.W.keepIn K (.ref f8) = true)
    (a9 : PySem.W.nsIn K mainGlobals "_has_parts" = some (some (.ref f9)))
    (l9 : K.lookup f9 = some ⟨oc9, od9, .func (PySem.W.fnOf "_has_parts" "_has_parts" (defArgs s_parts) (defBody s_parts) (defScope s_parts) .none kV9 dc9 pm9 an9 cd9 ct9), sl9⟩)
    (c9 : PySem.W.codeIn K cd9 "_has_parts" = true)
    (k9 : PySem.W.keepIn K (.ref f9) = true)
    (a10 : PySem.W.nsIn K mainGlobals "written" = some (some (.ref f10)))
    (l10 : K.lookup f10 = some ⟨oc10, od10, .func (PySem.W.fnOf "written" "written" (defArgs s_written) (defBody s_written) (defScope s_written) .none kV10 dc10 pm10 an10 cd10 ct10), sl10⟩)
    (c10 : PySem.W.codeIn K cd10 "written" = true)
    (k10 : PySem.W.keepIn K (.ref f10) = true)
    (a11 : PySem.W.nsIn K mainGlobals "weight_of" = some (some (.ref f11)))
    (l11 : K.lookup f11 = some ⟨oc11, od11, .func (PySem.W.fnOf "weight_of" "weight_of" (defArgs s_weight) (defBody s_weight) (defScope s_weight) .none kV11 dc11 pm11 an11 cd11 ct11), sl11⟩)
    (c11 : PySem.W.codeIn K cd11 "weight_of" = true)
    (k11 : PySem.W.keepIn K (.ref f11) = true)
    (a12 : PySem.W.nsIn K mainGlobals "id_of" = some (some (.ref f12)))
    (l12 : K.lookup f12 = some ⟨oc12, od12, .func (PySem.W.fnOf "id_of" "id_of" (defArgs s_id) (defBody s_id) (defScope s_id) .none kV12 dc12 pm12 an12 cd12 ct12), sl12⟩)
    (c12 : PySem.W.codeIn K cd12 "id_of" = true)
    (k12 : PySem.W.keepIn K (.ref f12) = true)
    (a13 : PySem.W.nsIn K mainGlobals "is_move" = some (some (.ref f13)))
    (l13 : K.lookup f13 = some ⟨oc13, od13, .func (PySem.W.fnOf "is_move" "is_move" (defArgs s_move) (defBody s_move) (defScope s_move) .none kV13 dc13 pm13 an13 cd13 ct13), sl13⟩)
    (c13 : PySem.W.codeIn K cd13 "is_move" = true)
    (k13 : PySem.W.keepIn K (.ref f13) = true)
    (a14 : PySem.W.nsIn K mainGlobals "is_count" = some (some (.ref f14)))
    (l14 : K.lookup f14 = some ⟨oc14, od14, .func (PySem.W.fnOf "is_count" "is_count" (defArgs s_count) (defBody s_count) (defScope s_count) .none kV14 dc14 pm14 an14 cd14 ct14), sl14⟩)
    (c14 : PySem.W.codeIn K cd14 "is_count" = true)
    (k14 : PySem.W.keepIn K (.ref f14) = true)
    (a15 : PySem.W.nsIn K mainGlobals "is_record" = some (some (.ref f15)))
    (l15 : K.lookup f15 = some ⟨oc15, od15, .func (PySem.W.fnOf "is_record" "is_record" (defArgs s_record) (defBody s_record) (defScope s_record) .none kV15 dc15 pm15 an15 cd15 ct15), sl15⟩)
    (c15 : PySem.W.codeIn K cd15 "is_record" = true)
    (k15 : PySem.W.keepIn K (.ref f15) = true)
    (a16 : PySem.W.nsIn K mainGlobals "are_records" = some (some (.ref f16)))
    (l16 : K.lookup f16 = some ⟨oc16, od16, .func (PySem.W.fnOf "are_records" "are_records" (defArgs s_records) (defBody s_records) (defScope s_records) .none kV16 dc16 pm16 an16 cd16 ct16), sl16⟩)
    (c16 : PySem.W.codeIn K cd16 "are_records" = true)
    (k16 : PySem.W.keepIn K (.ref f16) = true)
    (a17 : PySem.W.nsIn K mainGlobals "with_weight" = some (some (.ref f17)))
    (l17 : K.lookup f17 = some ⟨oc17, od17, .func (PySem.W.fnOf "with_weight" "with_weight" (defArgs s_with) (defBody s_with) (defScope s_with) .none kV17 dc17 pm17 an17 cd17 ct17), sl17⟩)
    (c17 : PySem.W.codeIn K cd17 "with_weight" = true)
    (k17 : PySem.W.keepIn K (.ref f17) = true)
    (a18 : PySem.W.nsIn K mainGlobals "places_in" = some (some (.ref f18)))
    (l18 : K.lookup f18 = some ⟨oc18, od18, .func (PySem.W.fnOf "places_in" "places_in" (defArgs s_in) (defBody s_in) (defScope s_in) .none kV18 dc18 pm18 an18 cd18 ct18), sl18⟩)
    (c18 : PySem.W.codeIn K cd18 "places_in" = true)
    (k18 : PySem.W.keepIn K (.ref f18) = true)
    (a19 : PySem.W.nsIn K mainGlobals "_time_and_id" = some (some (.ref f19)))
    (l19 : K.lookup f19 = some ⟨oc19, od19, .func (PySem.W.fnOf "_time_and_id" "_time_and_id" (defArgs s_key) (defBody s_key) (defScope s_key) .none kV19 dc19 pm19 an19 cd19 ct19), sl19⟩)
    (c19 : PySem.W.codeIn K cd19 "_time_and_id" = true)
    (k19 : PySem.W.keepIn K (.ref f19) = true)
    (a20 : PySem.W.nsIn K mainGlobals "in_sequence" = some (some (.ref f20)))
    (l20 : K.lookup f20 = some ⟨oc20, od20, .func (PySem.W.fnOf "in_sequence" "in_sequence" (defArgs s_seq) (defBody s_seq) (defScope s_seq) .none kV20 dc20 pm20 an20 cd20 ct20), sl20⟩)
    (c20 : PySem.W.codeIn K cd20 "in_sequence" = true)
    (k20 : PySem.W.keepIn K (.ref f20) = true)
    (a21 : PySem.W.nsIn K mainGlobals "places_of" = some (some (.ref f21)))
    (l21 : K.lookup f21 = some ⟨oc21, od21, .func (PySem.W.fnOf "places_of" "places_of" (defArgs s_places) (defBody s_places) (defScope s_places) .none kV21 dc21 pm21 an21 cd21 ct21), sl21⟩)
    (c21 : PySem.W.codeIn K cd21 "places_of" = true)
    (k21 : PySem.W.keepIn K (.ref f21) = true)
    (a22 : PySem.W.nsIn K mainGlobals "stretches_of" = some (some (.ref f22)))
    (l22 : K.lookup f22 = some ⟨oc22, od22, .func (PySem.W.fnOf "stretches_of" "stretches_of" (defArgs s_stretches) (defBody s_stretches) (defScope s_stretches) .none kV22 dc22 pm22 an22 cd22 ct22), sl22⟩)
    (c22 : PySem.W.codeIn K cd22 "stretches_of" = true)
    (k22 : PySem.W.keepIn K (.ref f22) = true)
    (a23 : PySem.W.nsIn K mainGlobals "law" = some (some (.ref f23)))
    (l23 : K.lookup f23 = some ⟨oc23, od23, .func (PySem.W.fnOf "law" "law" (defArgs s_law) (defBody s_law) (defScope s_law) .none kV23 dc23 pm23 an23 cd23 ct23), sl23⟩)
    (c23 : PySem.W.codeIn K cd23 "law" = true)
    (k23 : PySem.W.keepIn K (.ref f23) = true)
    (z_len : PySem.W.nsIn K mainGlobals "len" = some none)
    (z_range : PySem.W.nsIn K mainGlobals "range" = some none)
    (z_max : PySem.W.nsIn K mainGlobals "max" = some none)
    (z_min : PySem.W.nsIn K mainGlobals "min" = some none)
    (z_repr : PySem.W.nsIn K mainGlobals "repr" = some none)
    (z_isinstance : PySem.W.nsIn K mainGlobals "isinstance" = some none)
    (z_int : PySem.W.nsIn K mainGlobals "int" = some none)
    (z_bool : PySem.W.nsIn K mainGlobals "bool" = some none)
    (z_str : PySem.W.nsIn K mainGlobals "str" = some none)
    (z_tuple : PySem.W.nsIn K mainGlobals "tuple" = some none)
    (z_list : PySem.W.nsIn K mainGlobals "list" = some none)
    (z_all : PySem.W.nsIn K mainGlobals "all" = some none)
    (z_sorted : PySem.W.nsIn K mainGlobals "sorted" = some none)
    (u0 : PySem.W.nsIn K mainGlobals "OUTSIDE" = some (some (.str "-" ck0)))
    (u1 : PySem.W.nsIn K mainGlobals "LONGEST_PLACE" = some (some (.int 8 ck1)))
    (u2 : PySem.W.nsIn K mainGlobals "GREATEST_PART" = some (some (.int 1000000 ck2)))
    (u3 : PySem.W.nsIn K mainGlobals "GREATEST_WEIGHT" = some (some (.int 1000 ck3)))
    (u4 : PySem.W.nsIn K mainGlobals "GREATEST_COST" = some (some (.int 1000 ck4)))
    (u5 : PySem.W.nsIn K mainGlobals "PARTS_OF_MOVE" = some (some (.int 6 ck5)))
    (u6 : PySem.W.nsIn K mainGlobals "PARTS_OF_COUNT" = some (some (.int 5 ck6)))
    : ∃ fd : FuncData, (∀ (s : Shared) (v : Value), BindsTo s fd ⟨[v], []⟩ [("script", v)]) ∧ ∀ base : Heap, K.In base → base.Ns mainGlobals mg → AtTop P w K mg base fa fd P_law (spLaw K) := by
  have e := hfa.symm.trans (PySem.W.mg_of X G a23)
  cases e
  have T : Bi mg := ⟨PySem.W.mg_none_of X G z_len, PySem.W.mg_none_of X G z_range, PySem.W.mg_none_of X G z_max, PySem.W.mg_none_of X G z_min, PySem.W.mg_none_of X G z_repr, PySem.W.mg_none_of X G z_isinstance, PySem.W.mg_none_of X G z_int, PySem.W.mg_none_of X G z_bool, PySem.W.mg_none_of X G z_str, PySem.W.mg_none_of X G z_tuple, PySem.W.mg_none_of X G z_list, PySem.W.mg_none_of X G z_all, PySem.W.mg_none_of X G z_sorted⟩
  have C : Cs mg := ⟨⟨_, PySem.W.mg_of X G u0⟩, ⟨_, PySem.W.mg_of X G u1⟩, ⟨_, PySem.W.mg_of X G u2⟩, ⟨_, PySem.W.mg_of X G u3⟩, ⟨_, PySem.W.mg_of X G u4⟩, ⟨_, PySem.W.mg_of X G u5⟩, ⟨_, PySem.W.mg_of X G u6⟩⟩
  have D0 : Df K mg "_law_urn" s_urn _ _ := ⟨fun_mk (st := s_urn) l0 c0 k0, PySem.W.mg_of X G a0⟩
  have D1 : Df K mg "_law_draw" s_draw _ _ := ⟨fun_mk (st := s_draw) l1 c1 k1, PySem.W.mg_of X G a1⟩
  have D2 : Df K mg "_law_choose" s_choose _ _ := ⟨fun_mk (st := s_choose) l2 c2 k2, PySem.W.mg_of X G a2⟩
  have D3 : Df K mg "is_integer" s_integer _ _ := ⟨fun_mk (st := s_integer) l3 c3 k3, PySem.W.mg_of X G a3⟩
  have D4 : Df K mg "is_within" s_within _ _ := ⟨fun_mk (st := s_within) l4 c4 k4, PySem.W.mg_of X G a4⟩
  have D5 : Df K mg "is_place" s_place _ _ := ⟨fun_mk (st := s_place) l5 c5 k5, PySem.W.mg_of X G a5⟩
  have D6 : Df K mg "is_weight" s_isw _ _ := ⟨fun_mk (st := s_isw) l6 c6 k6, PySem.W.mg_of X G a6⟩
  have D7 : Df K mg "is_cost" s_cost _ _ := ⟨fun_mk (st := s_cost) l7 c7 k7, PySem.W.mg_of X G a7⟩
  have D8 : Df K mg "_is_end" s_end _ _ := ⟨fun_mk (st := s_end) l8 c8 k8, PySem.W.mg_of X G a8⟩
  have D9 : Df K mg "_has_parts" s_parts _ _ := ⟨fun_mk (st := s_parts) l9 c9 k9, PySem.W.mg_of X G a9⟩
  have D10 : Df K mg "written" s_written _ _ := ⟨fun_mk (st := s_written) l10 c10 k10, PySem.W.mg_of X G a10⟩
  have D11 : Df K mg "weight_of" s_weight _ _ := ⟨fun_mk (st := s_weight) l11 c11 k11, PySem.W.mg_of X G a11⟩
  have D12 : Df K mg "id_of" s_id _ _ := ⟨fun_mk (st := s_id) l12 c12 k12, PySem.W.mg_of X G a12⟩
  have D13 : Df K mg "is_move" s_move _ _ := ⟨fun_mk (st := s_move) l13 c13 k13, PySem.W.mg_of X G a13⟩
  have D14 : Df K mg "is_count" s_count _ _ := ⟨fun_mk (st := s_count) l14 c14 k14, PySem.W.mg_of X G a14⟩
  have D15 : Df K mg "is_record" s_record _ _ := ⟨fun_mk (st := s_record) l15 c15 k15, PySem.W.mg_of X G a15⟩
  have D16 : Df K mg "are_records" s_records _ _ := ⟨fun_mk (st := s_records) l16 c16 k16, PySem.W.mg_of X G a16⟩
  have D17 : Df K mg "with_weight" s_with _ _ := ⟨fun_mk (st := s_with) l17 c17 k17, PySem.W.mg_of X G a17⟩
  have D18 : Df K mg "places_in" s_in _ _ := ⟨fun_mk (st := s_in) l18 c18 k18, PySem.W.mg_of X G a18⟩
  have D19 : Df K mg "_time_and_id" s_key _ _ := ⟨fun_mk (st := s_key) l19 c19 k19, PySem.W.mg_of X G a19⟩
  have D20 : Df K mg "in_sequence" s_seq _ _ := ⟨fun_mk (st := s_seq) l20 c20 k20, PySem.W.mg_of X G a20⟩
  have D21 : Df K mg "places_of" s_places _ _ := ⟨fun_mk (st := s_places) l21 c21 k21, PySem.W.mg_of X G a21⟩
  have D22 : Df K mg "stretches_of" s_stretches _ _ := ⟨fun_mk (st := s_stretches) l22 c22 k22, PySem.W.mg_of X G a22⟩
  have D23 : Df K mg "law" s_law _ _ := ⟨fun_mk (st := s_law) l23 c23 k23, PySem.W.mg_of X G a23⟩
  exact ⟨PySem.W.fnOf "law" "law" (defArgs s_law) (defBody s_law) (defScope s_law) .none kV23 dc23 pm23 an23 cd23 ct23, fun s v => .of_eq rfl, fun base _ _ =>
    ok_law D23 D0 D1 D2 D3 D4 D5 D6 D7 D8 D9 D10 D11 D12 D13 D14 D15 D16 D17 D18 D19 D20 D21 D22 T C⟩
end Sk

open PySem PySem.W PyProof.Rows in
set_option maxRecDepth 100000 in
set_option maxHeartbeats 0 in
theorem PySem.Challenge.cw_stockcounts_k05_records_by_name_holds : PySem.Challenge.rw_stockcounts_k05_records_by_name.Holds := by
  w_on; o_law; k_head; (case hw => w_witness2)
  k_fill
  refine Sk.top_walk (l := PySem.Challenge.rw_stockcounts_k05_records_by_name) (n := 63) (x := "script") (sp := Sk.spLaw) rfl (by decide) rfl (fun w h Y => PySem.W.kIn_of Y) ?F (fun K H a ns h1 h2 _ h4 => ⟨a, ns, rfl, h4, h1, h2, fun _ => rfl⟩)
  case F =>
    intro w mg fa h KX G hmg
    refine' Sk.all_mk KX G hmg ?a0 ?l0 ?c0 ?k0 ?a1 ?l1 ?c1 ?k1 ?a2 ?l2 ?c2 ?k2 ?a3 ?l3 ?c3 ?k3 ?a4 ?l4 ?c4 ?k4 ?a5 ?l5 ?c5 ?k5 ?a6 ?l6 ?c6 ?k6 ?a7 ?l7 ?c7 ?k7 ?a8 ?l8 ?c8 ?k8 ?a9 ?l9 ?c9 ?k9 ?a10 ?l10 ?c10 ?k10 ?a11 ?l11 ?c11 ?k11 ?a12 ?l12 ?c12 ?k12 ?a13 ?l13 ?c13 ?k13 ?a14 ?l14 ?c14 ?k14 ?a15 ?l15 ?c15 ?k15 ?a16 ?l16 ?c16 ?k16 ?a17 ?l17 ?c17 ?k17 ?a18 ?l18 ?c18 ?k18 ?a19 ?l19 ?c19 ?k19 ?a20 ?l20 ?c20 ?k20 ?a21 ?l21 ?c21 ?k21 ?a22 ?l22 ?c22 ?k22 ?a23 ?l23 ?c23 ?k23 ?z_len ?z_range ?z_max ?z_min ?z_repr ?z_isinstance ?z_int ?z_bool ?z_str ?z_tuple ?z_list ?z_all ?z_sorted ?u0 ?u1 ?u2 ?u3 ?u4 ?u5 ?u6
    (case a0 => k_is)
    (case l0 => k_is)
    (case c0 => k_is)
    (case k0 => k_is)
    (case a1 => k_is)
    (case l1 => k_is)
    (case c1 => k_is)
    (case k1 => k_is)
    (case a2 => k_is)
    (case l2 => k_is)
    (case c2 => k_is)
    (case k2 => k_is)
    (case a3 => k_is)
    (case l3 => k_is)
    (case c3 => k_is)
    (case k3 => k_is)
    (case a4 => k_is)
    (case l4 => k_is)
    (case c4 => k_is)
    (case k4 => k_is)
    (case a5 => k_is)
    (case l5 => k_is)
    (case c5 => k_is)
    (case k5 => k_is)
    (case a6 => k_is)
    (case l6 => k_is)
    (case c6 => k_is)
    (case k6 => k_is)
    (case a7 => k_is)
    (case l7 => k_is)
    (case c7 => k_is)
    (case k7 => k_is)
    (case a8 => k_is)
    (case l8 => k_is)
    (case c8 => k_is)
    (case k8 => k_is)
    (case a9 => k_is)
    (case l9 => k_is)
    (case c9 => k_is)
    (case k9 => k_is)
    (case a10 => k_is)
    (case l10 => k_is)
    (case c10 => k_is)
    (case k10 => k_is)
    (case a11 => k_is)
    (case l11 => k_is)
    (case c11 => k_is)
    (case k11 => k_is)
    (case a12 => k_is)
    (case l12 => k_is)
    (case c12 => k_is)
    (case k12 => k_is)
    (case a13 => k_is)
    (case l13 => k_is)
    (case c13 => k_is)
    (case k13 => k_is)
    (case a14 => k_is)
    (case l14 => k_is)
    (case c14 => k_is)
    (case k14 => k_is)
    (case a15 => k_is)
    (case l15 => k_is)
    (case c15 => k_is)
    (case k15 => k_is)
    (case a16 => k_is)
    (case l16 => k_is)
    (case c16 => k_is)
    (case k16 => k_is)
    (case a17 => k_is)
    (case l17 => k_is)
    (case c17 => k_is)
    (case k17 => k_is)
    (case a18 => k_is)
    (case l18 => k_is)
    (case c18 => k_is)
    (case k18 => k_is)
    (case a19 => k_is)
    (case l19 => k_is)
    (case c19 => k_is)
    (case k19 => k_is)
    (case a20 => k_is)
    (case l20 => k_is)
    (case c20 => k_is)
    (case k20 => k_is)
    (case a21 => k_is)
    (case l21 => k_is)
    (case c21 => k_is)
    (case k21 => k_is)
    (case a22 => k_is)
    (case l22 => k_is)
    (case c22 => k_is)
    (case k22 => k_is)
    (case a23 => k_is)
    (case l23 => k_is)
    (case c23 => k_is)
    (case k23 => k_is)
    (case z_len => k_is)
    (case z_range => k_is)
    (case z_max => k_is)
    (case z_min => k_is)
    (case z_repr => k_is)
    (case z_isinstance => k_is)
    (case z_int => k_is)
    (case z_bool => k_is)
    (case z_str => k_is)
    (case z_tuple => k_is)
    (case z_list => k_is)
    (case z_all => k_is)
    (case z_sorted => k_is)
    (case u0 => k_is)
    (case u1 => k_is)
    (case u2 => k_is)
    (case u3 => k_is)
    (case u4 => k_is)
    (case u5 => k_is)
    (case u6 => k_is)
