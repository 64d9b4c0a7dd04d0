import PyProof.Rows.All
import Wide.All
import OpenK.AllK
import Wide.FinOn
import HandS.ForMost
import HandS.Wide
import HandS.EndBits
import PyProof.ReprRoads
import PyProof.ReprLen
import HandS.Star
import PySem.Challenge.RW_stockcounts_k03_parts_of_records
set_option Elab.async false
set_option maxRecDepth 100000
set_option maxHeartbeats 4000000
namespace Sk
open PySem L2 PyProof.Rows

/-! ### operators on ints of any size; repr of data -/
section
variable {X : Cx}
def CMulX (i j : Int) : Prop := IntMulOk i j
theorem op_mulX : OpR X (binaryOp .Mult) (rI CMulX fun i j => .int (i * j)) :=
  opI fun _ _ _ _ _ _ _ hc q => mul_int q hc
def CPowX (i j : Int) : Prop := 0 ≤ j ∧ (Builtin.Int.intBits i : Int) * j ≤ 2 ^ 27
theorem op_powX : OpR X (binaryOp .Pow) (rI CPowX fun i j => .int (i ^ j.toNat)) :=
  opI fun _ _ _ _ _ _ _ hc q => pow_int hc.1 hc.2 q
/-- data that repr shows: short leaves, no dict -/
structure Shows (d : PyData) : Prop where
  short : d.leavesShort 13 = true
  sh : d.showable = true
  nd : d.hasDict = false
  dp : d.depth ≤ 60
  wt : d.weight ≤ 2 ^ 20
def rRepr (K : PySem.W.Frag) : List V → Hp → VK → Prop := fun xs H Q =>
  ∃ a d, xs = [.ref a] ∧ Dp K H (.ref a) d ∧ Shows d ∧ Q (.str d.shown) H
theorem call_repr (hg : X.A.guards = some []) (hu : X.A.units + 64 < cLine) : CallR X (.builtin "repr") (rRepr X.K) := by
  intro pins s σ H xs us Q I r h
  obtain ⟨a, d, rfl, hd, S, q⟩ := h
  cases r with
  | cons r1 r2 =>
    cases r2
    obtain ⟨as, rd⟩ := Dp.reads I d _ _ hd r1
    cases r1
    have hdp := S.dp
    exact repr_of_reads' rd S.sh (fun z => by rw [S.nd] at z; cases z) hg (by omega) (fun _ _ e => e)
      (fun h' u tk hk => ⟨.str _, H, I.kept hk, ⟨u, rfl⟩, q⟩) (PyData.shown_fits (by decide) (by decide) S.short S.wt)
end

/-! ### the law's call where no guard is under way -/
section
variable {P : Program} {w : World} {K : PySem.W.Frag} {mg : Str → Option Value}
/-- what the law's def keeps when the claim calls it -/
def AtTop (P : Program) (w : World) (K : PySem.W.Frag) (mg : Str → Option Value) (base : Heap) (f : Addr) (fd : FuncData) (ps : List Str) (sp : Sp) : Prop :=
  ∀ (out : List Env) (s : Shared) (H : Hp) (as : Args) (us : List Value) (vs : List V) (Q : VK),
    Env0 P w K mg base callerA out s H → BindsTo s fd as (ps.zip us) → Vals vs us → sp vs H Q E0 →
    codeAny (model P w) callerA (.call (.ref f) as) (CR CX0 out P w H s Q E0) s
theorem atTop {base : Heap} {x qual : Str} {st : Stmt} {f : Addr} {fd : FuncData} {N ps : List Str} {k : Nat} {sp : Sp} (F : Fun K x qual st f fd)
    (S : FnScope N ps (defScope st)) (hr : Room (k + 1) callerA) (len : ∀ vs H Q E, sp vs H Q E → vs.length = ps.length)
    (hbody : ∀ (cv : Value) (A : Around) (out : List Env) (s : Shared) (H : Hp) (vs : List V) (Q : VK),
      Room k (A.deeper (envOfC qual (defScope st) s.heap.objs.size f cv)) → A.guards = some [] → sp vs H Q E0 →
      ∃ t, PSs (cxOf CX0 P w K mg base N qual (defScope st) f cv A out s H E0).nox (defBody st) t ∧
        t { nx := fun _ H' => Q .non H', rt := Q } (start N vs) H) :
    AtTop P w K mg base f fd ps sp := by
  obtain ⟨oc, od, kV, doc, pm, an, cv, ct, osl, rfl, lk, hcd⟩ := F.ex
  intro out s H as us vs Q e0 hb r hsp
  have n1 := len _ _ _ _ hsp
  have same := fun (b : Addr) (o : Obj) (e : base.get? b = some o) => (e0.bs b o e).1
  have KX : K.In s.heap := e0.mod.kin.keeps same
  have lim : s.heap.NoLimit := e0.mod.nolimit.keeps same
  refine codeAny_call_function hr.depth (KX _ _ lk) rfl S.co S.gen rfl (PySem.W.codeRec_of KX hcd)
    (hb _ _ _ _ ?_)
  refine wpAny_newFunctionEnv_cells S.kind (fun y hy => ?_) (fun env he s1 x1 => ?_)
  · obtain ⟨n, v⟩ := y
    rcases S.par n (List.of_mem_zip hy).1 with q | q
    · exact Or.inl q
    · exact Or.inr ⟨q, PySem.W.cellsFrom_some _ _ _ (Or.inl q)⟩
  · subst he
    refine ⟨lim.keeps x1.toInCall.keep, codeAny_func ?_⟩
    obtain ⟨t, ht, hq⟩ := hbody cv callerA out s H vs Q (hr.deeper _) rfl hsp
    have I := inv_start (CX := CX0) (E := E0) (mg := mg) (base := base) (K := K) S hr.hd e0 n1 r x1
    refine wpAny_mono (ht.nox.run [] s1 (start N vs) H _ I hq) (fun fl s' hs => ?_) (fun e s' hs => hs)
    cases fl with
    | ret u =>
      obtain ⟨v, σ2, H2, J, rv, q⟩ := hs
      exact ⟨v, H2, J.os, J.bare, J.base, J.hok, rv, q⟩
    | next =>
      obtain ⟨σ2, H2, J, q⟩ := hs
      exact ⟨V.non, H2, J.os, J.bare, J.base, J.hok, rfl, q⟩
    | brk => exact hs.choose_spec.choose_spec.2.elim
    | cont => exact hs.choose_spec.choose_spec.2.elim
/-- the row, from what the law's def keeps at the top -/
theorem top_call {mb : Str → Option Value} {fa a : Addr} {fd : FuncData} {x : Str} {sp : Sp} {s₁ : Shared} {vs : List Value} {ns : List Int}
    (KX : K.In s₁.heap) (hm : s₁.heap.Ns mainGlobals mg) (hb : s₁.heap.Ns builtinsNs mb) (hbb : ∀ x : Str, x ≠ "__name__" → mb x = bootBuiltins x)
    (hlim : s₁.heap.NoLimit) (hg : s₁.gens = #[]) (ha : s₁.heap.get? a = some { cls := .type "list", data := .seq vs.toArray }) (hi : IntsAre vs ns) (hl : ns.length ≤ sizeLine)
    (F : ∀ base : Heap, K.In base → base.Ns mainGlobals mg → AtTop P w K mg base fa fd [x] sp) (hbind : ∀ (s : Shared) (u : Value), BindsTo s fd ⟨[u], []⟩ [(x, u)])
    (hsp : ∀ H : Hp, Only H → SqL K H a (ns.map V.int) → sp [.ref a] H (fun v _ => v = .bl true) E0) :
    codeAny (model P w) callerA (.call (.ref fa) ⟨[.ref a], []⟩)
      (fun r s' => r = .ok (.ret (.bool true)) ∧ OldK s₁.heap s'.heap ∧ s'.os = s₁.os ∧ AllBare s'.gens) s₁ := by
  have rv := vals_ints hi
  have go : ∀ H : Hp, Only H → SqL K H a (ns.map V.int) → HOk P w H s₁.heap → (∀ b, H b ≠ none → b = a) → (H a ≠ none → K.lookup a = none) →
      codeAny (model P w) callerA (.call (.ref fa) ⟨[.ref a], []⟩)
        (fun r s' => r = .ok (.ret (.bool true)) ∧ OldK s₁.heap s'.heap ∧ s'.os = s₁.os ∧ AllBare s'.gens) s₁ := by
    intro H hO hS hok hA hK
    have at1 : ∀ {b : Addr}, b ≠ a → H b = none := fun {b} ne => by
      cases q : H b with
      | none => rfl
      | some u => exact absurd (hA b (by rw [q]; simp)) ne
    have dictOut : ∀ {b : Addr} {m : Str → Option Value}, s₁.heap.Ns b m → (hidT s₁.heap H).Ns b m := fun {b m} N => by
      obtain ⟨o, es, ep, e, d, r⟩ := N
      refine ⟨o, es, ep, hidT_get e (at1 fun q => ?_), d, r⟩
      subst q
      rw [ha] at e
      cases e
      exact (nomatch (show Data.seq vs.toArray _ = Data.dict es ep from d))
    have kin : K.In (hidT s₁.heap H) := fun b o e => hidT_get (KX b o e) (by
      cases q : H b with
      | none => rfl
      | some u =>
        have z : b = a := hA b (by rw [q]; simp)
        subst z
        rw [hK (by rw [q]; simp)] at e
        cases e)
    obtain ⟨mc, l1, l2⟩ := hlim
    have hM : Mod K mg (hidT s₁.heap H) := ⟨kin, dictOut hm, ⟨mb, dictOut hb, hbb⟩, ⟨mc, dictOut l1, l2⟩⟩
    have e0 : Env0 P w K mg (hidT s₁.heap H) callerA [] s₁ H :=
      ⟨rfl, hM, fun b o e => of_hidT e, Nat.le_of_eq (hidT_size _ _), trivial, fun b hb => (List.not_mem_nil (show b ∈ ([] : List Addr) from hb)).elim, hok, .of_eq hg⟩
    refine codeAny_mono (F _ kin (dictOut hm) [] s₁ H ⟨[.ref a], []⟩ [.ref a] [.ref a] _ e0 (hbind s₁ (.ref a)) (.cons rfl .nil) (hsp H hO hS)) (fun r s' h => ?_)
    match r, h with
    | .error e, h => exact h.elim
    | .ok .next, h => exact h.elim
    | .ok .brk, h => exact h.elim
    | .ok .cont, h => exact h.elim
    | .ok (.ret u), h =>
      obtain ⟨v, H2, os, bare, un, hok2, rl, q⟩ := h
      have q : v = .bl true := q
      subst q
      obtain rfl : u = Value.bool true := rl
      refine ⟨rfl, OldK.of_keep fun b o e => ?_, os, bare⟩
      rcases hO b with z | ⟨ob, xs, z⟩
      · exact un.keep b o e z (fun y => (List.not_mem_nil (show b ∈ ([] : List Addr) from y)).elim) (by simp)
      · obtain ⟨e1, _⟩ := hok b _ z
        obtain ⟨e2, _⟩ := hok2 b _ (un.frzs b ob _ z)
        rw [e] at e1
        cases e1
        exact e2
  cases hk : K.lookup a with
  | some o =>
    have e := KX a o hk
    rw [ha] at e
    cases e
    exact go (fun _ => none) (fun _ => Or.inl rfl) (Or.inr ⟨_, vs.toArray, _, hk, rfl, rfl, rfl, by rw [List.size_toArray, hi.length]; exact hl, by simpa using rv⟩)
      (fun b u z => nomatch (show (none : Option HO) = some u from z)) (fun b z => absurd rfl z) (fun z => absurd rfl z)
  | none =>
    let o : HO := .frz { cls := .type "list", data := .seq vs.toArray } (.lst (ns.map V.int))
    refine go (fun b => if b = a then some o else none) (fun b => ?_) (Or.inl (Or.inr ⟨_, if_pos rfl⟩)) (fun b u z => ?_) (fun b z => ?_) (fun _ => hk)
    · by_cases c : b = a
      · exact Or.inr ⟨_, _, if_pos c⟩
      · exact Or.inl (if_neg c)
    · by_cases c : b = a
      · have z2 := (if_pos c).symm.trans z
        cases z2
        subst c
        exact ⟨ha, by rw [List.length_map]; exact hl, vs, _, rv, ha⟩
      · exact nomatch (if_neg c).symm.trans z
    · by_cases c : b = a
      · exact c
      · exact absurd (if_neg c) z
end
theorem top_walk {l : PySem.W.OpenLaw} {n : Nat} {q : Program} {loose : List Str} {XP : (Str → Option Value) → Heap → Prop} {YP : World → Heap → Prop} {d : DefRec} {K : Params → PySem.W.Frag} {sp : PySem.W.Frag → Sp} {x : Str}
    (hn : l.most = some n) (hn2 : n ≤ sizeLine) (hdf : d.params.defaults = []) (hY : ∀ (w : World) (h : Heap), YP w h → (K w.params).In h)
    (F : ∀ (w : World) (mg : Str → Option Value) (fa : Addr) (h : Heap), (K w.params).In h → h.Ns mainGlobals mg → mg d.name = some (.ref fa) →
      ∃ fd : FuncData, (∀ (s : Shared) (u : Value), BindsTo s fd ⟨[u], []⟩ [(x, u)]) ∧
        ∀ base : Heap, (K w.params).In base → base.Ns mainGlobals mg → AtTop l.prog w (K w.params) mg base fa fd [x] (sp (K w.params)))
    (hsp : ∀ (K : PySem.W.Frag) (H : Hp) (a : Addr) (ns : List Int), ns.length ≤ n → (∀ z ∈ ns, Builtin.Int.intBits z ≤ 1048576) → Only H → SqL K H a (ns.map V.int) → sp K [.ref a] H (fun v _ => v = .bl true) E0) :
    PySem.W.WalkO q loose XP YP l.row.toRowW d [] (fun f vs => PySem.call f vs) := by
  refine Att.attach_callB hn hdf (fun w s₀ s₁ mg mb fa o pm cd doc a vs ns G Y _ _ _ hmg hobj hints hlen hbits hg => ?_)
  have KX := hY w _ Y
  obtain ⟨fd, hb, hF⟩ := F w mg fa _ KX G.T.g hmg
  exact top_call KX G.T.g G.T.b G.T.builtins G.T.nolimit hg hobj hints (Nat.le_trans hlen hn2) hF hb
    (fun H hO hS => hsp _ H a ns hlen hbits hO hS)
end Sk

set_option Elab.async false
set_option maxRecDepth 100000
set_option maxHeartbeats 4000000
namespace Sk
open PySem L2 PyProof.Rows
/-! ### heaps: all stands but the urn -/
def Mo (u : Addr) (H H' : Hp) : Prop := ∀ b o, b ≠ u → H b = some o → H' b = some o
theorem Mo.refl (u : Addr) (H : Hp) : Mo u H H := fun _ _ _ h => h
theorem Mo.trans {u : Addr} {H H1 H2 : Hp} (a : Mo u H H1) (b : Mo u H1 H2) : Mo u H H2 := fun c o n h => b c o n (a c o n h)
theorem Mo.new {u p : Addr} {H : Hp} {o : HO} (h : H p = none) : Mo u H (upd H p o) := fun b q _ e => by
  rw [upd_ne (ne_of_none e h)]
  exact e
theorem Mo.at {u : Addr} {H : Hp} {o : HO} : Mo u H (upd H u o) := fun b q n e => by
  rw [upd_ne n]
  exact e
theorem Mo.add {u p : Addr} {H H1 : Hp} {o : HO} (a : Mo u H H1) (h : H1 p = none) : Mo u H (upd H1 p o) := a.trans (.new h)
theorem Mo.same {u : Addr} {H H1 : Hp} (a : Mo u H H1) (h : Same H1 H) : True := trivial
theorem Same.mo {u : Addr} {H H1 : Hp} (a : Same H H1) : Mo u H H1 := fun b o _ e => a b o e
def urnO (dg mx : Int) : HO := .dK [(Sum.inr "digits", .int dg), (Sum.inr "mixed", .int mx)]
def Urn (H : Hp) (u : Addr) : Prop := ∃ dg mx : Int, H u = some (urnO dg mx) ∧ 0 ≤ dg ∧ 0 ≤ mx ∧ mx < 2 ^ 32
theorem Urn.new {H : Hp} {u p : Addr} {o : HO} (U : Urn H u) (h : H p = none) : Urn (upd H p o) u := by
  obtain ⟨dg, mx, e, r⟩ := U
  exact ⟨dg, mx, by rw [upd_ne (ne_of_none e h)]; exact e, r⟩
theorem Urn.ne {H : Hp} {u p : Addr} {o : HO} (U : Urn H u) (h : H p = some o) (hk : ∀ kvs, o ≠ .dK kvs) : p ≠ u := fun q => by
  obtain ⟨dg, mx, e, r⟩ := U
  subst q
  rw [h] at e
  exact hk _ (Option.some.inj e)
theorem Urn.neL {H : Hp} {u p : Addr} {xs : List V} (U : Urn H u) (h : H p = some (.lst xs)) : p ≠ u := U.ne h (fun _ z => by cases z)
theorem Urn.neT {H : Hp} {u p : Addr} {xs : List V} (U : Urn H u) (h : H p = some (.tup xs)) : p ≠ u := U.ne h (fun _ z => by cases z)
theorem Urn.lst {H H' : Hp} {u p : Addr} {xs : List V} (U : Urn H u) (m : Mo u H H') (h : H p = some (.lst xs)) : H' p = some (.lst xs) := m _ _ (U.neL h) h
theorem Urn.tup {H H' : Hp} {u p : Addr} {xs : List V} (U : Urn H u) (m : Mo u H H') (h : H p = some (.tup xs)) : H' p = some (.tup xs) := m _ _ (U.neT h) h
theorem Mo.sqL {K : PySem.W.Frag} {u a : Addr} {xs : List V} {H H' : Hp} (m : Mo u H H') (U : Urn H u) (h : SqL K H a xs) : SqL K H' a xs := by
  have ne : ∀ o, H a = some o → (∀ kvs, o ≠ .dK kvs) → a ≠ u := fun o e k => U.ne e k
  rcases h with (h | ⟨o, h⟩) | h
  · exact .inl (.inl (m _ _ (ne _ h (fun _ z => by cases z)) h))
  · exact .inl (.inr ⟨o, m _ _ (ne _ h (fun _ z => by cases z)) h⟩)
  · exact .inr h

/-! ### what the drawing defs keep -/
def spDraw : Sp := fun vs H Q _ => ∃ (u : Addr) (n : Int), vs = [.ref u, .int n] ∧ Urn H u ∧ 1 ≤ n ∧ n < 536870912 ∧
  ∀ (r : Int) (H' : Hp), 0 ≤ r → r < n → Urn H' u → Mo u H H' → Q (.int r) H'
def spChoose : Sp := fun vs H Q _ => ∃ (u l : Addr) (xs : List V), vs = [.ref u, .ref l] ∧ Urn H u ∧ H l = some (.lst xs) ∧ 1 ≤ xs.length ∧ xs.length ≤ 1000 ∧
  ∀ (x : V) (H' : Hp), x ∈ xs → Urn H' u → Mo u H H' → Q x H'
def spUrn (K : PySem.W.Frag) : Sp := fun vs H Q _ => ∃ (a : Addr) (st : Nat) (ns : List Int), vs = [.ref a, .int (st : Int)] ∧ SqL K H a (ns.map V.int) ∧ st ≤ 100 ∧
  (∀ z ∈ ns, Builtin.Int.intBits z ≤ 1048576) ∧ ∀ (u : Addr) (H' : Hp), H u = none → Same H H' → Urn H' u → Q (.ref u) H'

/-! ### flat data -/
def toD : V → PyData
  | .int i => .int i
  | .str z => .str z
  | .bl b => .bool b
  | _ => .none
def flatB : V → Bool
  | .int i => decide (i.natAbs < 1000000000000)
  | .str z => decide (z.cps.size ≤ 20) && z.cps.toList.all (fun c => decide (c < 1000))
  | .bl _ | .non => true
  | _ => false
abbrev Flat (v : V) : Prop := flatB v = true
theorem dp_flat {K : PySem.W.Frag} {H : Hp} : ∀ {v : V}, Flat v → Dp K H v (toD v)
  | .int i, _ => .int i
  | .str z, _ => .str z
  | .bl b, _ => .bl b
  | .non, _ => .non
  | .ref _, h => by cases h
  | .ty _, h => by cases h
  | .byt _, h => by cases h
  | .flt _, h => by cases h
theorem dpAll_flat {K : PySem.W.Frag} {H : Hp} : ∀ {xs : List V}, (∀ x ∈ xs, Flat x) → DpAll K H xs (xs.map toD)
  | [], _ => .nil
  | x :: xs, h => .cons (dp_flat (h x List.mem_cons_self)) (dpAll_flat fun y hy => h y (List.mem_cons_of_mem _ hy))
theorem log_le {n : Nat} (h : n < 1000000000000) : n.log2 < 40 := by
  by_cases z : n = 0
  · subst z; decide
  · exact (Nat.log2_lt z).mpr (Nat.lt_of_lt_of_le h (by decide))
theorem flat_leaf : ∀ {v : V}, Flat v → (toD v).leavesShort 13 = true ∧ (toD v).showable = true ∧ (toD v).hasDict = false ∧ (toD v).depth = 0 ∧ (toD v).weight ≤ 40
  | .int i, h => by
    have h' : i.natAbs < 1000000000000 := of_decide_eq_true h
    have hl := log_le h'
    refine ⟨?_, ?_, rfl, rfl, ?_⟩
    · show PyData.leavesShort 13 (.int i) = true
      simp only [PyData.leavesShort, decide_eq_true_eq]
      exact PyData.shown_int_le h'
    · show PyData.showable (.int i) = true
      simp only [PyData.showable, decide_eq_true_eq]
      omega
    · show PyData.weight (.int i) ≤ 40
      simp only [PyData.weight]
      split <;> omega
  | .str z, h => by
    have h' : z.cps.size ≤ 20 ∧ ∀ c ∈ z.cps.toList, c < 1000 := by
      have h0 : (decide (z.cps.size ≤ 20) && z.cps.toList.all (fun c => decide (c < 1000))) = true := h
      simp only [Bool.and_eq_true, List.all_eq_true, decide_eq_true_eq] at h0
      exact h0
    refine ⟨?_, ?_, rfl, rfl, ?_⟩
    · show PyData.leavesShort 13 (.str z) = true
      simp only [PyData.leavesShort, List.all_eq_true, decide_eq_true_eq]
      intro c hc
      have := h'.2 c hc
      have e : (16 : Nat) ^ 8 = 4294967296 := by decide
      omega
    · show PyData.showable (.str z) = true
      simp only [PyData.showable]
    · show PyData.weight (.str z) ≤ 40
      simp only [PyData.weight]
      omega
  | .bl b, _ => ⟨by show PyData.leavesShort 13 (.bool b) = true; simp only [PyData.leavesShort], by show PyData.showable (.bool b) = true; simp only [PyData.showable], rfl, rfl, by show PyData.weight (.bool b) ≤ 40; simp only [PyData.weight]; omega⟩
  | .non, _ => ⟨by show PyData.leavesShort 13 .none = true; simp only [PyData.leavesShort], by show PyData.showable .none = true; simp only [PyData.showable], rfl, rfl, by show PyData.weight .none ≤ 40; simp only [PyData.weight]; omega⟩
  | .ref _, h => by cases h
  | .ty _, h => by cases h
  | .byt _, h => by cases h
  | .flt _, h => by cases h
theorem flat_all : ∀ {xs : List V}, (∀ x ∈ xs, Flat x) → PyData.leavesShortAll 13 (xs.map toD) = true ∧ PyData.showableAll (xs.map toD) = true ∧ PyData.hasDictAll (xs.map toD) = false ∧ PyData.depthAll (xs.map toD) = 0 ∧ PyData.weightAll (xs.map toD) ≤ 41 * xs.length
  | [], _ => ⟨by simp only [List.map_nil, PyData.leavesShortAll], by simp only [List.map_nil, PyData.showableAll], rfl, rfl, by simp only [List.map_nil, PyData.weightAll]; omega⟩
  | x :: xs, h => by
    obtain ⟨a1, a2, a3, a4, a5⟩ := flat_leaf (h x List.mem_cons_self)
    obtain ⟨b1, b2, b3, b4, b5⟩ := flat_all (xs := xs) fun y hy => h y (List.mem_cons_of_mem _ hy)
    refine ⟨?_, ?_, ?_, ?_, ?_⟩
    · simp only [List.map_cons, PyData.leavesShortAll, a1, b1, Bool.and_self]
    · simp only [List.map_cons, PyData.showableAll, a2, b2, Bool.and_self]
    · simp only [List.map_cons, PyData.hasDictAll, a3, b3, Bool.or_self]
    · simp only [List.map_cons, PyData.depthAll, a4, b4, Nat.max_self]
    · simp only [List.map_cons, PyData.weightAll, List.length_cons]
      omega
theorem shows_lst {xs : List V} (h : ∀ x ∈ xs, Flat x) (hl : xs.length ≤ 1000) : Shows (.list (xs.map toD)) := by
  obtain ⟨b1, b2, b3, b4, b5⟩ := flat_all h
  exact ⟨by simp only [PyData.leavesShort]; exact b1, by simp only [PyData.showable]; exact b2, by simp only [PyData.hasDict]; exact b3, by simp only [PyData.depth]; omega, by simp only [PyData.weight]; omega⟩
theorem shows_tup {xs : List V} (h : ∀ x ∈ xs, Flat x) (hl : xs.length ≤ 1000) : Shows (.tuple (xs.map toD)) := by
  obtain ⟨b1, b2, b3, b4, b5⟩ := flat_all h
  exact ⟨by simp only [PyData.leavesShort]; exact b1, by simp only [PyData.showable]; exact b2, by simp only [PyData.hasDict]; exact b3, by simp only [PyData.depth]; omega, by simp only [PyData.weight]; omega⟩
/-- repr of a list, of a tuple of flat things -/
theorem repr_l {K : PySem.W.Frag} {H : Hp} {Q : VK} {a : Addr} {xs : List V} (hs : H a = some (.lst xs)) (h : ∀ x ∈ xs, Flat x) (hl : xs.length ≤ 1000)
    (q : Q (.str (PyData.list (xs.map toD)).shown) H) : rRepr K [.ref a] H Q := ⟨a, _, rfl, .lst (.of hs) (dpAll_flat h), shows_lst h hl, q⟩
theorem repr_t {K : PySem.W.Frag} {H : Hp} {Q : VK} {a : Addr} {xs : List V} (hs : H a = some (.tup xs)) (h : ∀ x ∈ xs, Flat x) (hl : xs.length ≤ 1000)
    (q : Q (.str (PyData.tuple (xs.map toD)).shown) H) : rRepr K [.ref a] H Q := ⟨a, _, rfl, .tup (.of hs) (dpAll_flat h), shows_tup h hl, q⟩
theorem intBits_lt {i : Int} {n : Nat} (h : i.natAbs < 2 ^ n) : Builtin.Int.intBits i ≤ n := by
  unfold Builtin.Int.intBits
  split
  · omega
  · rename_i z
    have z' : i.natAbs ≠ 0 := by
      intro q
      apply z
      have : i = 0 := by omega
      simp [this]
    have := (Nat.log2_lt z').mpr h
    omega
end Sk

set_option Elab.async false
set_option maxRecDepth 100000
set_option maxHeartbeats 4000000
namespace Sk
open PySem L2 PyProof.Rows
def top (i : Nat) : Stmt := PySem.Challenge.pw_stockcounts_k03_parts_of_records.main.body.getD i (.Pass ⟨0, 0, 0, 0⟩)
structure Df (K : PySem.W.Frag) (mg : Str → Option Value) (x : Str) (st : Stmt) (f : Addr) (fd : FuncData) : Prop where
  F : Fun K x x st f fd
  g : mg x = some (.ref f)
structure Bi (mg : Str → Option Value) : Prop where
  len : mg "len" = none
  range : mg "range" = none
  max : mg "max" = none
  min : mg "min" = none
  repr : mg "repr" = none

theorem urn_turn {m e : Int} (h0 : 0 ≤ m) (h1 : m < 2 ^ 32) (he : Builtin.Int.intBits e ≤ 1048576) : CMul m 70001 ∧ CMulX e e ∧ CPowX (m * 70001 + e * e + 37) 2 := by
  have hn : e.natAbs < 2 ^ 1048576 := by
    by_cases z : e = 0
    · subst z
      exact Nat.pow_pos (by decide)
    · have z' : e.natAbs ≠ 0 := by omega
      refine (Nat.log2_lt z').mp ?_
      unfold Builtin.Int.intBits at he
      rw [if_neg (by simpa using z)] at he
      omega
  have hb : ∀ x : Int, x.natAbs < 2 ^ 3000000 → Builtin.Int.intBits x ≤ 3000000 := fun x h => intBits_lt h
  refine ⟨Or.inr ⟨by decide, by decide⟩, ?_, by decide, ?_⟩
  · intro z
    rw [Bool.and_eq_true] at z
    have z2 := z.2
    unfold Builtin.Int.intTooBig at z2
    have z3 := of_decide_eq_true z2
    have e1 : bitsLine = 134217728 := by decide
    rw [e1] at z3
    omega
  · have hm : (m * 70001 + e * e + 37).natAbs < 2 ^ 3000000 := by
      have t1 : (e * e).natAbs < 2 ^ (1048576 + 1048576) := wide_lt hn hn
      have t2 : (m * 70001 + 37).natAbs < 2 ^ 64 := by omega
      have t3 : (2 : Nat) ^ 64 ≤ 2 ^ (1048576 + 1048576) := Nat.pow_le_pow_right (by decide) (by decide)
      have t4 : (2 : Nat) ^ (1048576 + 1048576 + 1) ≤ 2 ^ 3000000 := Nat.pow_le_pow_right (by decide) (by decide)
      rw [Nat.pow_succ] at t4
      have t5 : (m * 70001 + e * e + 37).natAbs ≤ (m * 70001 + 37).natAbs + (e * e).natAbs := by omega
      generalize (2 : Nat) ^ (1048576 + 1048576) = A at *
      generalize (2 : Nat) ^ 3000000 = B at *
      omega
    have := hb _ hm
    show (Builtin.Int.intBits (m * 70001 + e * e + 37) : Int) * 2 ≤ 134217728
    omega
theorem mod_bd (x : Int) {k : Int} (hk : 0 < k) : 0 ≤ x % k ∧ x % k < k := ⟨Int.emod_nonneg _ (by omega), Int.emod_lt_of_pos _ hk⟩
section
variable {P : Program} {w : World} {K : PySem.W.Frag} {mg : Str → Option Value} {base : Heap}
abbrev s_urn : Stmt := top 5
abbrev N_urn : List Str := ["script", "start", "mixed", "entry", "digits"]
abbrev P_urn : List Str := ["script", "start"]
theorem sc_urn : FnScope N_urn P_urn (defScope s_urn) := ⟨rfl, rfl, rfl, by decide +kernel, rfl, by decide +kernel, by decide +kernel⟩
theorem bi_urn {f : Addr} {fd : FuncData} {x : Str} {K : PySem.W.Frag} (F : Fun K x x s_urn f fd) : Binds K fd P_urn [] :=
  F.binds fun _ _ _ _ _ _ us hl => match us, hl with | [_, _], _ => rfl
theorem ok_urn {f : Addr} {fd : FuncData} (D : Df K mg "_law_urn" s_urn f fd) (T : Bi mg) : FnOk P w K mg base CX0 2 f fd P_urn (spUrn K) := by
  refine D.F.ok sc_urn (fun vs H Q E h => ?_) (fun cdv A outer s H vs Q E hr h => ?_)
  · obtain ⟨a, st, ns, rfl, _⟩ := h
    rfl
  · obtain ⟨a, st, ns, rfl, hS, hst, hbits, k⟩ := h
    have hu := hu_of hr
    refine ⟨_, (pss_cons (ps_set (i := 2) sc_urn.nd rfl (Or.inl rfl) (pe_op op_add pe_int (pe_op op_mul (pv 1) pe_int)))
      (pss_cons (ps_for PassesOwn.never rfl (pi_list (pv 0)) (pg_name (i := 3) sc_urn.nd rfl (Or.inl rfl))
      (pss_one (ps_set (i := 2) sc_urn.nd rfl (Or.inl rfl) (pe_op op_add (pe_op op_mod (pe_op op_powX (pe_op op_add (pe_op op_add (pe_op op_mul (pv 2) pe_int) (pe_op op_mulX (pv 3) (pv 3))) pe_int) pe_int) pe_int) pe_int))))
      (pss_cons (ps_set (i := 4) sc_urn.nd rfl (Or.inl rfl) (pe_ifExp (PW.pt (pw_and (pt_cmpR op_lt (pv 1) (pe_callB (call_len_seq) (by rfl) T.len PySem.boot_len (pa_cons (pv 0) pa_nil)) (nomark _)) (pw_and1 (pt_cmpR op_ge (pe_ix ix_list (pv 0) (pv 1) (fun _ _ => rfl)) (pe_op op_pow pe_int pe_int) (nomark _))))) (pe_op op_sub (pe_ix ix_list (pv 0) (pv 1) (fun _ _ => rfl)) (pe_op op_pow pe_int pe_int)) pe_int))
      (pss_one (ps_ret (pe_disp (pps_cons pe_str (pv 4) (pps_cons pe_str (pv 2) pps_nil)) (by rfl) (by rfl) (fun z => by cases z) (by decide))))))), ?_⟩
    refine ⟨_, rfl, _, _, rfl, rfl, Or.inl ⟨by omega, by omega⟩, _, _, rfl, rfl, ?_⟩
    refine ⟨_, rfl, a, rfl, ⟨_, hS⟩, for_list (K := K) (a := a) (xs := ns.map V.int) (fun i σ H' => ∃ (m : Int) (v : Option V), σ = [some (.ref a), some (.int (st : Int)), some (.int m), v, none] ∧ H' = H ∧ 0 ≤ m ∧ m < 2 ^ 32)
      ⟨_, none, rfl, rfl, by omega, by omega⟩ (fun i σ H' _ ⟨_, _, _, e, _⟩ => by rw [e]; exact hS) ?_ ?_⟩
    · rintro i y σ H' hi ⟨m, v, rfl, rfl, h0, h1⟩
      obtain ⟨z, hz, rfl⟩ : ∃ z, z ∈ ns ∧ y = V.int z := by
        obtain ⟨z, hz, e⟩ := List.mem_map.mp (List.mem_of_getElem? hi)
        exact ⟨z, hz, e.symm⟩
      obtain ⟨c1, c2, c3⟩ := urn_turn h0 h1 (hbits z hz)
      refine ⟨_, rfl, _, _, rfl, rfl, c1, _, rfl, _, rfl, _, _, rfl, rfl, c2, _, _, rfl, rfl, _, _, rfl, rfl, _, _, rfl, rfl, c3, _, _, rfl, rfl, (by show (0 : Int) < 2147483489; decide), _, _, rfl, rfl, ?_⟩
      obtain ⟨b0, b1⟩ := mod_bd ((m * 70001 + z * z + 37) ^ (2 : Int).toNat) (k := 2147483489) (by decide)
      refine ⟨_, some (.int z), rfl, rfl, ?_, ?_⟩ <;> omega
    · rintro σ H' ⟨m, v, rfl, rfl, h0, h1⟩
      have fin : ∀ dg : Int, 0 ≤ dg → ∀ (p : Addr), H' p = none → Q (.ref p) (upd (upd H' p (.dK [])) p (urnO dg m)) := fun dg hd p hp => by
        refine k p _ hp (fun b o e => ?_) ⟨dg, m, upd_same, hd, h0, h1⟩
        rw [upd_ne (ne_of_none e hp), upd_ne (ne_of_none e hp)]
        exact e
      -- digits
      refine ⟨_, rfl, _, rfl, a, _, rfl, .inl hS, _, _, rfl, rfl, _, rfl, ?_⟩
      refine ite2 (fun c => ?_) (fun c => ?_)
      · have c := of_decide_eq_true c
        rw [List.length_map] at c
        obtain ⟨n, hn⟩ : ∃ n, ns[st]? = some n := ⟨ns[st]'(by omega), by simp⟩
        have ha : atI (ns.map V.int) (st : Int) = some (.int n) := atI_nat (by rw [List.getElem?_map, hn]; rfl)
        refine ⟨_, rfl, _, rfl, a, _, _, _, rfl, rfl, hS, ha, _, _, rfl, rfl, ⟨by decide, by decide, by decide⟩, _, _, rfl, rfl, _, rfl, ?_⟩
        refine ite2 (fun c2 => ?_) (fun c2 => ?_)
        · have c2 := of_decide_eq_true c2
          refine ⟨_, rfl, _, rfl, a, _, _, _, rfl, rfl, hS, ha, _, _, rfl, rfl, ⟨by decide, by decide, by decide⟩, _, _, rfl, rfl, ?_⟩
          intro p hp
          refine ⟨_, rfl, _, rfl, upd_same, [(Sum.inr "digits", _), (Sum.inr "mixed", _)], rfl, (by show 2 ≤ 15; decide), ?_⟩
          exact fin _ (by omega) p hp
        · intro p hp
          refine ⟨_, rfl, _, rfl, upd_same, [(Sum.inr "digits", _), (Sum.inr "mixed", _)], rfl, (by show 2 ≤ 15; decide), ?_⟩
          exact fin 0 (by omega) p hp
      · refine iteF ?_
        intro p hp
        refine ⟨_, rfl, _, rfl, upd_same, [(Sum.inr "digits", _), (Sum.inr "mixed", _)], rfl, (by show 2 ≤ 15; decide), ?_⟩
        exact fin 0 (by omega) p hp
abbrev s_draw : Stmt := top 6
abbrev N_draw : List Str := ["urn", "size", "found"]
abbrev P_draw : List Str := ["urn", "size"]
theorem sc_draw : FnScope N_draw P_draw (defScope s_draw) := ⟨rfl, rfl, rfl, by decide +kernel, rfl, by decide +kernel, by decide +kernel⟩
theorem bi_draw {f : Addr} {fd : FuncData} {x : Str} {K : PySem.W.Frag} (F : Fun K x x s_draw f fd) : Binds K fd P_draw [] :=
  F.binds fun _ _ _ _ _ _ us hl => match us, hl with | [_, _], _ => rfl
theorem dm : ¬ (("digits" : Str) = "mixed") := by decide +kernel
theorem md : ¬ (("mixed" : Str) = "digits") := by decide +kernel
theorem put_d (dg mx z : Int) : putK ([(Sum.inr "digits", V.int dg), (Sum.inr "mixed", V.int mx)] : List (Key × V)) (Sum.inr "digits") (.int z) = ([(Sum.inr "digits", V.int z), (Sum.inr "mixed", V.int mx)] : List (Key × V)) := by
  first | rfl | decide +kernel | simp [putK]
theorem put_m (dg mx z : Int) : putK ([(Sum.inr "digits", V.int dg), (Sum.inr "mixed", V.int mx)] : List (Key × V)) (Sum.inr "mixed") (.int z) = ([(Sum.inr "digits", V.int dg), (Sum.inr "mixed", V.int z)] : List (Key × V)) := by
  first | rfl | decide +kernel | simp [putK, dm]
theorem val_d (dg mx : Int) : valV ([(Sum.inr "digits", V.int dg), (Sum.inr "mixed", V.int mx)] : List (Key × V)) (Sum.inr "digits") = some (.int dg) := by
  first | rfl | decide +kernel | simp [valV]
theorem val_m (dg mx : Int) : valV ([(Sum.inr "digits", V.int dg), (Sum.inr "mixed", V.int mx)] : List (Key × V)) (Sum.inr "mixed") = some (.int mx) := by
  first | rfl | decide +kernel | simp [valV, dm]
theorem get_d {H : Hp} {u : Addr} {dg mx : Int} (e : H u = some (urnO dg mx)) : DGet H u (.str "digits") (some (.int dg)) := by
  have h := DGet.k (k := (Sum.inr "digits" : Key)) e
  rw [val_d] at h
  exact h
theorem get_m {H : Hp} {u : Addr} {dg mx : Int} (e : H u = some (urnO dg mx)) : DGet H u (.str "mixed") (some (.int mx)) := by
  have h := DGet.k (k := (Sum.inr "mixed" : Key)) e
  rw [val_m] at h
  exact h
theorem dput_d {H : Hp} {u : Addr} {dg mx : Int} (z : Int) (e : H u = some (urnO dg mx)) : DPut H u (.str "digits") (.int z) (upd H u (urnO z mx)) := by
  have h := DPut.k (k := (Sum.inr "digits" : Key)) (v := .int z) e (by show 2 < sizeLine; decide)
  rw [put_d] at h
  exact h
theorem dput_m {H : Hp} {u : Addr} {dg mx : Int} (z : Int) (e : H u = some (urnO dg mx)) : DPut H u (.str "mixed") (.int z) (upd H u (urnO dg z)) := by
  have h := DPut.k (k := (Sum.inr "mixed" : Key)) (v := .int z) e (by show 2 < sizeLine; decide)
  rw [put_m] at h
  exact h
theorem ok_draw {f : Addr} {fd : FuncData} (D : Df K mg "_law_draw" s_draw f fd) : FnOk P w K mg base CX0 1 f fd P_draw spDraw := by
  refine D.F.ok sc_draw (fun vs H Q E h => ?_) (fun cdv A outer s H vs Q E hr h => ?_)
  · obtain ⟨u, n, rfl, _⟩ := h
    rfl
  · obtain ⟨u, n, rfl, ⟨dg, mx, e, d0, m0, m1⟩, n1, n2, k⟩ := h
    have hu := hu_of hr
    refine ⟨_, (pss_cons (ps_if (pt_cmpR op_ge (pe_dget hu (pv 0) pe_str (fun _ _ => rfl)) (pv 1) (nomark _)) (pss_cons (ps_set (i := 2) sc_draw.nd rfl (Or.inl rfl) (pe_op op_mod (pe_dget hu (pv 0) pe_str (fun _ _ => rfl)) (pv 1)))
        (pss_cons (ps_dput hu (pv 0) pe_str (pe_op op_fdiv (pe_dget hu (pv 0) pe_str (fun _ _ => rfl)) (pv 1)) rfl)
        (pss_one (ps_ret (pv 2))))) pss_nil)
      (pss_cons (ps_dput hu (pv 0) pe_str (pe_op op_mod (pe_op op_add (pe_op op_mul (pe_dget hu (pv 0) pe_str (fun _ _ => rfl)) pe_int) pe_int) pe_int) rfl)
      (pss_one (ps_ret (pe_op op_mod (pe_op op_fdiv (pe_op op_mod (pe_op op_pow (pe_op op_mod (pe_op op_pow (pe_dget hu (pv 0) pe_str (fun _ _ => rfl)) pe_int) pe_int) pe_int) pe_int) pe_int) (pv 1)))))), ?_⟩
    refine ⟨_, rfl, u, _, rfl, get_d e, _, rfl, _, _, rfl, rfl, _, rfl, ?_⟩
    refine ite2 (fun c => ?_) (fun c => ?_)
    · refine ⟨_, rfl, u, _, rfl, get_d e, _, rfl, _, _, rfl, rfl, (by show 0 < n; omega), ?_⟩
      refine ⟨_, rfl, u, _, rfl, get_d e, _, rfl, _, _, rfl, rfl, ⟨by omega, by omega⟩, _, rfl, u, _, rfl, dput_d _ e, _, rfl, ?_⟩
      obtain ⟨b0, b1⟩ := mod_bd dg (k := n) (by omega)
      exact k _ _ b0 b1 ⟨_, mx, upd_same, Int.ediv_nonneg d0 (by omega), m0, m1⟩ Mo.at
    · refine ⟨_, rfl, u, _, rfl, get_m e, _, _, rfl, rfl, Or.inl ⟨by omega, by omega⟩, _, _, rfl, rfl, _, _, rfl, rfl, (by show (0 : Int) < 2147483647; decide), _, rfl, u, _, rfl, dput_m _ e, ?_⟩
      obtain ⟨b0, b1⟩ := mod_bd (mx * 45991 + 6043) (k := 2147483647) (by decide)
      obtain ⟨c0, c1⟩ := mod_bd (((mx * 45991 + 6043) % 2147483647) ^ (2 : Int).toNat) (k := 2147483587) (by decide)
      refine ⟨_, rfl, u, _, rfl, get_m (dg := dg) upd_same, _, _, rfl, rfl, ⟨by decide, by decide, by omega⟩, _, _, rfl, rfl, (by show (0 : Int) < 2147483587; decide), _, _, rfl, rfl, ⟨by decide, by decide, by omega⟩,
        _, _, rfl, rfl, (by show (0 : Int) < 1000000021; decide), _, _, rfl, rfl, ⟨by decide, by decide⟩, _, rfl, _, _, rfl, rfl, (by show 0 < n; omega), ?_⟩
      obtain ⟨g0, g1⟩ := mod_bd ((((((mx * 45991 + 6043) % 2147483647) ^ (2 : Int).toNat) % 2147483587) ^ (3 : Int).toNat) % 1000000021 / 17) (k := n) (by omega)
      exact k _ _ g0 g1 ⟨dg, _, upd_same, d0, b0, by omega⟩ Mo.at
abbrev s_choose : Stmt := top 7
abbrev N_choose : List Str := ["urn", "things"]
abbrev P_choose : List Str := ["urn", "things"]
theorem sc_choose : FnScope N_choose P_choose (defScope s_choose) := ⟨rfl, rfl, rfl, by decide +kernel, rfl, by decide +kernel, by decide +kernel⟩
theorem bi_choose {f : Addr} {fd : FuncData} {x : Str} {K : PySem.W.Frag} (F : Fun K x x s_choose f fd) : Binds K fd P_choose [] :=
  F.binds fun _ _ _ _ _ _ us hl => match us, hl with | [_, _], _ => rfl
theorem ok_choose {f f1 : Addr} {fd fd1 : FuncData} (D : Df K mg "_law_choose" s_choose f fd) (D_draw : Df K mg "_law_draw" s_draw f1 fd1) (T : Bi mg) : FnOk P w K mg base CX0 2 f fd P_choose spChoose := by
  have G_draw := ok_draw (P := P) (w := w) (base := base) D_draw
  have b_draw := bi_draw D_draw.F
  refine D.F.ok sc_choose (fun vs H Q E h => ?_) (fun cdv A outer s H vs Q E hr h => ?_)
  · obtain ⟨u, l, xs, rfl, _⟩ := h
    rfl
  · obtain ⟨u, l, xs, rfl, U, hl, n1, n2, k⟩ := h
    refine ⟨_, (pss_one (ps_ret (pe_ix ix_list (pv 1) (pe_call G_draw (hr.mono (by decide)) rfl D_draw.g D_draw.F.kp b_draw .nil pass0 (pa_cons (pv 0) (pa_cons (pe_callB (call_len_seq) (by rfl) T.len PySem.boot_len (pa_cons (pv 1) pa_nil)) pa_nil))) (fun _ _ => rfl)))), ?_⟩
    refine ⟨_, rfl, _, rfl, _, rfl, l, _, rfl, .inl (.of hl), u, _, rfl, U, by omega, by omega, fun r H' r0 r1 U' m => ?_⟩
    obtain ⟨j, rfl⟩ : ∃ j : Nat, r = (j : Int) := ⟨r.toNat, by omega⟩
    have hj : j < xs.length := by omega
    refine ⟨l, xs, _, _, rfl, rfl, .of (U.lst m hl), atI_nat (List.getElem?_eq_getElem hj), ?_⟩
    exact k _ _ (List.getElem_mem hj) U' m
end
end Sk

set_option Elab.async false
set_option maxRecDepth 100000
set_option maxHeartbeats 4000000
namespace Sk
open PySem L2 PyProof.Rows

/-! ### records as the law draws them -/
def MarkV (v : V) : Prop := v = .non ∨ ∃ i : Int, v = .int i ∧ 1 ≤ i ∧ i ≤ 12
def places : List Str := ["a", "b", "c", "shelf", "van"]
def out1 : Str := "-"
theorem out_no : out1 ∉ places := by decide +kernel
def IsRec (n : Int) (zs : List Str) (xs : List V) : Prop :=
  (∃ (t : Int) (z : Str) (c : Int) (k : V), xs = [.int n, .int t, .str z, .int c, k] ∧ 0 ≤ t ∧ t < 20 ∧ z ∈ zs ∧ 0 ≤ c ∧ c < 7 ∧ MarkV k) ∨
  (∃ (t : Int) (o g : Str) (c : Int) (k : V), xs = [.int n, .int t, .str o, .str g, .int c, k] ∧ 0 ≤ t ∧ t < 20 ∧ o ∈ out1 :: zs ∧ g ∈ out1 :: zs ∧ g ≠ o ∧ 0 ≤ c ∧ c < 7 ∧ MarkV k)
def spMark : Sp := fun vs H Q _ => ∃ (u : Addr), vs = [.ref u] ∧ Urn H u ∧ ∀ (v : V) (H' : Hp), MarkV v → Urn H' u → Mo u H H' → Q v H'
def spEntry : Sp := fun vs H Q _ => ∃ (u l : Addr) (n : Int) (zs : List Str), vs = [.ref u, .int n, .ref l] ∧ Urn H u ∧ H l = some (.lst (zs.map V.str)) ∧ 1 ≤ zs.length ∧ zs.length ≤ 10 ∧ (∀ z ∈ zs, z ∈ places) ∧
  ∀ (p : Addr) (xs : List V) (H' : Hp), H p = none → IsRec n zs xs → H' p = some (.tup xs) → Urn H' u → Mo u H H' → Q (.ref p) H'
theorem Mo.free {u p : Addr} {H H' : Hp} (m : Mo u H H') (U : Urn H u) (U' : Urn H' u) (h : H' p = none) : H p = none := by
  cases q : H p with
  | none => rfl
  | some o =>
    by_cases e : p = u
    · subst e
      obtain ⟨dg, mx, e1, _⟩ := U'
      rw [h] at e1
      cases e1
    · rw [m p o e q] at h
      cases h
theorem flat_place {z : Str} (h : z ∈ places) : Flat (.str z) := by
  have : places.all (fun z => flatB (.str z)) = true := by decide +kernel
  exact List.all_eq_true.mp this z h
theorem flat_out : Flat (.str out1) := by decide +kernel
theorem flat_mark {v : V} (h : MarkV v) : Flat v := by
  rcases h with rfl | ⟨i, rfl, h1, h2⟩
  · rfl
  · exact decide_eq_true (by omega)
theorem flat_int {i : Int} (h0 : -1000000000 ≤ i) (h1 : i ≤ 1000000000) : Flat (.int i) := decide_eq_true (by omega)
section
variable {P : Program} {w : World} {K : PySem.W.Frag} {mg : Str → Option Value} {base : Heap}
abbrev s_mark : Stmt := top 8
abbrev N_mark : List Str := ["urn"]
abbrev P_mark : List Str := ["urn"]
theorem sc_mark : FnScope N_mark P_mark (defScope s_mark) := ⟨rfl, rfl, rfl, by decide +kernel, rfl, by decide +kernel, by decide +kernel⟩
theorem bi_mark {f : Addr} {fd : FuncData} {x : Str} {K : PySem.W.Frag} (F : Fun K x x s_mark f fd) : Binds K fd P_mark [] :=
  F.binds fun _ _ _ _ _ _ us hl => match us, hl with | [_], _ => rfl
theorem ok_mark {f f1 f2 : Addr} {fd fd1 fd2 : FuncData} (D : Df K mg "_law_mark" s_mark f fd) (D_draw : Df K mg "_law_draw" s_draw f1 fd1) (D_choose : Df K mg "_law_choose" s_choose f2 fd2) (T : Bi mg) : FnOk P w K mg base CX0 3 f fd P_mark spMark := by
  have G_draw := ok_draw (P := P) (w := w) (base := base) D_draw
  have b_draw := bi_draw D_draw.F
  have G_choose := ok_choose (P := P) (w := w) (base := base) D_choose D_draw T
  have b_choose := bi_choose D_choose.F
  refine D.F.ok sc_mark (fun vs H Q E h => ?_) (fun cdv A outer s H vs Q E hr h => ?_)
  · obtain ⟨u, rfl, _⟩ := h
    rfl
  · obtain ⟨u, rfl, U, k⟩ := h
    refine ⟨_, (pss_one (ps_ret (pe_call G_choose (hr.mono (by decide)) rfl D_choose.g D_choose.F.kp b_choose .nil pass0 (pa_cons (pv 0) (pa_cons (pe_lst (pa_cons pe_int (pa_cons pe_int (pa_cons pe_int (pa_cons pe_int (pa_cons pe_int (pa_cons (pe_op op_add pe_int (pe_call G_draw (hr.mono (by decide)) rfl D_draw.g D_draw.F.kp b_draw .nil pass0 (pa_cons (pv 0) (pa_cons pe_int pa_nil)))) (pa_cons pe_non pa_nil)))))))) pa_nil))))), ?_⟩
    refine ⟨_, rfl, _, rfl, u, _, rfl, U, by decide, by decide, fun r H1 r0 r1 U1 m1 => ?_⟩
    refine ⟨_, _, rfl, rfl, (by show 7 ≤ sizeLine; decide), fun l hl => ⟨u, l, _, rfl, U1.new hl, upd_same, (by show 1 ≤ 7; decide), (by show 7 ≤ 1000; decide), fun x H2 hx U2 m2 => k x H2 ?_ U2 (m1.trans ((Mo.new hl).trans m2))⟩⟩
    simp only [List.mem_cons, List.not_mem_nil, or_false] at hx
    rcases hx with rfl | rfl | rfl | rfl | rfl | rfl | rfl
    all_goals first | exact Or.inl rfl | exact Or.inr ⟨_, rfl, by omega, by omega⟩
abbrev s_entry : Stmt := top 9
abbrev N_entry : List Str := ["urn", "number", "ends", "moment", "size", "origin", "goal", "end"]
abbrev P_entry : List Str := ["urn", "number", "ends"]
theorem sc_entry : FnScope N_entry P_entry (defScope s_entry) := ⟨rfl, rfl, rfl, by decide +kernel, rfl, by decide +kernel, by decide +kernel⟩
theorem bi_entry {f : Addr} {fd : FuncData} {x : Str} {K : PySem.W.Frag} (F : Fun K x x s_entry f fd) : Binds K fd P_entry [] :=
  F.binds fun _ _ _ _ _ _ us hl => match us, hl with | [_, _, _], _ => rfl
theorem mem_str {zs : List Str} {x : V} (h : x ∈ zs.map V.str) : ∃ z, z ∈ zs ∧ x = .str z := by
  obtain ⟨z, hz, e⟩ := List.mem_map.mp h
  exact ⟨z, hz, e.symm⟩
theorem ok_entry {f f1 f2 f3 : Addr} {fd fd1 fd2 fd3 : FuncData} (D : Df K mg "_law_entry" s_entry f fd) (D_draw : Df K mg "_law_draw" s_draw f1 fd1) (D_choose : Df K mg "_law_choose" s_choose f2 fd2) (D_mark : Df K mg "_law_mark" s_mark f3 fd3) (T : Bi mg) : FnOk P w K mg base CX0 4 f fd P_entry spEntry := by
  have G_draw := ok_draw (P := P) (w := w) (base := base) D_draw
  have b_draw := bi_draw D_draw.F
  have G_choose := ok_choose (P := P) (w := w) (base := base) D_choose D_draw T
  have b_choose := bi_choose D_choose.F
  have G_mark := ok_mark (P := P) (w := w) (base := base) D_mark D_draw D_choose T
  have b_mark := bi_mark D_mark.F
  refine D.F.ok sc_entry (fun vs H Q E h => ?_) (fun cdv A outer s H vs Q E hr h => ?_)
  · obtain ⟨u, l, n, zs, rfl, _⟩ := h
    rfl
  · obtain ⟨u, l, n, zs, rfl, U, hl, z1, z2, zp, k⟩ := h
    refine ⟨_, (pss_cons (ps_par (i := 3) (j := 4) rfl sc_entry.nd rfl rfl (by decide) rfl rfl (pa_cons (pe_call G_choose (hr.mono (by decide)) rfl D_choose.g D_choose.F.kp b_choose .nil pass0 (pa_cons (pv 0) (pa_cons (pe_lst (pa_cons (pe_call G_draw (hr.mono (by decide)) rfl D_draw.g D_draw.F.kp b_draw .nil pass0 (pa_cons (pv 0) (pa_cons pe_int pa_nil))) (pa_cons (pe_call G_draw (hr.mono (by decide)) rfl D_draw.g D_draw.F.kp b_draw .nil pass0 (pa_cons (pv 0) (pa_cons pe_int pa_nil))) pa_nil))) pa_nil))) (pa_cons (pe_call G_draw (hr.mono (by decide)) rfl D_draw.g D_draw.F.kp b_draw .nil pass0 (pa_cons (pv 0) (pa_cons pe_int pa_nil))) pa_nil)) (by rfl))
      (pss_cons (ps_if (pt_cmpR op_lt (pe_call G_draw (hr.mono (by decide)) rfl D_draw.g D_draw.F.kp b_draw .nil pass0 (pa_cons (pv 0) (pa_cons pe_int pa_nil))) pe_int (nomark _)) (pss_one (ps_ret (pe_tup (pa_cons (pv 1) (pa_cons (pv 3) (pa_cons (pe_call G_choose (hr.mono (by decide)) rfl D_choose.g D_choose.F.kp b_choose .nil pass0 (pa_cons (pv 0) (pa_cons (pv 2) pa_nil))) (pa_cons (pv 4) (pa_cons (pe_call G_mark (hr.mono (by decide)) rfl D_mark.g D_mark.F.kp b_mark .nil pass0 (pa_cons (pv 0) pa_nil)) pa_nil)))))))) pss_nil)
      (pss_cons (ps_set (i := 5) sc_entry.nd rfl (Or.inr rfl) (pe_call G_choose (hr.mono (by decide)) rfl D_choose.g D_choose.F.kp b_choose .nil pass0 (pa_cons (pv 0) (pa_cons (pe_op op_cat (pe_lst (pa_cons pe_str (pa_cons pe_str pa_nil))) (pv 2)) pa_nil))))
      (pss_cons (ps_set (i := 6) sc_entry.nd rfl (Or.inl rfl) (pe_call G_choose (hr.mono (by decide)) rfl D_choose.g D_choose.F.kp b_choose .nil pass0 (pa_cons (pv 0) (pa_cons (pe_lc (own := [("end", 7)]) (g := gName 7) rfl sc_entry.nd (pi_list (pe_op op_cat (pe_lst (pa_cons pe_str pa_nil)) (pv 2))) (blkOk_by (N := N_entry) (sc := defScope s_entry) (by decide +kernel)) (fun _ _ _ _ _ => pg_name (i := 7) sc_entry.nd rfl (Or.inl rfl)) (fun _ _ _ _ _ => (pts_one (pt_cmpR op_ne (pv 7) (pv 5) (nomark _)))) (fun _ _ _ _ _ => (pv 7))) pa_nil))))
      (pss_one (ps_ret (pe_tup (pa_cons (pv 1) (pa_cons (pv 3) (pa_cons (pv 5) (pa_cons (pv 6) (pa_cons (pv 4) (pa_cons (pe_call G_mark (hr.mono (by decide)) rfl D_mark.g D_mark.F.kp b_mark .nil pass0 (pa_cons (pv 0) pa_nil)) pa_nil))))))))))))), ?_⟩
    -- moment, size
    refine ⟨_, rfl, _, rfl, u, _, rfl, U, by decide, by decide, fun ra H1 a0 a1 U1 m1 => ?_⟩
    refine ⟨_, rfl, u, _, rfl, U1, by decide, by decide, fun rb H2 b0 b1 U2 m2 => ?_⟩
    refine ⟨(by show 2 ≤ sizeLine; decide), fun l1 hl1 => ⟨u, l1, _, rfl, U2.new hl1, upd_same, (by show 1 ≤ 2; decide), (by show 2 ≤ 1000; decide), fun t H3 ht U3 m3 => ?_⟩⟩
    obtain ⟨t, rfl, t0, t1⟩ : ∃ i : Int, t = .int i ∧ 0 ≤ i ∧ i < 20 := by
      simp only [List.mem_cons, List.not_mem_nil, or_false] at ht
      rcases ht with rfl | rfl
      · exact ⟨_, rfl, a0, by omega⟩
      · exact ⟨_, rfl, b0, by omega⟩
    refine ⟨_, rfl, u, _, rfl, U3, by decide, by decide, fun c H4 c0 c1 U4 m4 => ?_⟩
    have M4 : Mo u H H4 := ((m1.trans m2).add hl1).trans (m3.trans m4)
    have L4 : H4 l = some (.lst (zs.map V.str)) := U.lst M4 hl
    refine ⟨_, _, rfl, ?_⟩
    -- if _law_draw(urn, 5) < 2
    refine ⟨_, rfl, u, _, rfl, U4, by decide, by decide, fun rc H5 _ _ U5 m5 => ?_⟩
    have L5 : H5 l = some (.lst (zs.map V.str)) := U4.lst m5 L4
    have M5 := M4.trans m5
    refine ⟨_, _, rfl, rfl, _, rfl, ?_⟩
    refine ite2 (fun _ => ?_) (fun _ => ?_)
    · refine ⟨_, rfl, _, rfl, _, rfl, _, rfl, u, l, _, rfl, U5, L5, by rw [List.length_map]; exact z1, by rw [List.length_map]; omega, fun x H6 hx U6 m6 => ?_⟩
      obtain ⟨z, hz, rfl⟩ := mem_str hx
      refine ⟨_, rfl, _, rfl, u, rfl, U6, fun mk H7 hm U7 m7 => ⟨(by show 5 ≤ sizeLine; decide), fun p hp => ?_⟩⟩
      have M7 := (M5.trans m6).trans m7
      exact k p _ _ (M7.free U U7 hp) (Or.inl ⟨t, z, c, mk, rfl, t0, t1, hz, c0, c1, hm⟩) upd_same (U7.new hp) (M7.add hp)
    · -- origin
      refine ⟨_, rfl, (by show 2 ≤ sizeLine; decide), fun l2 hl2 => ?_⟩
      have U5' := U5.new (o := .lst [.str out1, .str out1]) hl2
      have n2 : l ≠ l2 := fun q => by
        subst q
        rw [L5] at hl2
        cases hl2
      refine ⟨_, rfl, l2, l, _, _, rfl, rfl, upd_same, (by rw [upd_ne n2]; exact L5), (by rw [List.length_map]; show 2 + zs.length ≤ sizeLine; exact Nat.le_trans (Nat.add_le_add_left z2 2) (by decide)), fun p2 hp2 => ?_⟩
      refine ⟨u, p2, _, rfl, U5'.new hp2, upd_same, (by show 1 ≤ (_ ++ _ : List V).length; rw [List.length_append, List.length_map]; omega), (by show (_ ++ _ : List V).length ≤ 1000; rw [List.length_append, List.length_map]; show 2 + zs.length ≤ 1000; omega), fun x H6 hx U6 m6 => ?_⟩
      obtain ⟨o, ho, rfl⟩ : ∃ o, o ∈ out1 :: zs ∧ x = .str o := by
        rcases List.mem_append.mp hx with hx | hx
        · refine ⟨out1, List.mem_cons_self, ?_⟩
          simp only [List.mem_cons, List.not_mem_nil, or_false, or_self] at hx
          exact hx
        · obtain ⟨z, hz, rfl⟩ := mem_str hx
          exact ⟨z, List.mem_cons_of_mem _ hz, rfl⟩
      have M6 : Mo u H H6 := ((M5.add hl2).add hp2).trans m6
      have L6 : H6 l = some (.lst (zs.map V.str)) := U.lst M6 hl
      -- goal
      refine ⟨_, rfl, (by show 1 ≤ sizeLine; decide), fun l3 hl3 => ?_⟩
      have n3 : l ≠ l3 := fun q => by
        subst q
        rw [L6] at hl3
        cases hl3
      have U6' := U6.new (o := .lst [.str out1]) hl3
      refine ⟨_, rfl, l3, l, _, _, rfl, rfl, upd_same, (by rw [upd_ne n3]; exact L6), (by rw [List.length_map]; show 1 + zs.length ≤ sizeLine; exact Nat.le_trans (Nat.add_le_add_left z2 1) (by decide)), fun p3 hp3 => ?_⟩
      have M7 := (M6.add hl3).add (o := .lst ((out1 :: zs).map V.str)) hp3
      have U7 := U6'.new (o := .lst ((out1 :: zs).map V.str)) hp3
      refine ⟨p3, rfl, ⟨_, .of upd_same⟩, fun q hq => ?_⟩
      have n4 : p3 ≠ q := fun e => by
        subst e
        rw [upd_same] at hq
        cases hq
      refine lc_list (K := K) (a := p3) (xs := (out1 :: zs).map V.str)
        (fun i H' => ∃ hs : List Str, H' q = some (.lst (hs.map V.str)) ∧ hs = ((out1 :: zs).take i).filter (fun z => decide (z ≠ o)) ∧ Urn H' u ∧ Mo u H H' ∧ H' p3 = some (.lst ((out1 :: zs).map V.str)))
        ⟨[], upd_same, rfl, U7.new hq, M7.add hq, by rw [upd_ne n4]; exact upd_same⟩ (fun i H' _ ⟨_, _, _, _, _, e⟩ => .of e) ?_ ?_
      · rintro i x H' hi ⟨hs, e1, e2, U8, M8, e3⟩
        rw [List.getElem?_map] at hi
        obtain ⟨z, hz, rfl⟩ := Option.map_eq_some_iff.mp hi
        have hlen : i < (out1 :: zs).length := (List.getElem?_eq_some_iff.mp hz).1
        have tk : (out1 :: zs).take (i + 1) = (out1 :: zs).take i ++ [z] := by rw [List.take_add_one, hz]; rfl
        have hsl : hs.length ≤ 11 := by
          rw [e2]
          refine Nat.le_trans (List.length_filter_le _ _) ?_
          rw [List.length_take]
          have : (out1 :: zs).length = zs.length + 1 := rfl
          omega
        refine ⟨rfl, _, rfl, _, rfl, rfl, _, rfl, ?_⟩
        have nq : q ≠ u := U8.neL e1
        by_cases c : z = o
        · have d : (!decide (V.str z = V.str o)) = false := by rw [c]; simp
          rw [d]
          refine iteF ⟨hs, e1, ?_, U8, M8, e3⟩
          rw [tk, List.filter_append, ← e2, List.filter_cons_of_neg (by simpa using c), List.filter_nil, List.append_nil]
        · have d : (!decide (V.str z = V.str o)) = true := by simpa using c
          rw [d]
          refine iteT ⟨_, rfl, _, e1, (by rw [List.length_map]; exact Nat.lt_of_le_of_lt hsl (by decide)), hs ++ [z], ?_, ?_, ?_, ?_, ?_⟩
          · rw [upd_same, List.map_append]
            rfl
          · rw [tk, List.filter_append, ← e2, List.filter_cons_of_pos (by simpa using c), List.filter_nil]
          · obtain ⟨dg, mx, e5, r⟩ := U8
            exact ⟨dg, mx, by rw [upd_ne nq.symm]; exact e5, r⟩
          · intro b ob nb eb
            have : b ≠ q := fun e => by
              subst e
              have hq' : H b = none := M7.free U U7 hq
              rw [eb] at hq'
              cases hq'
            rw [upd_ne this]
            exact M8 b ob nb eb
          · rw [upd_ne n4]
            exact e3
      · rintro H' ⟨hs, e1, e2, U8, M8, e3⟩
        rw [List.length_map, List.take_length] at e2
        have hmem : ∀ g, g ∈ hs ↔ g ∈ out1 :: zs ∧ g ≠ o := fun g => by
          rw [e2, List.mem_filter]
          simp
        have h1 : 1 ≤ hs.length := by
          obtain ⟨z0, hz0⟩ : ∃ z0, z0 ∈ zs := by
            cases zs with
            | nil => simp at z1
            | cons a r => exact ⟨a, List.mem_cons_self⟩
          have : ∃ g, g ∈ hs := by
            by_cases c : o = out1
            · exact ⟨z0, (hmem z0).mpr ⟨List.mem_cons_of_mem _ hz0, fun e => out_no (by rw [← c, ← e]; exact zp z0 hz0)⟩⟩
            · exact ⟨out1, (hmem out1).mpr ⟨List.mem_cons_self, fun e => c e.symm⟩⟩
          obtain ⟨g, hg⟩ := this
          exact List.length_pos_of_mem hg
        have h2 : hs.length ≤ 11 := by
          rw [e2]
          refine Nat.le_trans (List.length_filter_le _ _) ?_
          show zs.length + 1 ≤ 11
          omega
        refine ⟨u, q, _, rfl, U8, e1, by rw [List.length_map]; exact h1, by rw [List.length_map]; omega, fun x H9 hx U9 m9 => ?_⟩
        obtain ⟨g, hg, rfl⟩ := mem_str hx
        obtain ⟨g1, g2⟩ := (hmem g).mp hg
        refine ⟨_, rfl, _, rfl, _, rfl, _, rfl, _, rfl, _, rfl, u, rfl, U9, fun mk H10 hm U10 m10 => ⟨(by show 6 ≤ sizeLine; decide), fun p hp => ?_⟩⟩
        have M10 := (M8.trans m9).trans m10
        exact k p _ _ (M10.free U U10 hp) (Or.inr ⟨t, o, g, c, mk, rfl, t0, t1, ho, g1, g2, c0, c1, hm⟩) upd_same (U10.new hp) (M10.add hp)
end
end Sk

set_option Elab.async false
set_option maxRecDepth 100000
set_option maxHeartbeats 4000000
namespace Sk
open PySem L2 PyProof.Rows

def spAt (K : PySem.W.Frag) (i : Int) : Sp := fun vs H Q _ => ∃ (p : Addr) (xs : List V) (v : V), vs = [.ref p] ∧ SqT K H p xs ∧ atI xs i = some v ∧ Q v H
/-- a slice from the start that leaves something out -/
def Cuts (xs : List V) (hi : Int) : Prop := ¬ (HT.sIx xs.length 0 none = 0 ∧ HT.sIx xs.length xs.length (some hi) = xs.length)
def spWith (K : PySem.W.Frag) : Sp := fun vs H Q _ => ∃ (p : Addr) (xs : List V) (v : V), vs = [.ref p, v] ∧ SqT K H p xs ∧ Cuts xs (-1) ∧ xs.length ≤ 100 ∧
  ∀ (q : Addr) (H' : Hp), H q = none → Same H H' → H' q = some (.tup (cutV xs none (some (-1)) ++ [v])) → Q (.ref q) H'
def spLaw (K : PySem.W.Frag) : Sp := fun vs H Q _ => ∃ (a : Addr) (ns : List Int), vs = [.ref a] ∧ SqL K H a (ns.map V.int) ∧ ns.length ≤ 63 ∧ (∀ z ∈ ns, Builtin.Int.intBits z ≤ 1048576) ∧ ∀ H', Q (.bl true) H'
theorem at_m2 (ys : List V) (a b : V) : atI (ys ++ [a, b]) (-2) = some a := by
  have hl : (ys ++ [a, b]).length = ys.length + 2 := by simp
  have e : ixN (ys ++ [a, b]).length (-2) = some ys.length := by
    unfold ixN
    rw [hl, if_neg (by decide), if_pos (by omega)]
    congr 1
    omega
  unfold atI
  rw [e]
  show (ys ++ [a, b])[ys.length]? = some a
  simp
theorem at_m1 (ys : List V) (a b : V) : atI (ys ++ [a, b]) (-1) = some b := by
  have e : ys ++ [a, b] = (ys ++ [a]) ++ [b] := by simp
  rw [e]
  exact atI_last _ _
theorem cuts_of (xs : List V) {k : Nat} (hk : 0 < k) (hl : k < xs.length) : Cuts xs (-(k : Int)) := fun h => by
  have h2 : (if (-(k : Int)) < 0 then (-(k : Int) + (xs.length : Int)).toNat else min (-(k : Int)).toNat xs.length) = xs.length := h.2
  rw [if_pos (by omega)] at h2
  omega
theorem cut_m1 (ys : List V) (a b : V) : cutV (ys ++ [a, b]) none (some (-1)) = ys ++ [a] := by
  unfold cutV
  have e1 : HT.sIx (ys ++ [a, b]).length 0 none = 0 := rfl
  have e2 : HT.sIx (ys ++ [a, b]).length (ys ++ [a, b]).length (some (-1)) = ys.length + 1 := by
    show (if (-1 : Int) < 0 then (-1 + ((ys ++ [a, b]).length : Int)).toNat else min (-1 : Int).toNat (ys ++ [a, b]).length) = ys.length + 1
    rw [if_pos (by decide), List.length_append]
    show (-1 + ((ys.length + 2 : Nat) : Int)).toNat = _
    omega
  rw [e1, e2, List.drop_zero]
  have e3 : ys ++ [a, b] = (ys ++ [a]) ++ [b] := by simp
  rw [e3, List.take_append_of_le_length (by simp)]
  exact List.take_of_length_le (by simp)
/-- what the law needs of a drawn record: its head -/
theorem rec_cut {n : Int} {zs : List Str} {xs : List V} (h : IsRec n zs xs) (hz : ∀ z ∈ zs, z ∈ places) (n0 : 0 ≤ n) (n1 : n ≤ 1000) :
    Cuts xs (-2) ∧ cutV xs none (some (-2)) ≠ [] ∧ (cutV xs none (some (-2))).length ≤ 4 ∧ ∀ y ∈ cutV xs none (some (-2)), Flat y := by
  rcases h with ⟨t, z, c, k, rfl, t0, t1, hzz, _, _, _⟩ | ⟨t, o, g, c, k, rfl, t0, t1, ho, hg, _, _, _, _⟩
  · have e : cutV [V.int n, .int t, .str z, .int c, k] none (some (-2)) = [V.int n, .int t, .str z] := rfl
    rw [e]
    refine ⟨cuts_of _ (k := 2) (by decide) (by show 2 < 5; decide), by simp, by show 3 ≤ 4; decide, fun y hy => ?_⟩
    simp only [List.mem_cons, List.not_mem_nil, or_false] at hy
    rcases hy with rfl | rfl | rfl
    · exact flat_int (by omega) (by omega)
    · exact flat_int (by omega) (by omega)
    · exact flat_place (hz _ hzz)
  · have e : cutV [V.int n, .int t, .str o, .str g, .int c, k] none (some (-2)) = [V.int n, .int t, .str o, .str g] := rfl
    have fe : ∀ {x : Str}, x ∈ out1 :: zs → Flat (.str x) := fun {x} hx => by
      rcases List.mem_cons.mp hx with rfl | hx
      · exact flat_out
      · exact flat_place (hz _ hx)
    rw [e]
    refine ⟨cuts_of _ (k := 2) (by decide) (by show 2 < 6; decide), by simp, by show 4 ≤ 4; decide, fun y hy => ?_⟩
    simp only [List.mem_cons, List.not_mem_nil, or_false] at hy
    rcases hy with rfl | rfl | rfl | rfl
    · exact flat_int (by omega) (by omega)
    · exact flat_int (by omega) (by omega)
    · exact fe ho
    · exact fe hg
theorem ab_ok : ∀ z ∈ (["a", "b"] : List Str), z ∈ places := by decide +kernel
section
variable {P : Program} {w : World} {K : PySem.W.Frag} {mg : Str → Option Value} {base : Heap}
abbrev s_written : Stmt := top 1
abbrev N_written : List Str := ["record"]
abbrev P_written : List Str := ["record"]
theorem sc_written : FnScope N_written P_written (defScope s_written) := ⟨rfl, rfl, rfl, by decide +kernel, rfl, by decide +kernel, by decide +kernel⟩
theorem bi_written {f : Addr} {fd : FuncData} {x : Str} {K : PySem.W.Frag} (F : Fun K x x s_written f fd) : Binds K fd P_written [] :=
  F.binds fun _ _ _ _ _ _ us hl => match us, hl with | [_], _ => rfl
theorem ok_written {f : Addr} {fd : FuncData} (D : Df K mg "written" s_written f fd) : FnOk P w K mg base CX0 1 f fd P_written (spAt K (-2)) := by
  refine D.F.ok sc_written (fun vs H Q E h => ?_) (fun cdv A outer s H vs Q E hr h => ?_)
  · obtain ⟨p, xs, v, rfl, _⟩ := h
    rfl
  · obtain ⟨p, xs, v, rfl, hS, ha, k⟩ := h
    exact ⟨_, (pss_one (ps_ret (pe_ix ix_tup (pv 0) (pe_un un_neg pe_int) (fun _ _ => rfl)))), ⟨_, rfl, _, rfl, p, xs, _, v, rfl, rfl, hS, ha, k⟩⟩
abbrev s_weight : Stmt := top 2
abbrev N_weight : List Str := ["record"]
abbrev P_weight : List Str := ["record"]
theorem sc_weight : FnScope N_weight P_weight (defScope s_weight) := ⟨rfl, rfl, rfl, by decide +kernel, rfl, by decide +kernel, by decide +kernel⟩
theorem bi_weight {f : Addr} {fd : FuncData} {x : Str} {K : PySem.W.Frag} (F : Fun K x x s_weight f fd) : Binds K fd P_weight [] :=
  F.binds fun _ _ _ _ _ _ us hl => match us, hl with | [_], _ => rfl
theorem ok_weight {f : Addr} {fd : FuncData} (D : Df K mg "weight_of" s_weight f fd) : FnOk P w K mg base CX0 1 f fd P_weight (spAt K (-1)) := by
  refine D.F.ok sc_weight (fun vs H Q E h => ?_) (fun cdv A outer s H vs Q E hr h => ?_)
  · obtain ⟨p, xs, v, rfl, _⟩ := h
    rfl
  · obtain ⟨p, xs, v, rfl, hS, ha, k⟩ := h
    exact ⟨_, (pss_one (ps_ret (pe_ix ix_tup (pv 0) (pe_un un_neg pe_int) (fun _ _ => rfl)))), ⟨_, rfl, _, rfl, p, xs, _, v, rfl, rfl, hS, ha, k⟩⟩
abbrev s_with : Stmt := top 3
abbrev N_with : List Str := ["record", "weight"]
abbrev P_with : List Str := ["record", "weight"]
theorem sc_with : FnScope N_with P_with (defScope s_with) := ⟨rfl, rfl, rfl, by decide +kernel, rfl, by decide +kernel, by decide +kernel⟩
theorem bi_with {f : Addr} {fd : FuncData} {x : Str} {K : PySem.W.Frag} (F : Fun K x x s_with f fd) : Binds K fd P_with [] :=
  F.binds fun _ _ _ _ _ _ us hl => match us, hl with | [_, _], _ => rfl
theorem ok_with {f : Addr} {fd : FuncData} (D : Df K mg "with_weight" s_with f fd) : FnOk P w K mg base CX0 1 f fd P_with (spWith K) := by
  refine D.F.ok sc_with (fun vs H Q E h => ?_) (fun cdv A outer s H vs Q E hr h => ?_)
  · obtain ⟨p, xs, v, rfl, _⟩ := h
    rfl
  · obtain ⟨p, xs, v, rfl, hS, hc, hl, k⟩ := h
    refine ⟨_, (pss_one (ps_ret (pe_tup (StX.pa_star (pe_slice sl_tup (pv 0) po_none (po_some (pe_un un_neg pe_int))) (pa_cons (pv 1) pa_nil))))), ?_⟩
    refine ⟨_, rfl, _, rfl, _, rfl, p, xs, rfl, hS, hc, fun q hq => ?_⟩
    refine ⟨q, _, rfl, .inl (.of upd_same), _, rfl, ?_, fun r hr => ?_⟩
    · have := cutV_length xs none (some (-1))
      rw [List.length_append, List.length_singleton]
      exact Nat.le_trans (Nat.add_le_add_right (Nat.le_trans this hl) 1) (by decide)
    · have h0 : H r = none := by
        have ne : r ≠ q := fun e => by
          subst e
          rw [upd_same] at hr
          cases hr
        rw [upd_ne ne] at hr
        exact hr
      refine k r _ h0 (fun b o e => ?_) upd_same
      rw [upd_ne (ne_of_none e h0), upd_ne (ne_of_none e hq)]
      exact e
abbrev s_law : Stmt := top 11
abbrev N_law : List Str := ["script", "start", "urn", "turn", "size", "one", "entry", "heavy"]
abbrev P_law : List Str := ["script"]
theorem sc_law : FnScope N_law P_law (defScope s_law) := ⟨rfl, rfl, rfl, by decide +kernel, rfl, by decide +kernel, by decide +kernel⟩
theorem bi_law {f : Addr} {fd : FuncData} {x : Str} {K : PySem.W.Frag} (F : Fun K x x s_law f fd) : Binds K fd P_law [] :=
  F.binds fun _ _ _ _ _ _ us hl => match us, hl with | [_], _ => rfl
theorem ok_law {f f1 f2 f3 f4 f5 f6 f7 f8 : Addr} {fd fd1 fd2 fd3 fd4 fd5 fd6 fd7 fd8 : FuncData} (D : Df K mg "law" s_law f fd) (D_urn : Df K mg "_law_urn" s_urn f1 fd1) (D_draw : Df K mg "_law_draw" s_draw f2 fd2) (D_choose : Df K mg "_law_choose" s_choose f3 fd3)
    (D_mark : Df K mg "_law_mark" s_mark f4 fd4) (D_entry : Df K mg "_law_entry" s_entry f5 fd5) (D_written : Df K mg "written" s_written f6 fd6) (D_weight : Df K mg "weight_of" s_weight f7 fd7) (D_with : Df K mg "with_weight" s_with f8 fd8) (T : Bi mg) : AtTop P w K mg base f fd P_law (spLaw K) := by
  have G_urn := ok_urn (P := P) (w := w) (base := base) D_urn T
  have b_urn := bi_urn D_urn.F
  have G_draw := ok_draw (P := P) (w := w) (base := base) D_draw
  have b_draw := bi_draw D_draw.F
  have G_choose := ok_choose (P := P) (w := w) (base := base) D_choose D_draw T
  have b_choose := bi_choose D_choose.F
  have G_entry := ok_entry (P := P) (w := w) (base := base) D_entry D_draw D_choose D_mark T
  have b_entry := bi_entry D_entry.F
  have G_written := ok_written (P := P) (w := w) (base := base) D_written
  have b_written := bi_written D_written.F
  have G_weight := ok_weight (P := P) (w := w) (base := base) D_weight
  have b_weight := bi_weight D_weight.F
  have G_with := ok_with (P := P) (w := w) (base := base) D_with
  have b_with := bi_with D_with.F
  refine atTop (k := 6) D.F sc_law ⟨rfl, by decide, by decide⟩ (fun vs H Q E h => ?_) (fun cdv A outer s H vs Q hr hgA h => ?_)
  · obtain ⟨a, ns, rfl, _⟩ := h
    rfl
  · obtain ⟨a, ns, rfl, hS, hlen, hbits, k⟩ := h
    have hu64 := hr.units
    have hg : (cxOf CX0 P w K mg base N_law "law" (defScope s_law) f cdv A outer s H E0).nox.A.guards = some [] := by
      show (A.deeper _).guards = some []
      first | exact hgA | (unfold Around.deeper; simpa using hgA) | simpa [Around.deeper] using hgA
    refine ⟨_, (pss_cons (ps_for PassesOwn.never rfl (pi_range1 rfl T.range (pa_cons (pe_callB (call_max2 rfl) (by rfl) T.max (by decide +kernel) (pa_cons pe_int (pa_cons (pe_callB (call_min2 rfl) (by rfl) T.min (by decide +kernel) (pa_cons pe_int (pa_cons (pe_callB (call_len_seq) (by rfl) T.len PySem.boot_len (pa_cons (pv 0) pa_nil)) pa_nil))) pa_nil))) pa_nil)) (pg_name (i := 1) sc_law.nd rfl (Or.inl rfl))
      (pss_cons (ps_set (i := 2) sc_law.nd rfl (Or.inl rfl) (pe_call G_urn (hr.mono (by decide)) rfl D_urn.g D_urn.F.kp b_urn .nil pass0 (pa_cons (pv 0) (pa_cons (pv 1) pa_nil))))
        (pss_one (ps_for PassesOwn.never rfl (pi_range1 rfl T.range (pa_cons pe_int pa_nil)) (pg_name (i := 3) sc_law.nd rfl (Or.inl rfl))
        (pss_cons (ps_set (i := 4) sc_law.nd rfl (Or.inl rfl) (pe_call G_choose (hr.mono (by decide)) rfl D_choose.g D_choose.F.kp b_choose .nil pass0 (pa_cons (pv 2) (pa_cons (pe_lst (pa_cons pe_int (pa_cons pe_int (pa_cons (pe_op op_pow pe_int pe_int) (pa_cons (pe_call G_draw (hr.mono (by decide)) rfl D_draw.g D_draw.F.kp b_draw .nil pass0 (pa_cons (pv 2) (pa_cons pe_int pa_nil))) pa_nil))))) pa_nil))))
          (pss_cons (ps_set (i := 5) sc_law.nd rfl (Or.inl rfl) (pe_call G_entry (hr.mono (by decide)) rfl D_entry.g D_entry.F.kp b_entry .nil pass0 (pa_cons (pv 2) (pa_cons (pe_op op_add pe_int (pe_call G_draw (hr.mono (by decide)) rfl D_draw.g D_draw.F.kp b_draw .nil pass0 (pa_cons (pv 2) (pa_cons pe_int pa_nil)))) (pa_cons (pe_lst (pa_cons pe_str (pa_cons pe_str pa_nil))) pa_nil)))))
          (pss_cons (ps_set (i := 6) sc_law.nd rfl (Or.inl rfl) (pe_op op_catT (pe_slice sl_tup (pv 5) po_none (po_some (pe_un un_neg pe_int))) (pe_tup (pa_cons (pv 4) (pa_cons (pe_call G_choose (hr.mono (by decide)) rfl D_choose.g D_choose.F.kp b_choose .nil pass0 (pa_cons (pv 2) (pa_cons (pe_lst (pa_cons pe_int (pa_cons pe_int (pa_cons pe_non (pa_cons (pe_op op_add pe_int (pe_call G_draw (hr.mono (by decide)) rfl D_draw.g D_draw.F.kp b_draw .nil pass0 (pa_cons (pv 2) (pa_cons pe_int pa_nil)))) pa_nil))))) pa_nil))) pa_nil)))))
          (pss_cons (ps_if (pt_cmpR op_ne (pe_callB (call_repr hg hu64) (by rfl) T.repr (by decide +kernel) (pa_cons (pe_lst (pa_cons (pe_call G_written (hr.mono (by decide)) rfl D_written.g D_written.F.kp b_written .nil pass0 (pa_cons (pv 6) pa_nil)) (pa_cons (pe_call G_weight (hr.mono (by decide)) rfl D_weight.g D_weight.F.kp b_weight .nil pass0 (pa_cons (pv 6) pa_nil)) pa_nil))) pa_nil)) (pe_callB (call_repr hg hu64) (by rfl) T.repr (by decide +kernel) (pa_cons (pe_lst (pa_cons (pe_ix ix_tup (pv 6) (pe_un un_neg pe_int) (fun _ _ => rfl)) (pa_cons (pe_ix ix_tup (pv 6) (pe_un un_neg pe_int) (fun _ _ => rfl)) pa_nil))) pa_nil)) (nomark _)) (pss_one (ps_ret pe_bl)) pss_nil)
          (pss_cons (ps_set (i := 7) sc_law.nd rfl (Or.inl rfl) (pe_call G_choose (hr.mono (by decide)) rfl D_choose.g D_choose.F.kp b_choose .nil pass0 (pa_cons (pv 2) (pa_cons (pe_lst (pa_cons pe_int (pa_cons pe_int (pa_cons pe_non (pa_cons (pe_op op_add pe_int (pe_call G_draw (hr.mono (by decide)) rfl D_draw.g D_draw.F.kp b_draw .nil pass0 (pa_cons (pv 2) (pa_cons pe_int pa_nil)))) pa_nil))))) pa_nil))))
          (pss_one (ps_if (pt_cmpR op_ne (pe_callB (call_repr hg hu64) (by rfl) T.repr (by decide +kernel) (pa_cons (pe_call G_with (hr.mono (by decide)) rfl D_with.g D_with.F.kp b_with .nil pass0 (pa_cons (pv 6) (pa_cons (pv 7) pa_nil))) pa_nil)) (pe_callB (call_repr hg hu64) (by rfl) T.repr (by decide +kernel) (pa_cons (pe_op op_catT (pe_slice sl_tup (pv 6) po_none (po_some (pe_un un_neg pe_int))) (pe_tup (pa_cons (pv 7) pa_nil))) pa_nil)) (nomark _)) (pss_one (ps_ret pe_bl)) pss_nil)))))))))))
      (pss_one (ps_ret pe_bl))), ?_⟩
    refine ⟨_, rfl, a, _, rfl, .inl hS, _, _, rfl, _, _, rfl, _, rfl, ?_, ?_, ?_⟩
    · rw [List.length_map]; split <;> split <;> omega
    · rw [List.length_map]; split <;> split <;> omega
    refine for_range (lo := 0) (fun i σ H' => ∃ v1 v2 v3 v4 v5 v6 v7 : Option V, σ = [some (.ref a), v1, v2, v3, v4, v5, v6, v7] ∧ SqL K H' a (ns.map V.int))
      ⟨none, none, none, none, none, none, none, rfl, hS⟩ ?_ (fun σ H' _ => k H')
    rintro i σ H1 hi ⟨v1, v2, v3, v4, v5, v6, v7, rfl, S1⟩
    have hi6 : i ≤ 100 := by
      rw [List.length_map] at hi
      revert hi
      split <;> split <;> omega
    -- urn = _law_urn(script, start)
    refine ⟨_, rfl, _, rfl, a, i, ns, by rw [Int.zero_add]; rfl, S1, hi6, hbits, fun u H2 hu0 s2 U2 => ?_⟩
    refine ⟨_, rfl, (by show (-(2 ^ 62) : Int) ≤ 9; decide), (by show (9 : Int) < 2 ^ 62; decide), ?_⟩
    refine for_range (lo := 0) (fun j σ H' => ∃ v3 v4 v5 v6 v7 : Option V, σ = [some (.ref a), some (.int (0 + i)), some (.ref u), v3, v4, v5, v6, v7] ∧ SqL K H' a (ns.map V.int) ∧ Urn H' u)
      ⟨_, _, _, _, _, rfl, s2.seq S1, U2⟩ ?_ (fun σ H' hq => ?_)
    · rintro j σ H3 hj ⟨v3, v4, v5, v6, v7, rfl, S3, U3⟩
      -- size
      refine ⟨_, rfl, _, _, rfl, rfl, ⟨by decide, by decide, by decide⟩, _, rfl, u, _, rfl, U3, by decide, by decide, fun r H4 r0 r1 U4 m4 => ?_⟩
      refine ⟨(by show 4 ≤ sizeLine; decide), fun l hl => ⟨u, l, _, rfl, U4.new hl, upd_same, (by show 1 ≤ 4; decide), (by show 4 ≤ 1000; decide), fun x H5 hx U5 m5 => ?_⟩⟩
      obtain ⟨sz, rfl, z0, z1⟩ : ∃ i : Int, x = .int i ∧ 0 ≤ i ∧ i ≤ 1000000 := by
        simp only [List.mem_cons, List.not_mem_nil, or_false] at hx
        rcases hx with rfl | rfl | rfl | rfl
        all_goals exact ⟨_, rfl, by first | omega | decide, by first | omega | decide⟩
      have M5 := (m4.add hl).trans m5
      -- one
      refine ⟨_, rfl, _, rfl, u, _, rfl, U5, by decide, by decide, fun r2 H6 r20 r21 U6 m6 => ?_⟩
      refine ⟨_, _, rfl, rfl, (by show 2 ≤ sizeLine; decide), fun l2 hl2 => ?_⟩
      refine ⟨u, l2, _, ["a", "b"], rfl, U6.new hl2, upd_same, by decide, by decide, ab_ok, fun p xs H7 hp R e7 U7 m7 => ?_⟩
      obtain ⟨c1, c2, c3, c4⟩ := rec_cut R ab_ok (by omega) (by omega)
      -- entry
      refine ⟨_, rfl, _, rfl, _, rfl, p, xs, rfl, .of e7, c1, fun p2 hp2 => ?_⟩
      generalize hys : cutV xs none (some (-2)) = ys at *
      have U7' := U7.new (o := .tup ys) hp2
      refine ⟨_, rfl, _, rfl, _, rfl, u, _, rfl, U7', by decide, by decide, fun r3 H8 r30 r31 U8 m8 => ?_⟩
      refine ⟨_, _, rfl, rfl, (by show 4 ≤ sizeLine; decide), fun l3 hl3 => ⟨u, l3, _, rfl, U8.new hl3, upd_same, (by show 1 ≤ 4; decide), (by show 4 ≤ 1000; decide), fun wt H9 hwt U9 m9 => ?_⟩⟩
      have fw : Flat wt := by
        simp only [List.mem_cons, List.not_mem_nil, or_false] at hwt
        rcases hwt with rfl | rfl | rfl | rfl
        · rfl
        · rfl
        · rfl
        · exact flat_int (by omega) (by omega)
      have e9 : H9 p2 = some (.tup ys) := U7'.tup ((m8.add hl3).trans m9) upd_same
      refine ⟨(by show 2 ≤ sizeLine; decide), fun p3 hp3 => ?_⟩
      have n23 : p2 ≠ p3 := fun q => by
        subst q
        rw [e9] at hp3
        cases hp3
      refine ⟨p2, p3, ys, _, rfl, rfl, .of (by rw [upd_ne n23]; exact e9), .of upd_same, c2, (Nat.le_trans (Nat.add_le_add_right c3 2) (by decide)), (fun z => by cases z), fun _ p4 hp4 => ?_⟩
      have U10 := (U9.new (o := .tup [.int sz, wt]) hp3).new (o := .tup (ys ++ [.int sz, wt])) hp4
      have M9 := ((M5.trans m6).add hl2).trans m7
      have M10 := ((((M9.add hp2).trans ((m8.add hl3).trans m9)).add (o := .tup [.int sz, wt]) hp3).add (o := .tup (ys ++ [.int sz, wt])) hp4)
      have e10 : ∀ {p5 : Addr} {o : HO}, (upd (upd H9 p3 (.tup [.int sz, wt])) p4 (.tup (ys ++ [.int sz, wt]))) p5 = none → (upd (upd (upd H9 p3 (.tup [.int sz, wt])) p4 (.tup (ys ++ [.int sz, wt]))) p5 o) p4 = some (.tup (ys ++ [.int sz, wt])) := fun {p5 o} h5 => by
        rw [upd_ne (fun q => by subst q; rw [upd_same] at h5; cases h5), upd_same]
      have fE : ∀ y ∈ ys ++ [.int sz, wt], Flat y := fun y hy => by
        rcases List.mem_append.mp hy with hy | hy
        · exact c4 y hy
        · simp only [List.mem_cons, List.not_mem_nil, or_false] at hy
          rcases hy with rfl | rfl
          · exact flat_int (by omega) (by omega)
          · exact fw
      have fAB : ∀ y ∈ [V.int sz, wt], Flat y := fun y hy => fE y (List.mem_append_right _ hy)
      -- repr([written(entry), weight_of(entry)]) != repr([entry[-2], entry[-1]])
      refine ⟨_, rfl, p4, _, _, rfl, .of upd_same, at_m2 _ _ _, _, rfl, p4, _, _, rfl, .of upd_same, at_m1 _ _ _, (by show 2 ≤ sizeLine; decide), fun q1 hq1 => ?_⟩
      refine ⟨_, _, rfl, .lst (.of upd_same) (dpAll_flat fAB), shows_lst fAB (by show 2 ≤ 1000; decide), ?_⟩
      refine ⟨_, rfl, _, rfl, p4, _, _, _, rfl, rfl, .of (e10 hq1), at_m2 _ _ _, _, rfl, _, rfl, p4, _, _, _, rfl, rfl, .of (e10 hq1), at_m1 _ _ _, (by show 2 ≤ sizeLine; decide), fun q2 hq2 => ?_⟩
      refine ⟨_, _, rfl, .lst (.of upd_same) (dpAll_flat fAB), shows_lst fAB (by show 2 ≤ 1000; decide), ?_⟩
      refine ⟨rfl, _, rfl, iteNS rfl ?_⟩
      -- heavy
      have U12 := (U10.new (o := .lst [.int sz, wt]) hq1).new (o := .lst [.int sz, wt]) hq2
      generalize hHa : upd (upd (upd (upd H9 p3 (.tup [.int sz, wt])) p4 (.tup (ys ++ [.int sz, wt]))) q1 (.lst [.int sz, wt])) q2 (.lst [.int sz, wt]) = Ha at *
      have ea : Ha p4 = some (.tup (ys ++ [.int sz, wt])) := by
        rw [← hHa, upd_ne (fun z => by subst z; rw [upd_ne (fun z2 => by subst z2; rw [upd_same] at hq1; cases hq1), upd_same] at hq2; cases hq2), upd_ne (fun z => by subst z; rw [upd_same] at hq1; cases hq1), upd_same]
      have Sa : SqL K Ha a (ns.map V.int) := by
        rw [← hHa]
        exact (((M10.add (o := .lst [.int sz, wt]) hq1).add (o := .lst [.int sz, wt]) hq2).sqL U3 S3)
      refine ⟨_, rfl, _, rfl, u, _, rfl, U12, by decide, by decide, fun r4 Hb r40 r41 Ub mb => ?_⟩
      refine ⟨_, _, rfl, rfl, (by show 4 ≤ sizeLine; decide), fun l4 hl4 => ⟨u, l4, _, rfl, Ub.new hl4, upd_same, (by show 1 ≤ 4; decide), (by show 4 ≤ 1000; decide), fun hv Hc hhv Uc mc => ?_⟩⟩
      have fh : Flat hv := by
        simp only [List.mem_cons, List.not_mem_nil, or_false] at hhv
        rcases hhv with rfl | rfl | rfl | rfl
        · rfl
        · rfl
        · rfl
        · exact flat_int (by omega) (by omega)
      have Mc := (mb.add (o := .lst [.int 1, .int 1000, .non, .int (1 + r4)]) hl4).trans mc
      have ec : Hc p4 = some (.tup (ys ++ [.int sz, wt])) := U12.tup Mc ea
      have cE : Cuts (ys ++ [.int sz, wt]) (-1) := cuts_of _ (k := 1) (by decide) (by rw [List.length_append]; show 1 < ys.length + 2; omega)
      have lE : (ys ++ [V.int sz, wt]).length ≤ 100 := by rw [List.length_append]; show ys.length + 2 ≤ 100; omega
      have fN : ∀ y ∈ cutV (ys ++ [.int sz, wt]) none (some (-1)) ++ [hv], Flat y := fun y hy => by
        rw [cut_m1] at hy
        rcases List.mem_append.mp hy with hy | hy
        · rcases List.mem_append.mp hy with hy | hy
          · exact c4 y hy
          · rw [List.mem_singleton.mp hy]
            exact flat_int (by omega) (by omega)
        · rw [List.mem_singleton.mp hy]
          exact fh
      have lN : (cutV (ys ++ [V.int sz, wt]) none (some (-1)) ++ [hv]).length ≤ 1000 := by
        rw [cut_m1]
        simp
        omega
      refine ⟨_, rfl, _, rfl, p4, _, _, rfl, .of ec, cE, lE, fun q3 Hd hq3 sd ed => ?_⟩
      refine ⟨_, _, rfl, .tup (.of ed) (dpAll_flat fN), shows_tup fN lN, ?_⟩
      have ed4 := sd _ _ ec
      refine ⟨_, rfl, _, rfl, _, rfl, p4, _, rfl, .of ed4, cE, fun q4 hq4 => ?_⟩
      refine ⟨_, rfl, (by show 1 ≤ sizeLine; decide), fun q5 hq5 => ?_⟩
      have n45 : q4 ≠ q5 := fun z => by
        subst z
        rw [upd_same] at hq5
        cases hq5
      refine ⟨q4, q5, _, _, rfl, rfl, .of (by rw [upd_ne n45]; exact upd_same), .of upd_same, ?_, ?_, (fun z => by cases z), fun _ q6 hq6 => ?_⟩
      · rw [cut_m1]
        simp
      · rw [cut_m1, List.length_append]
        exact Nat.le_trans (show ys.length + 1 + 1 ≤ 100 by omega) (by decide)
      refine ⟨_, _, rfl, .tup (.of upd_same) (dpAll_flat fN), shows_tup fN lN, ?_⟩
      refine ⟨rfl, _, rfl, iteNS rfl ?_⟩
      have Ud : Urn Hd u := by
        obtain ⟨dg, mx, e, r⟩ := Uc
        exact ⟨dg, mx, sd _ _ e, r⟩
      have Sd : SqL K Hd a (ns.map V.int) := sd.seq (Mc.sqL U12 Sa)
      have Uz := ((Ud.new (o := .tup (cutV (ys ++ [.int sz, wt]) none (some (-1)))) hq4).new (o := .tup [hv]) hq5).new (o := .tup (cutV (ys ++ [.int sz, wt]) none (some (-1)) ++ [hv])) hq6
      exact ⟨_, _, _, _, _, rfl, ((((Mo.new (u := u) hq4).add hq5).add hq6).sqL Ud Sd), Uz⟩
    · obtain ⟨v3, v4, v5, v6, v7, rfl, S3, U3⟩ := hq
      exact ⟨_, _, _, _, _, _, _, rfl, S3⟩
end
end Sk

set_option Elab.async false
set_option maxRecDepth 100000
set_option maxHeartbeats 4000000
namespace Sk
open PySem L2 PyProof.Rows
/-! ### what the top has written; the row -/
theorem all_mk {P : Program} {w : World} {K : PySem.W.Frag} {h : Heap} {mg : Str → Option Value} {fa f0 f1 f2 f3 f4 f5 f6 f7 f8 : Addr} (X : K.In h) (G : h.Ns mainGlobals mg) (hfa : mg "law" = some (.ref fa))
    {od0 an0 : Option Addr} {sl0 : Array (Option Value)} {oc0 kV0 dc0 pm0 cd0 ct0 : Value}
    {od1 an1 : Option Addr} {sl1 : Array (Option Value)} {oc1 kV1 dc1 pm1 cd1 ct1 : Value}
    {od2 an2 : Option Addr} {sl2 : Array (Option Value)} {oc2 kV2 dc2 pm2 cd2 ct2 : Value}
    {od3 an3 : Option Addr} {sl3 : Array (Option Value)} {oc3 kV3 dc3 pm3 cd3 ct3 : Value}
    {od4 an4 : Option Addr} {sl4 : Array (Option Value)} {oc4 kV4 dc4 pm4 cd4 ct4 : Value}
    {od5 an5 : Option Addr} {sl5 : Array (Option Value)} {oc5 kV5 dc5 pm5 cd5 ct5 : Value}
    {od6 an6 : Option Addr} {sl6 : Array (Option Value)} {oc6 kV6 dc6 pm6 cd6 ct6 : Value}
    {od7 an7 : Option Addr} {sl7 : Array (Option Value)} {oc7 kV7 dc7 pm7 cd7 ct7 : Value}
    {od8 an8 : Option Addr} {sl8 : Array (Option Value)} {oc8 kV8 dc8 pm8 cd8 ct8 : Value}
    (a0 : PySem.W.nsIn K mainGlobals "_law_urn" = some (some (.ref f0)))
    (l0 : K.lookup f0 = some ⟨oc0, od0, .func (PySem.W.fnOf "_law_urn" "_law_urn" (defArgs s_urn) (defBody s_urn) (defScope s_urn) .none kV0 dc0 pm0 an0 cd0 ct0), sl0⟩)
    (c0 : PySem.W.codeIn K cd0 "_law_urn" = true)
    (k0 : PySem.W.keepIn K (.ref f0) = true)
    (a1 : PySem.W.nsIn K mainGlobals "_law_draw" = some (some (.ref f1)))
    (l1 : K.lookup f1 = some ⟨oc1, od1, .func (PySem.W.fnOf "_law_draw" "_law_draw" (defArgs s_draw) (defBody s_draw) (defScope s_draw) .none kV1 dc1 pm1 an1 cd1 ct1), sl1⟩)
    (c1 : PySem.W.codeIn K cd1 "_law_draw" = true)
    (k1 : PySem.W.keepIn K (.ref f1) = true)
    (a2 : PySem.W.nsIn K mainGlobals "_law_choose" = some (some (.ref f2)))
    (l2 : K.lookup f2 = some ⟨oc2, od2, .func (PySem.W.fnOf "_law_choose" "_law_choose" (defArgs s_choose) (defBody s_choose) (defScope s_choose) .none kV2 dc2 pm2 an2 cd2 ct2), sl2⟩)
    (c2 : PySem.W.codeIn K cd2 "_law_choose" = true)
    (k2 : PySem.W.keepIn K (.ref f2) = true)
    (a3 : PySem.W.nsIn K mainGlobals "_law_mark" = some (some (.ref f3)))
    (l3 : K.lookup f3 = some ⟨oc3, od3, .func (PySem.W.fnOf "_law_mark" "_law_mark" (defArgs s_mark) (defBody s_mark) (defScope s_mark) .none kV3 dc3 pm3 an3 cd3 ct3), sl3⟩)
    (c3 : PySem.W.codeIn K cd3 "_law_mark" = true)
    (k3 : PySem.W.keepIn K (.ref f3) = true)
    (a4 : PySem.W.nsIn K mainGlobals "_law_entry" = some (some (.ref f4)))
    (l4 : K.lookup f4 = some ⟨oc4, od4, .func (PySem.W.fnOf "_law_entry" "_law_entry" (defArgs s_entry) (defBody s_entry) (defScope s_entry) .none kV4 dc4 pm4 an4 cd4 ct4), sl4⟩)
    (c4 : PySem.W.codeIn K cd4 "_law_entry" = true)
    (k4 : PySem.W.keepIn K (.ref f4) = true)
    (a5 : PySem.W.nsIn K mainGlobals "written" = some (some (.ref f5)))
    (l5 : K.lookup f5 = some ⟨oc5, od5, .func (PySem.W.fnOf "written" "written" (defArgs s_written) (defBody s_written) (defScope s_written) .none kV5 dc5 pm5 an5 cd5 ct5), sl5⟩)
    (c5 : PySem.W.codeIn K cd5 "written" = true)
    (k5 : PySem.W.keepIn K (.ref f5) = true)
    (a6 : PySem.W.nsIn K mainGlobals "weight_of" = some (some (.ref f6)))
    (l6 : K.lookup f6 = some ⟨oc6, od6, .func (PySem.W.fnOf "weight_of" "weight_of" (defArgs s_weight) (defBody s_weight) (defScope s_weight) .none kV6 dc6 pm6 an6 cd6 ct6), sl6⟩)
    (c6 : PySem.W.codeIn K cd6 "weight_of" = true)
    (k6 : PySem.W.keepIn K (.ref f6) = true)
    (a7 : PySem.W.nsIn K mainGlobals "with_weight" = some (some (.ref f7)))
    (l7 : K.lookup f7 = some ⟨oc7, od7, .func (PySem.W.fnOf "with_weight" "with_weight" (defArgs s_with) (defBody s_with) (defScope s_with) .none kV7 dc7 pm7 an7 cd7 ct7), sl7⟩)
    (c7 : PySem.W.codeIn K cd7 "with_weight" = true)
    (k7 : PySem.W.keepIn K (.ref f7) = true)
    (a8 : PySem.W.nsIn K mainGlobals "law" = some (some (.ref f8)))
    (l8 : K.lookup f8 = some ⟨oc8, od8, .func (PySem.W.fnOf "law" "law" (defArgs s_law) (defBody s_law) (defScope s_law) .none kV8 dc8 pm8 an8 cd8 ct8), sl8⟩)
    (c8 : PySem.W.codeIn K cd8 "law" = true)
    (k8 : PySem.W.keepIn K (.ref f8) = true)
    (z_len : PySem.W.nsIn K mainGlobals "len" = some none)
    (z_range : PySem.W.nsIn K mainGlobals "range" = some none)
    (z_max : PySem.W.nsIn K mainGlobals "max" = some none)
    (z_min : PySem.W.nsIn K mainGlobals "min" = some none)
    (z_repr : PySem.W.nsIn K mainGlobals "repr" = some none)
    : ∃ fd : FuncData, (∀ (s : Shared) (v : Value), BindsTo s fd ⟨[v], []⟩ [("script", v)]) ∧ ∀ base : Heap, K.In base → base.Ns mainGlobals mg → AtTop P w K mg base fa fd P_law (spLaw K) := by
  have e := hfa.symm.trans (PySem.W.mg_of X G a8)
  cases e
  have T : Bi mg := ⟨PySem.W.mg_none_of X G z_len, PySem.W.mg_none_of X G z_range, PySem.W.mg_none_of X G z_max, PySem.W.mg_none_of X G z_min, PySem.W.mg_none_of X G z_repr⟩
  have D0 : Df K mg "_law_urn" s_urn _ _ := ⟨fun_mk (st := s_urn) l0 c0 k0, PySem.W.mg_of X G a0⟩
  have D1 : Df K mg "_law_draw" s_draw _ _ := ⟨fun_mk (st := s_draw) l1 c1 k1, PySem.W.mg_of X G a1⟩
  have D2 : Df K mg "_law_choose" s_choose _ _ := ⟨fun_mk (st := s_choose) l2 c2 k2, PySem.W.mg_of X G a2⟩
  have D3 : Df K mg "_law_mark" s_mark _ _ := ⟨fun_mk (st := s_mark) l3 c3 k3, PySem.W.mg_of X G a3⟩
  have D4 : Df K mg "_law_entry" s_entry _ _ := ⟨fun_mk (st := s_entry) l4 c4 k4, PySem.W.mg_of X G a4⟩
  have D5 : Df K mg "written" s_written _ _ := ⟨fun_mk (st := s_written) l5 c5 k5, PySem.W.mg_of X G a5⟩
  have D6 : Df K mg "weight_of" s_weight _ _ := ⟨fun_mk (st := s_weight) l6 c6 k6, PySem.W.mg_of X G a6⟩
  have D7 : Df K mg "with_weight" s_with _ _ := ⟨fun_mk (st := s_with) l7 c7 k7, PySem.W.mg_of X G a7⟩
  have D8 : Df K mg "law" s_law _ _ := ⟨fun_mk (st := s_law) l8 c8 k8, PySem.W.mg_of X G a8⟩
  exact ⟨PySem.W.fnOf "law" "law" (defArgs s_law) (defBody s_law) (defScope s_law) .none kV8 dc8 pm8 an8 cd8 ct8, fun s v => .of_eq rfl, fun base _ _ =>
    ok_law D8 D0 D1 D2 D3 D4 D5 D6 D7 T⟩
end Sk

open PySem PySem.W PyProof.Rows in
set_option maxRecDepth 100000 in
set_option maxHeartbeats 0 in
theorem PySem.Challenge.cw_stockcounts_k03_parts_of_records_holds : PySem.Challenge.rw_stockcounts_k03_parts_of_records.Holds := by
  w_on; o_law; k_head; (case hw => w_witness2)
  k_fill
  refine Sk.top_walk (l := PySem.Challenge.rw_stockcounts_k03_parts_of_records) (n := 63) (x := "script") (sp := Sk.spLaw) rfl (by decide) rfl (fun w h Y => PySem.W.kIn_of Y) ?F (fun K H a ns h1 h2 _ h4 => ⟨a, ns, rfl, h4, h1, h2, fun _ => rfl⟩)
  case F =>
    intro w mg fa h KX G hmg
    refine' Sk.all_mk KX G hmg ?a0 ?l0 ?c0 ?k0 ?a1 ?l1 ?c1 ?k1 ?a2 ?l2 ?c2 ?k2 ?a3 ?l3 ?c3 ?k3 ?a4 ?l4 ?c4 ?k4 ?a5 ?l5 ?c5 ?k5 ?a6 ?l6 ?c6 ?k6 ?a7 ?l7 ?c7 ?k7 ?a8 ?l8 ?c8 ?k8 ?z_len ?z_range ?z_max ?z_min ?z_repr
    (case a0 => k_is)
    (case l0 => k_is)
    (case c0 => k_is)
    (case k0 => k_is)
    (case a1 => k_is)
    (case l1 => k_is)
    (case c1 => k_is)
    (case k1 => k_is)
    (case a2 => k_is)
    (case l2 => k_is)
    (case c2 => k_is)
    (case k2 => k_is)
    (case a3 => k_is)
    (case l3 => k_is)
    (case c3 => k_is)
    (case k3 => k_is)
    (case a4 => k_is)
    (case l4 => k_is)
    (case c4 => k_is)
    (case k4 => k_is)
    (case a5 => k_is)
    (case l5 => k_is)
    (case c5 => k_is)
    (case k5 => k_is)
    (case a6 => k_is)
    (case l6 => k_is)
    (case c6 => k_is)
    (case k6 => k_is)
    (case a7 => k_is)
    (case l7 => k_is)
    (case c7 => k_is)
    (case k7 => k_is)
    (case a8 => k_is)
    (case l8 => k_is)
    (case c8 => k_is)
    (case k8 => k_is)
    (case z_len => k_is)
    (case z_range => k_is)
    (case z_max => k_is)
    (case z_min => k_is)
    (case z_repr => k_is)
