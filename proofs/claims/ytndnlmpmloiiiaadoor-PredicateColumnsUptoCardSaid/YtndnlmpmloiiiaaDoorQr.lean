/- What Bind and Equal answer: the mathematics. -/
import Derived.Test.YtndnlmpmloiiiaaDoorPo
import Derived.Test.YtndnlmpmloiiiaaDoorPd
import Derived.Test.YtndnlmpmloiiiaaDoorPe
set_option linter.unusedSimpArgs false
set_option linter.unusedVariables false
namespace Go.Proofs.YtndnlmpmloiiiaaDoor
open Go.RowKit

mutual
/-- No list of arguments is longer than memory allows. -/
def fitP : Pr → Prop
  | .mk _ _ _ _ args => args.length ≤ 1034834473200 ∧ fitL args
def fitL : List Pr → Prop
  | [] => True
  | p :: ps => fitP p ∧ fitL ps
end
theorem fitL_iff : ∀ {ps : List Pr}, fitL ps ↔ ∀ q ∈ ps, fitP q
  | [] => by simp [fitL]
  | p :: ps => by rw [fitL, fitL_iff]; simp
theorem fitP_iff {p : Pr} : fitP p ↔ p.args.length ≤ 1034834473200 ∧ ∀ q ∈ p.args, fitP q := by
  cases p; rw [fitP, fitL_iff]; rfl
mutual
theorem fit_count : ∀ p : Pr, countP p ≤ 1000000 → fitP p
  | .mk _ _ _ _ args, h => by
    rw [countP] at h
    rw [fitP]
    exact ⟨by have := length_countL args; omega, fitL_count args (by omega)⟩
theorem fitL_count : ∀ ps : List Pr, countL ps ≤ 1000000 → fitL ps
  | [], _ => by rw [fitL]; trivial
  | p :: ps, h => by
    rw [countL] at h
    rw [fitL]
    exact ⟨fit_count p (by omega), fitL_count ps (by omega)⟩
end
/-- Whether an operand denotes a parameter that there is. -/
abbrev isPar (par : List V) (o : Od) : Prop := o.k = 2 ∧ 0 ≤ o.i ∧ o.i < par.length
/-- An operand in which a parameter is a value. -/
noncomputable def bindO (par : List V) (o : Od) : Od := if isPar par o then ⟨3, 0, par.getD o.i.toNat nilV⟩ else o
mutual
noncomputable def bindP (par : List V) : Pr → Pr
  | .mk op cmp l r args => .mk op cmp (bindO par l) (bindO par r) (bindL par args)
noncomputable def bindL (par : List V) : List Pr → List Pr
  | [] => []
  | p :: ps => bindP par p :: bindL par ps
end
theorem bindL_map (par : List V) : ∀ ps : List Pr, bindL par ps = ps.map (bindP par)
  | [] => rfl
  | p :: ps => by rw [bindL, bindL_map par ps]; rfl
theorem bindP_args (par : List V) (p : Pr) : (bindP par p).args = p.args.map (bindP par) := by
  cases p; rw [bindP, bindL_map]; rfl
theorem bindP_op (par : List V) (p : Pr) : (bindP par p).op = p.op := by cases p; rw [bindP]; rfl
theorem bindP_cmp (par : List V) (p : Pr) : (bindP par p).cmp = p.cmp := by cases p; rw [bindP]; rfl
theorem bindP_l (par : List V) (p : Pr) : (bindP par p).l = bindO par p.l := by cases p; rw [bindP]; rfl
theorem bindP_r (par : List V) (p : Pr) : (bindP par p).r = bindO par p.r := by cases p; rw [bindP]; rfl
theorem bindO_nil (o : Od) : bindO [] o = o := by
  unfold bindO
  rw [if_neg]
  rintro ⟨-, h1, h2⟩
  simp at h2
  omega
mutual
theorem bindP_nil : ∀ p : Pr, bindP [] p = p
  | .mk op cmp l r args => by rw [bindP, bindO_nil, bindO_nil, bindL_nil args]
theorem bindL_nil : ∀ ps : List Pr, bindL [] ps = ps
  | [] => rfl
  | p :: ps => by rw [bindL, bindP_nil p, bindL_nil ps]
end
mutual
theorem bindP_count (par : List V) : ∀ p : Pr, countP (bindP par p) = countP p
  | .mk op cmp l r args => by rw [bindP, countP, countP, bindL_count par args]
theorem bindL_count (par : List V) : ∀ ps : List Pr, countL (bindL par ps) = countL ps
  | [] => rfl
  | p :: ps => by rw [bindL, countL, countL, bindP_count par p, bindL_count par ps]
end
mutual
theorem bindP_depth (par : List V) : ∀ p : Pr, depthP (bindP par p) = depthP p
  | .mk op cmp l r args => by rw [bindP, depthP, depthP, bindL_depth par args]
theorem bindL_depth (par : List V) : ∀ ps : List Pr, depthL (bindL par ps) = depthL ps
  | [] => rfl
  | p :: ps => by rw [bindL, depthL, depthL, bindP_depth par p, bindL_depth par ps]
end
/-- Values of some kinds, each of them real. -/
def ValsOf (ks : List Int) (vs : List V) : Prop := vs.length = ks.length ∧ ∀ i (h : i < vs.length) (h' : i < ks.length), realB vs[i] = true ∧ vs[i].k = ks[i]
theorem bindO_kind {cols ks : List Int} {vs : List V} (hv : ValsOf ks vs) {o : Od} (h : kindO cols ks o ≠ 0) : kindO cols [] (bindO vs o) = kindO cols ks o ∧ ∀ row others, denV row others (bindO vs o) = denV row vs o := by
  by_cases h2 : o.k = 2
  · have hk : kindO cols ks o = kAt ks o := by unfold kindO; rw [if_neg (by omega), if_pos h2]
    rw [hk] at h
    have hin : 0 ≤ o.i ∧ o.i < ks.length ∧ o.v = nilV := by
      unfold kAt at h
      by_cases hc : 0 ≤ o.i ∧ o.i < ks.length ∧ o.v = nilV
      · exact hc
      · rw [if_neg hc] at h; exact absurd rfl h
    have hp : isPar vs o := ⟨h2, hin.1, by rw [hv.1]; exact hin.2.1⟩
    have hb : bindO vs o = ⟨3, 0, vs.getD o.i.toNat nilV⟩ := by unfold bindO; rw [if_pos hp]
    have hlt : o.i.toNat < vs.length := by have := hp.2.2; omega
    have hlt' : o.i.toNat < ks.length := by rw [← hv.1]; exact hlt
    obtain ⟨r1, r2⟩ := hv.2 o.i.toNat hlt hlt'
    have hg : vs.getD o.i.toNat nilV = vs[o.i.toNat] := by simp [List.getD, hlt]
    have hgk : ks.getD o.i.toNat 0 = ks[o.i.toNat] := by simp [List.getD, hlt']
    refine ⟨?_, fun row others => ?_⟩
    · rw [hk, hb]
      unfold kindO kAt
      rw [if_neg (by simp), if_neg (by simp), if_pos rfl, if_pos hin, hg, hgk]
      simp [r1, r2]
    · rw [hb]
      unfold denV
      rw [if_neg (by simp), if_neg (by simp), if_pos rfl, if_neg (by omega), if_pos h2]
      unfold atV
      rw [if_pos hin.1]
  · have hb : bindO vs o = o := by unfold bindO; rw [if_neg (fun h => h2 h.1)]
    rw [hb]
    refine ⟨?_, fun row others => ?_⟩
    · unfold kindO; rw [if_neg h2, if_neg h2]
    · unfold denV; rw [if_neg h2, if_neg h2]
theorem bindO_plain {vs : List V} {o : Od} (h : o.k = 0 ∧ o.i = 0 ∧ o.v = nilV) : bindO vs o = o := by
  unfold bindO
  rw [if_neg]
  rintro ⟨h1, -, -⟩
  omega
theorem plain_of {cmp : Int} {l r : Od} (h : plainB cmp l r = true) : (l.k = 0 ∧ l.i = 0 ∧ l.v = nilV) ∧ (r.k = 0 ∧ r.i = 0 ∧ r.v = nilV) := by
  unfold plainB at h
  simp only [Bool.and_eq_true, decide_eq_true_eq] at h
  exact ⟨h.1.2, h.2⟩
/-- A valid node stays one. -/
theorem rnode_bind {cols ks : List Int} {vs : List V} (hv : ValsOf ks vs) {op cmp : Int} {l r : Od} {n : Nat} (h : rnodeB cols ks op cmp l r n = true) :
    rnodeB cols [] op cmp (bindO vs l) (bindO vs r) n = true ∧ (op = 3 → ∀ row others, denV row others (bindO vs l) = denV row vs l ∧ denV row others (bindO vs r) = denV row vs r) := by
  by_cases h3 : op = 3
  · unfold rnodeB at h ⊢
    rw [if_neg (by omega), if_pos h3, Bool.and_eq_true] at h
    rw [if_neg (by omega), if_pos h3, Bool.and_eq_true]
    obtain ⟨h0, hc⟩ := h
    unfold comparesB at hc ⊢
    simp only [Bool.and_eq_true, Bool.not_eq_true', decide_eq_true_eq, decide_eq_false_iff_not] at hc ⊢
    obtain ⟨⟨hc1, hc2⟩, hc3⟩ := hc
    have hl := bindO_kind hv hc2
    have hr := bindO_kind hv (o := r) (by rw [← hc3]; exact hc2)
    rw [hl.1, hr.1]
    exact ⟨⟨of_decide_eq_true h0, ⟨hc1, hc2⟩, hc3⟩, fun _ row others => ⟨hl.2 row others, hr.2 row others⟩⟩
  · refine ⟨?_, fun h => absurd h h3⟩
    have hpl : plainB cmp l r = true := by
      unfold rnodeB at h
      rw [if_neg h3] at h
      split at h
      · exact (Bool.and_eq_true _ _ ▸ h).2
      · split at h
        · exact h
        · split at h
          · exact (Bool.and_eq_true _ _ ▸ h).2
          · cases h
    obtain ⟨h1, h2⟩ := plain_of hpl
    rw [bindO_plain h1, bindO_plain h2]
    unfold rnodeB at h ⊢
    rw [if_neg h3] at h ⊢
    exact h
mutual
theorem bindP_valid {cols ks : List Int} {vs : List V} (hv : ValsOf ks vs) : ∀ p : Pr, validR cols ks p = true → validR cols [] (bindP vs p) = true ∧ ∀ row others, holdsP row others (bindP vs p) = holdsP row vs p
  | .mk op cmp l r args, h => by
    rw [validR, Bool.and_eq_true] at h
    obtain ⟨h1, h2⟩ := h
    have hb : rbadL cols ks args = false := by simpa using h2
    obtain ⟨a1, a2⟩ := rnode_bind hv h1
    obtain ⟨b1, b2, b3, b4⟩ := bindL_valid hv args hb
    have hlen : (bindL vs args).length = args.length := by rw [bindL_map, List.length_map]
    refine ⟨?_, fun row others => ?_⟩
    · rw [bindP, validR, hlen, a1, b1]; rfl
    · rw [bindP, holdsP, holdsP, b2 row others, b3 row others, b4 row others]
      by_cases h3 : op = 3
      · have := a2 h3 row others
        rw [this.1, this.2]
      · rw [if_neg h3, if_neg h3]
theorem bindL_valid {cols ks : List Int} {vs : List V} (hv : ValsOf ks vs) : ∀ ps : List Pr, rbadL cols ks ps = false → rbadL cols [] (bindL vs ps) = false ∧
    (∀ row others, failsAny row others (bindL vs ps) = failsAny row vs ps) ∧ (∀ row others, holdsAny row others (bindL vs ps) = holdsAny row vs ps) ∧ (∀ row others, failsHead row others (bindL vs ps) = failsHead row vs ps)
  | [], _ => ⟨by rw [bindL, rbadL], fun _ _ => by rw [bindL, failsAny, failsAny], fun _ _ => by rw [bindL, holdsAny, holdsAny], fun _ _ => by rw [bindL, failsHead, failsHead]⟩
  | p :: ps, h => by
    rw [rbadL, Bool.or_eq_false_iff] at h
    obtain ⟨h1, h2⟩ := h
    have hp : validR cols ks p = true := by simpa using h1
    obtain ⟨a1, a2⟩ := bindP_valid hv p hp
    obtain ⟨b1, b2, b3, b4⟩ := bindL_valid hv ps h2
    refine ⟨by rw [bindL, rbadL, a1, b1]; rfl, fun row others => by rw [bindL, failsAny, failsAny, a2, b2], fun row others => by rw [bindL, holdsAny, holdsAny, a2, b3], fun row others => by rw [bindL, failsHead, failsHead, a2]⟩
end
/-- A bound predicate is valid without parameters, and holds for the same rows. -/
theorem bind_check {cols ks : List Int} {vs : List V} (hv : ValsOf ks vs) {p : Pr} (h : checkE cols ks p = 0) : checkE cols [] (bindP vs p) = 0 ∧ ∀ row others, holdsP row others (bindP vs p) = holdsP row vs p := by
  unfold checkE at h ⊢
  split at h
  · cases h
  · rename_i h1
    split at h
    · cases h
    · rename_i h2
      split at h
      · cases h
      · rename_i h3
        have hva : validR cols ks p = true := by simpa using h3
        obtain ⟨a1, a2⟩ := bindP_valid hv p hva
        have hc : ¬ (kindsB cols = false ∨ kindsB [] = false) := by
          rintro (h | h)
          · exact h1 (.inl h)
          · simp [kindsB] at h
        refine ⟨?_, a2⟩
        rw [if_neg hc, bindP_count, bindP_depth, if_neg h2, a1, if_neg (by simp)]
/-- Whether two predicates are the same. -/
noncomputable def eqP (a b : Pr) : Bool := @decide (a = b) (Classical.propDecidable _)
theorem eqP_iff {a b : Pr} : eqP a b = true ↔ a = b := by unfold eqP; simp
theorem eqP_self (a : Pr) : eqP a a = true := eqP_iff.2 rfl
theorem eqO_iff {a b : Od} : eqO a b = true ↔ a = b := by
  unfold eqO
  cases a; cases b
  simp [and_assoc]
noncomputable def eqL : List Pr → List Pr → Bool
  | [], [] => true
  | a :: l, b :: m => eqP a b && eqL l m
  | _, _ => false
theorem eqL_iff : ∀ {a b : List Pr}, eqL a b = true ↔ a = b
  | [], [] => by simp [eqL]
  | a :: l, b :: m => by rw [eqL, Bool.and_eq_true, eqP_iff, eqL_iff]; simp
  | [], b :: m => by simp [eqL]
  | a :: l, [] => by simp [eqL]
theorem eqP_eq (a b : Pr) : eqP a b = (decide (a.op = b.op) && decide (a.cmp = b.cmp) && eqO a.l b.l && eqO a.r b.r && eqL a.args b.args) := by
  rw [Bool.eq_iff_iff, eqP_iff]
  simp only [Bool.and_eq_true, decide_eq_true_eq, eqO_iff, eqL_iff]
  obtain ⟨a1, a2, a3, a4, a5⟩ := a
  obtain ⟨b1, b2, b3, b4, b5⟩ := b
  simp [Pr.op, Pr.cmp, Pr.l, Pr.r, Pr.args, and_assoc]
end Go.Proofs.YtndnlmpmloiiiaaDoor
/- The contracts of predicate.bind and of the reference's bound. -/
set_option linter.unusedSimpArgs false
set_option linter.unusedVariables false
namespace Go.Proofs.YtndnlmpmloiiiaaDoor
open Go.RowKit

/-- The cells of an operand's box and of a result's behind it. -/
structure OdR (w : World) (g : Nat) (o : Od) : Prop where
  l0 : g < w.heap.size
  l1 : g + 1 < w.heap.size
  a0 : w.cell? ⟨g, 0, none⟩ = some (.int .i64 o.k)
  a1 : w.cell? ⟨g, 1, none⟩ = some (.int .i64 o.i)
  a2 : w.cell? ⟨g, 2, none⟩ = some (.int .i64 o.v.k)
  a3 : w.cell? ⟨g, 3, none⟩ = some (.int .i64 o.v.n)
  a4 : w.cell? ⟨g, 4, none⟩ = some (.string o.v.t)
  z0 : w.cell? ⟨g + 1, 0, none⟩ = some (.int .i64 0)
  z1 : w.cell? ⟨g + 1, 1, none⟩ = some (.int .i64 0)
  z2 : w.cell? ⟨g + 1, 2, none⟩ = some (.int .i64 0)
  z3 : w.cell? ⟨g + 1, 3, none⟩ = some (.int .i64 0)
  z4 : w.cell? ⟨g + 1, 4, none⟩ = some (.string ⟨#[]⟩)
  f0 : w.frozen? ⟨g + 1, 0, none⟩ = false
  f1 : w.frozen? ⟨g + 1, 1, none⟩ = false
  f2 : w.frozen? ⟨g + 1, 2, none⟩ = false
  f3 : w.frozen? ⟨g + 1, 3, none⟩ = false
  f4 : w.frozen? ⟨g + 1, 4, none⟩ = false
theorem OdR.new (w : World) (o : Od) (T T' : TypeId) : OdR ((w.alloc (.cells #[.int .i64 o.k, .int .i64 o.i, .int .i64 o.v.k, .int .i64 o.v.n, .string o.v.t] T)).alloc (.cells #[.int .i64 0, .int .i64 0, .int .i64 0, .int .i64 0, .string ⟨#[]⟩] T')) w.heap.size o :=
  ⟨by simp; omega, by simp, by go_simp, by go_simp, by go_simp, by go_simp, by go_simp, by go_simp, by go_simp, by go_simp, by go_simp, by go_simp, by go_simp, by go_simp, by go_simp, by go_simp, by go_simp⟩
theorem OdR.later {w w' : World} {g : Nat} {o : Od} (h : OdR w g o) (hw : Below w.heap.size w w') : OdR w' g o :=
  ⟨Nat.lt_of_lt_of_le h.l0 hw.size, Nat.lt_of_lt_of_le h.l1 hw.size, (hw.cell (p := ⟨g, 0, none⟩) h.l0).trans h.a0, (hw.cell (p := ⟨g, 1, none⟩) h.l0).trans h.a1, (hw.cell (p := ⟨g, 2, none⟩) h.l0).trans h.a2, (hw.cell (p := ⟨g, 3, none⟩) h.l0).trans h.a3, (hw.cell (p := ⟨g, 4, none⟩) h.l0).trans h.a4, (hw.cell (p := ⟨g + 1, 0, none⟩) h.l1).trans h.z0, (hw.cell (p := ⟨g + 1, 1, none⟩) h.l1).trans h.z1, (hw.cell (p := ⟨g + 1, 2, none⟩) h.l1).trans h.z2, (hw.cell (p := ⟨g + 1, 3, none⟩) h.l1).trans h.z3, (hw.cell (p := ⟨g + 1, 4, none⟩) h.l1).trans h.z4, by rw [World.frozen?_of_block (w := w) (hw.block _ h.l1)]; exact h.f0, by rw [World.frozen?_of_block (w := w) (hw.block _ h.l1)]; exact h.f1, by rw [World.frozen?_of_block (w := w) (hw.block _ h.l1)]; exact h.f2, by rw [World.frozen?_of_block (w := w) (hw.block _ h.l1)]; exact h.f3, by rw [World.frozen?_of_block (w := w) (hw.block _ h.l1)]; exact h.f4⟩
theorem gro_five {a w : World} (h : Gro a w) {g : Nat} (hg : a.heap.size ≤ g) (x0 x1 x2 x3 x4 : Value) : Gro a (((((w.setCell ⟨g, 0, none⟩ x0).setCell ⟨g, 1, none⟩ x1).setCell ⟨g, 2, none⟩ x2).setCell ⟨g, 3, none⟩ x3).setCell ⟨g, 4, none⟩ x4) := ((((h.setCell hg _).setCell hg _).setCell hg _).setCell hg _).setCell hg _
def OdG (o : Od) (w : World) (e : Ending) (w' : World) : Prop := e = .returned o.val ∧ Gro w w'
theorem hasI_iff {l : List V} {i : Int} : hasI l i = true ↔ 0 ≤ i ∧ i < l.length := by unfold hasI; simp
theorem bindO_yes {par : List V} {o : Od} (h2 : o.k = 2) (h : hasI par o.i = true) : bindO par o = ⟨3, 0, atV par o.i⟩ := by
  obtain ⟨h0, h1⟩ := hasI_iff.1 h
  unfold bindO atV
  rw [if_pos ⟨h2, h0, h1⟩, if_pos h0]
theorem bindO_no {par : List V} {o : Od} (h : ¬ (o.k = 2 ∧ hasI par o.i = true)) : bindO par o = o := by
  unfold bindO
  rw [if_neg fun ⟨h2, h0, h1⟩ => h ⟨h2, hasI_iff.2 ⟨h0, h1⟩⟩]
set_option maxHeartbeats 2000000 in
set_option maxRecDepth 100000 in
theorem pbind_calls (o : Od) (vb : Value) (par : List V) (w : World) (hb : RowAt w vb par) : Calls Tryd.prog 46 #[o.val, vb] w (OdG (bindO par o) w) := by
  have hT := OdR.new w o 26 26
  obtain ⟨W0, hW0⟩ : ∃ W, W = (w.alloc (.cells #[.int .i64 o.k, .int .i64 o.i, .int .i64 o.v.k, .int .i64 o.v.n, .string o.v.t] 26)).alloc (.cells #[.int .i64 0, .int .i64 0, .int .i64 0, .int .i64 0, .string ⟨#[]⟩] 26) := ⟨_, rfl⟩
  have hg0 : Gro w W0 := by rw [hW0]; exact ((Gro.refl w).alloc _).alloc _
  rw [← hW0] at hT
  have HB : Hid (RowAt W0 vb par) := hb.later hg0.below
  have HB0 : Hid (RowAt w vb par) := hb
  have HLT : Hid (w.heap.size + 1 < W0.heap.size) := hT.l1
  have HY : Hid (o.k = 2 → hasI par o.i = true → bindO par o = ⟨3, 0, atV par o.i⟩) := bindO_yes
  have HNO : Hid (¬ (o.k = 2 ∧ hasI par o.i = true) → bindO par o = o) := bindO_no
  obtain ⟨ok, oi, ⟨vk, vn, vt⟩⟩ := o
  replace hW0 : W0 = (w.alloc (.cells #[.int .i64 ok, .int .i64 oi, .int .i64 vk, .int .i64 vn, .string vt] 26)).alloc (.cells #[.int .i64 0, .int .i64 0, .int .i64 0, .int .i64 0, .string ⟨#[]⟩] 26) := hW0
  replace HY : Hid (ok = 2 → hasI par oi = true → bindO par ⟨ok, oi, ⟨vk, vn, vt⟩⟩ = ⟨3, 0, atV par oi⟩) := HY.out
  replace HNO : Hid (¬ (ok = 2 ∧ hasI par oi = true) → bindO par ⟨ok, oi, ⟨vk, vn, vt⟩⟩ = ⟨ok, oi, ⟨vk, vn, vt⟩⟩) := HNO.out
  obtain ⟨res, hres⟩ : ∃ res, bindO par ⟨ok, oi, ⟨vk, vn, vt⟩⟩ = res := ⟨_, rfl⟩
  rw [hres] at HY HNO ⊢
  have HW0 := Lib.hid hW0
  have HG0 := Lib.hid hg0
  have HT := Lib.hid hT
  clear hT hW0 hg0 hb hres
  show Calls _ _ #[.agg #[.int .i64 ok, .int .i64 oi, .int .i64 vk, .int .i64 vn, .string vt], vb] _ _
  by_cases h2 : ok = 2
  · subst h2
    have HA : Hid (Calls Tryd.prog 66 #[vb, .int .i64 oi] W0 (fun e w' => e = .returned (.tuple #[(atV par oi).val, .bool (hasI par oi)]) ∧ Gro W0 w')) := at_calls vb par oi W0 HB.out
    clear HB HB0
    by_cases hq : hasI par oi = true
    · have HR : Hid (res = ⟨3, 0, atV par oi⟩) := HY.out rfl hq
      show Calls _ _ _ _ (fun e w' => e = .returned res.val ∧ Gro w w')
      rw [HR.out]
      rw [hq] at HA
      clear HY HNO HR hq
      generalize atV par oi = x at HA ⊢
      obtain ⟨xk, xn, xt⟩ := x
      obtain ⟨l0, l1, a0, a1, a2, a3, a4, z0, z1, z2, z3, z4, f0, f1, f2, f3, f4⟩ := HT.out
      simp only at a0 a1 a2 a3 a4
      go_enter Tryd.func46, Tryd.ntmps46
      go_wp2_with fail
      rw [← HW0.out]
      go_wp2_with fail
      refine HA.out.mono ?_
      rintro e W ⟨rfl, hg⟩
      obtain ⟨l0, l1, a0, a1, a2, a3, a4, z0, z1, z2, z3, z4, f0, f1, f2, f3, f4⟩ := HT.out.later hg.below
      have HG : Hid (Gro w W) := HG0.out.trans hg
      have l2 : w.heap.size + 1 < W.heap.size := l1
      clear HT HW0 HG0 hg HA
      go_wp2
      exact bodyPost_ret (v := Od.val ⟨3, 0, ⟨xk, xn, xt⟩⟩) (by simp [results, Tryd.results46, go_sem, Od.val, l1, z0, z1, z2, z3, z4]; try rfl) rfl ⟨rfl, (gro_five HG.out (by omega) _ _ _ _ _).alloc _⟩
    · have HR : Hid (res = ⟨2, oi, ⟨vk, vn, vt⟩⟩) := HNO.out fun h => hq h.2
      show Calls _ _ _ _ (fun e w' => e = .returned res.val ∧ Gro w w')
      rw [HR.out]
      have hq' : hasI par oi = false := by simpa using hq
      rw [hq'] at HA
      clear HY HNO HR hq hq'
      generalize atV par oi = x at HA ⊢
      obtain ⟨xk, xn, xt⟩ := x
      obtain ⟨l0, l1, a0, a1, a2, a3, a4, z0, z1, z2, z3, z4, f0, f1, f2, f3, f4⟩ := HT.out
      simp only at a0 a1 a2 a3 a4
      go_enter Tryd.func46, Tryd.ntmps46
      go_wp2_with fail
      rw [← HW0.out]
      go_wp2_with fail
      refine HA.out.mono ?_
      rintro e W ⟨rfl, hg⟩
      obtain ⟨l0, l1, a0, a1, a2, a3, a4, z0, z1, z2, z3, z4, f0, f1, f2, f3, f4⟩ := HT.out.later hg.below
      simp only at a0 a1 a2 a3 a4
      have HG : Hid (Gro w W) := HG0.out.trans hg
      have l2 : w.heap.size < W.heap.size := l0
      clear HT HW0 HG0 hg HA
      go_wp2
      exact bodyPost_ret (v := Od.val ⟨2, oi, ⟨vk, vn, vt⟩⟩) (by simp [results, Tryd.results46, go_sem, Od.val, l1, z0, z1, z2, z3, z4]; try rfl) rfl ⟨rfl, (gro_five HG.out (by omega) _ _ _ _ _).alloc _⟩
  · have HR : Hid (res = ⟨ok, oi, ⟨vk, vn, vt⟩⟩) := HNO.out fun h => h2 h.1
    show Calls _ _ _ _ (fun e w' => e = .returned res.val ∧ Gro w w')
    rw [HR.out]
    have h2' : (ok == 2) = false := by simpa using h2
    clear HY HNO HR HB HB0 HW0 HT HG0 HLT
    go_enter Tryd.func46, Tryd.ntmps46
    go_wp2
    exact bodyPost_ret (v := Od.val ⟨ok, oi, ⟨vk, vn, vt⟩⟩) (by simp [results, Tryd.results46, go_sem, Od.val]; try rfl) rfl ⟨rfl, ((Gro.refl w).alloc _).alloc _⟩
set_option maxHeartbeats 2000000 in
set_option maxRecDepth 100000 in
theorem rbound_calls (o : Od) (vb : Value) (par : List V) (w : World) (hb : RowAt w vb par) : Calls Tryd.prog 47 #[o.val, vb] w (OdG (bindO par o) w) := by
  have hT := OdR.new w o 26 26
  obtain ⟨W0, hW0⟩ : ∃ W, W = (w.alloc (.cells #[.int .i64 o.k, .int .i64 o.i, .int .i64 o.v.k, .int .i64 o.v.n, .string o.v.t] 26)).alloc (.cells #[.int .i64 0, .int .i64 0, .int .i64 0, .int .i64 0, .string ⟨#[]⟩] 26) := ⟨_, rfl⟩
  have hg0 : Gro w W0 := by rw [hW0]; exact ((Gro.refl w).alloc _).alloc _
  rw [← hW0] at hT
  have HB : Hid (RowAt W0 vb par) := hb.later hg0.below
  have HB0 : Hid (RowAt w vb par) := hb
  have HLT : Hid (w.heap.size + 1 < W0.heap.size) := hT.l1
  have HY : Hid (o.k = 2 → hasI par o.i = true → bindO par o = ⟨3, 0, atV par o.i⟩) := bindO_yes
  have HNO : Hid (¬ (o.k = 2 ∧ hasI par o.i = true) → bindO par o = o) := bindO_no
  obtain ⟨ok, oi, ⟨vk, vn, vt⟩⟩ := o
  replace hW0 : W0 = (w.alloc (.cells #[.int .i64 ok, .int .i64 oi, .int .i64 vk, .int .i64 vn, .string vt] 26)).alloc (.cells #[.int .i64 0, .int .i64 0, .int .i64 0, .int .i64 0, .string ⟨#[]⟩] 26) := hW0
  replace HY : Hid (ok = 2 → hasI par oi = true → bindO par ⟨ok, oi, ⟨vk, vn, vt⟩⟩ = ⟨3, 0, atV par oi⟩) := HY.out
  replace HNO : Hid (¬ (ok = 2 ∧ hasI par oi = true) → bindO par ⟨ok, oi, ⟨vk, vn, vt⟩⟩ = ⟨ok, oi, ⟨vk, vn, vt⟩⟩) := HNO.out
  obtain ⟨res, hres⟩ : ∃ res, bindO par ⟨ok, oi, ⟨vk, vn, vt⟩⟩ = res := ⟨_, rfl⟩
  rw [hres] at HY HNO ⊢
  have HW0 := Lib.hid hW0
  have HG0 := Lib.hid hg0
  have HT := Lib.hid hT
  clear hT hW0 hg0 hb hres
  show Calls _ _ #[.agg #[.int .i64 ok, .int .i64 oi, .int .i64 vk, .int .i64 vn, .string vt], vb] _ _
  obtain ⟨pa, pn, pc, rfl⟩ : ∃ a n c, vb = .slice a n c := (let ⟨a, c, h, _⟩ := HB0.out; ⟨a, par.length, c, h⟩)
  by_cases h2 : ok = 2
  · subst h2
    by_cases h0 : 0 ≤ oi
    · have d0 : decide (oi ≥ 0) = true := by simpa using h0
      have d0' : decide (0 ≤ oi) = true := by simpa using h0
      by_cases h1 : oi < (par.length : Int)
      · have hq : hasI par oi = true := hasI_iff.2 ⟨h0, h1⟩
        obtain ⟨n, rfl⟩ : ∃ n : Nat, oi = n := ⟨oi.toNat, by omega⟩
        have hn : n < par.length := by omega
        obtain ⟨a, cap, hv, hl, ha⟩ := HB0.out
        simp only [Value.slice.injEq] at hv
        obtain ⟨rfl, rfl, rfl⟩ := hv
        obtain ⟨b, off, rfl, hr⟩ := ha.resolve_left (by rintro rfl; simp at hn)
        have hat := hr.at_ n hn
        have hbl := hr.blk
        have HR : Hid (res = ⟨3, 0, atV par n⟩) := HY.out rfl hq
        show Calls _ _ _ _ (fun e w' => e = .returned res.val ∧ Gro w w')
        rw [HR.out]
        rw [atV_in hn]
        generalize par[n] = x at hat ⊢
        obtain ⟨xk, xn, xt⟩ := x
        obtain ⟨c0, c1, c2⟩ := hat
        have d1 : decide ((n : Int) < (par.length : Int)) = true := by simpa using hn
        have d1' : decide (n < par.length) = true := by simpa using hn
        generalize par.length = N at h1 hn d1 d1' ⊢
        clear hr ha hl hq
        clear HY HNO HR HB HB0
        clear HW0 HT HG0 HLT
        go_enter Tryd.func47, Tryd.ntmps47
        go_wp2
        exact bodyPost_ret (v := Od.val ⟨3, 0, ⟨xk, xn, xt⟩⟩) (by simp [results, Tryd.results47, go_sem, Od.val]; try rfl) rfl ⟨rfl, ((Gro.refl w).alloc _).alloc _⟩
      · have HN : Hid (¬ ((2 : Int) = 2 ∧ hasI par oi = true)) := fun h => h1 (hasI_iff.1 h.2).2
        obtain ⟨a, cap, hv, hl, ha⟩ := HB0.out
        simp only [Value.slice.injEq] at hv
        obtain ⟨rfl, rfl, rfl⟩ := hv
        have HR : Hid (res = ⟨2, oi, ⟨vk, vn, vt⟩⟩) := HNO.out (HN.out)
        show Calls _ _ _ _ (fun e w' => e = .returned res.val ∧ Gro w w')
        rw [HR.out]
        have d1 : decide (oi < (par.length : Int)) = false := by simpa using h1
        generalize par.length = N at h1 d1 ⊢
        clear ha hl HN
        clear HY HNO HR HB HB0
        clear HW0 HT HG0 HLT
        go_enter Tryd.func47, Tryd.ntmps47
        go_wp2
        exact bodyPost_ret (v := Od.val ⟨2, oi, ⟨vk, vn, vt⟩⟩) (by simp [results, Tryd.results47, go_sem, Od.val]; try rfl) rfl ⟨rfl, ((Gro.refl w).alloc _).alloc _⟩
    · have d0 : decide (oi ≥ 0) = false := by simpa using h0
      have d0' : decide (0 ≤ oi) = false := by simpa using h0
      have HN : Hid (¬ ((2 : Int) = 2 ∧ hasI par oi = true)) := fun h => h0 (hasI_iff.1 h.2).1
      have HR : Hid (res = ⟨2, oi, ⟨vk, vn, vt⟩⟩) := HNO.out (HN.out)
      show Calls _ _ _ _ (fun e w' => e = .returned res.val ∧ Gro w w')
      rw [HR.out]
      clear HN
      clear HY HNO HR HB HB0
      clear HW0 HT HG0 HLT
      go_enter Tryd.func47, Tryd.ntmps47
      go_wp2
      exact bodyPost_ret (v := Od.val ⟨2, oi, ⟨vk, vn, vt⟩⟩) (by simp [results, Tryd.results47, go_sem, Od.val]; try rfl) rfl ⟨rfl, ((Gro.refl w).alloc _).alloc _⟩
  · have h2' : (ok == 2) = false := by simpa using h2
    have HR : Hid (res = ⟨ok, oi, ⟨vk, vn, vt⟩⟩) := HNO.out (fun h => h2 h.1)
    show Calls _ _ _ _ (fun e w' => e = .returned res.val ∧ Gro w w')
    rw [HR.out]
    clear HY HNO HR HB HB0
    clear HW0 HT HG0 HLT
    go_enter Tryd.func47, Tryd.ntmps47
    go_wp2
    exact bodyPost_ret (v := Od.val ⟨ok, oi, ⟨vk, vn, vt⟩⟩) (by simp [results, Tryd.results47, go_sem, Od.val]; try rfl) rfl ⟨rfl, ((Gro.refl w).alloc _).alloc _⟩
end Go.Proofs.YtndnlmpmloiiiaaDoor
