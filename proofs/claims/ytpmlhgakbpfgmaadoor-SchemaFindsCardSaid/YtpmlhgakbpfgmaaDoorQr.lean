/- What Bind and Equal answer: the mathematics. -/
import Derived.Test.YtpmlhgakbpfgmaaDoorPb
import Derived.Test.YtpmlhgakbpfgmaaDoorQe
import Derived.Test.YtpmlhgakbpfgmaaDoorKx
import Derived.Deep.CutRange
import Derived.Deep.AppendLies
set_option linter.unusedSimpArgs false
set_option linter.unusedVariables false
namespace Go.Proofs.YtpmlhgakbpfgmaaDoor
open Go.RowKit

mutual
/-- No list of arguments is longer than memory allows. -/
def fitP : Pr → Prop
  | .mk _ _ _ _ args => args.length ≤ 1034834473200 ∧ fitL args
def fitL : List Pr → Prop
  | [] => True
  | p :: ps => fitP p ∧ fitL ps
end
theorem fitL_iff : ∀ {ps : List Pr}, fitL ps ↔ ∀ q ∈ ps, fitP q
  | [] => by simp [fitL]
  | p :: ps => by rw [fitL, fitL_iff]; simp
theorem fitP_iff {p : Pr} : fitP p ↔ p.args.length ≤ 1034834473200 ∧ ∀ q ∈ p.args, fitP q := by
  cases p; rw [fitP, fitL_iff]; rfl
mutual
theorem fit_count : ∀ p : Pr, countP p ≤ 1000000 → fitP p
  | .mk _ _ _ _ args, h => by
    rw [countP] at h
    rw [fitP]
    exact ⟨by have := length_countL args; omega, fitL_count args (by omega)⟩
theorem fitL_count : ∀ ps : List Pr, countL ps ≤ 1000000 → fitL ps
  | [], _ => by rw [fitL]; trivial
  | p :: ps, h => by
    rw [countL] at h
    rw [fitL]
    exact ⟨fit_count p (by omega), fitL_count ps (by omega)⟩
end
/-- Whether an operand denotes a parameter that there is. -/
abbrev isPar (par : List V) (o : Od) : Prop := o.k = 2 ∧ 0 ≤ o.i ∧ o.i < par.length
/-- An operand in which a parameter is a value. -/
noncomputable def bindO (par : List V) (o : Od) : Od := if isPar par o then ⟨3, 0, par.getD o.i.toNat nilV⟩ else o
mutual
noncomputable def bindP (par : List V) : Pr → Pr
  | .mk op cmp l r args => .mk op cmp (bindO par l) (bindO par r) (bindL par args)
noncomputable def bindL (par : List V) : List Pr → List Pr
  | [] => []
  | p :: ps => bindP par p :: bindL par ps
end
theorem bindL_map (par : List V) : ∀ ps : List Pr, bindL par ps = ps.map (bindP par)
  | [] => rfl
  | p :: ps => by rw [bindL, bindL_map par ps]; rfl
theorem bindP_args (par : List V) (p : Pr) : (bindP par p).args = p.args.map (bindP par) := by
  cases p; rw [bindP, bindL_map]; rfl
theorem bindP_op (par : List V) (p : Pr) : (bindP par p).op = p.op := by cases p; rw [bindP]; rfl
theorem bindP_cmp (par : List V) (p : Pr) : (bindP par p).cmp = p.cmp := by cases p; rw [bindP]; rfl
theorem bindP_l (par : List V) (p : Pr) : (bindP par p).l = bindO par p.l := by cases p; rw [bindP]; rfl
theorem bindP_r (par : List V) (p : Pr) : (bindP par p).r = bindO par p.r := by cases p; rw [bindP]; rfl
theorem bindO_nil (o : Od) : bindO [] o = o := by
  unfold bindO
  rw [if_neg]
  rintro ⟨-, h1, h2⟩
  simp at h2
  omega
mutual
theorem bindP_nil : ∀ p : Pr, bindP [] p = p
  | .mk op cmp l r args => by rw [bindP, bindO_nil, bindO_nil, bindL_nil args]
theorem bindL_nil : ∀ ps : List Pr, bindL [] ps = ps
  | [] => rfl
  | p :: ps => by rw [bindL, bindP_nil p, bindL_nil ps]
end
mutual
theorem bindP_count (par : List V) : ∀ p : Pr, countP (bindP par p) = countP p
  | .mk op cmp l r args => by rw [bindP, countP, countP, bindL_count par args]
theorem bindL_count (par : List V) : ∀ ps : List Pr, countL (bindL par ps) = countL ps
  | [] => rfl
  | p :: ps => by rw [bindL, countL, countL, bindP_count par p, bindL_count par ps]
end
mutual
theorem bindP_depth (par : List V) : ∀ p : Pr, depthP (bindP par p) = depthP p
  | .mk op cmp l r args => by rw [bindP, depthP, depthP, bindL_depth par args]
theorem bindL_depth (par : List V) : ∀ ps : List Pr, depthL (bindL par ps) = depthL ps
  | [] => rfl
  | p :: ps => by rw [bindL, depthL, depthL, bindP_depth par p, bindL_depth par ps]
end
/-- Values of some kinds, each of them real. -/
def ValsOf (ks : List Int) (vs : List V) : Prop := vs.length = ks.length ∧ ∀ i (h : i < vs.length) (h' : i < ks.length), realB vs[i] = true ∧ vs[i].k = ks[i]
theorem bindO_kind {cols ks : List Int} {vs : List V} (hv : ValsOf ks vs) {o : Od} (h : kindO cols ks o ≠ 0) : kindO cols [] (bindO vs o) = kindO cols ks o ∧ ∀ row others, denV row others (bindO vs o) = denV row vs o := by
  by_cases h2 : o.k = 2
  · have hk : kindO cols ks o = kAt ks o := by unfold kindO; rw [if_neg (by omega), if_pos h2]
    rw [hk] at h
    have hin : 0 ≤ o.i ∧ o.i < ks.length ∧ o.v = nilV := by
      unfold kAt at h
      by_cases hc : 0 ≤ o.i ∧ o.i < ks.length ∧ o.v = nilV
      · exact hc
      · rw [if_neg hc] at h; exact absurd rfl h
    have hp : isPar vs o := ⟨h2, hin.1, by rw [hv.1]; exact hin.2.1⟩
    have hb : bindO vs o = ⟨3, 0, vs.getD o.i.toNat nilV⟩ := by unfold bindO; rw [if_pos hp]
    have hlt : o.i.toNat < vs.length := by have := hp.2.2; omega
    have hlt' : o.i.toNat < ks.length := by rw [← hv.1]; exact hlt
    obtain ⟨r1, r2⟩ := hv.2 o.i.toNat hlt hlt'
    have hg : vs.getD o.i.toNat nilV = vs[o.i.toNat] := by simp [List.getD, hlt]
    have hgk : ks.getD o.i.toNat 0 = ks[o.i.toNat] := by simp [List.getD, hlt']
    refine ⟨?_, fun row others => ?_⟩
    · rw [hk, hb]
      unfold kindO kAt
      rw [if_neg (by simp), if_neg (by simp), if_pos rfl, if_pos hin, hg, hgk]
      simp [r1, r2]
    · rw [hb]
      unfold denV
      rw [if_neg (by simp), if_neg (by simp), if_pos rfl, if_neg (by omega), if_pos h2]
      unfold atV
      rw [if_pos hin.1]
  · have hb : bindO vs o = o := by unfold bindO; rw [if_neg (fun h => h2 h.1)]
    rw [hb]
    refine ⟨?_, fun row others => ?_⟩
    · unfold kindO; rw [if_neg h2, if_neg h2]
    · unfold denV; rw [if_neg h2, if_neg h2]
theorem bindO_plain {vs : List V} {o : Od} (h : o.k = 0 ∧ o.i = 0 ∧ o.v = nilV) : bindO vs o = o := by
  unfold bindO
  rw [if_neg]
  rintro ⟨h1, -, -⟩
  omega
theorem plain_of {cmp : Int} {l r : Od} (h : plainB cmp l r = true) : (l.k = 0 ∧ l.i = 0 ∧ l.v = nilV) ∧ (r.k = 0 ∧ r.i = 0 ∧ r.v = nilV) := by
  unfold plainB at h
  simp only [Bool.and_eq_true, decide_eq_true_eq] at h
  exact ⟨h.1.2, h.2⟩
/-- A valid node stays one. -/
theorem rnode_bind {cols ks : List Int} {vs : List V} (hv : ValsOf ks vs) {op cmp : Int} {l r : Od} {n : Nat} (h : rnodeB cols ks op cmp l r n = true) :
    rnodeB cols [] op cmp (bindO vs l) (bindO vs r) n = true ∧ (op = 3 → ∀ row others, denV row others (bindO vs l) = denV row vs l ∧ denV row others (bindO vs r) = denV row vs r) := by
  by_cases h3 : op = 3
  · unfold rnodeB at h ⊢
    rw [if_neg (by omega), if_pos h3, Bool.and_eq_true] at h
    rw [if_neg (by omega), if_pos h3, Bool.and_eq_true]
    obtain ⟨h0, hc⟩ := h
    unfold comparesB at hc ⊢
    simp only [Bool.and_eq_true, Bool.not_eq_true', decide_eq_true_eq, decide_eq_false_iff_not] at hc ⊢
    obtain ⟨⟨hc1, hc2⟩, hc3⟩ := hc
    have hl := bindO_kind hv hc2
    have hr := bindO_kind hv (o := r) (by rw [← hc3]; exact hc2)
    rw [hl.1, hr.1]
    exact ⟨⟨of_decide_eq_true h0, ⟨hc1, hc2⟩, hc3⟩, fun _ row others => ⟨hl.2 row others, hr.2 row others⟩⟩
  · refine ⟨?_, fun h => absurd h h3⟩
    have hpl : plainB cmp l r = true := by
      unfold rnodeB at h
      rw [if_neg h3] at h
      split at h
      · exact (Bool.and_eq_true _ _ ▸ h).2
      · split at h
        · exact h
        · split at h
          · exact (Bool.and_eq_true _ _ ▸ h).2
          · cases h
    obtain ⟨h1, h2⟩ := plain_of hpl
    rw [bindO_plain h1, bindO_plain h2]
    unfold rnodeB at h ⊢
    rw [if_neg h3] at h ⊢
    exact h
mutual
theorem bindP_valid {cols ks : List Int} {vs : List V} (hv : ValsOf ks vs) : ∀ p : Pr, validR cols ks p = true → validR cols [] (bindP vs p) = true ∧ ∀ row others, holdsP row others (bindP vs p) = holdsP row vs p
  | .mk op cmp l r args, h => by
    rw [validR, Bool.and_eq_true] at h
    obtain ⟨h1, h2⟩ := h
    have hb : rbadL cols ks args = false := by simpa using h2
    obtain ⟨a1, a2⟩ := rnode_bind hv h1
    obtain ⟨b1, b2, b3, b4⟩ := bindL_valid hv args hb
    have hlen : (bindL vs args).length = args.length := by rw [bindL_map, List.length_map]
    refine ⟨?_, fun row others => ?_⟩
    · rw [bindP, validR, hlen, a1, b1]; rfl
    · rw [bindP, holdsP, holdsP, b2 row others, b3 row others, b4 row others]
      by_cases h3 : op = 3
      · have := a2 h3 row others
        rw [this.1, this.2]
      · rw [if_neg h3, if_neg h3]
theorem bindL_valid {cols ks : List Int} {vs : List V} (hv : ValsOf ks vs) : ∀ ps : List Pr, rbadL cols ks ps = false → rbadL cols [] (bindL vs ps) = false ∧
    (∀ row others, failsAny row others (bindL vs ps) = failsAny row vs ps) ∧ (∀ row others, holdsAny row others (bindL vs ps) = holdsAny row vs ps) ∧ (∀ row others, failsHead row others (bindL vs ps) = failsHead row vs ps)
  | [], _ => ⟨by rw [bindL, rbadL], fun _ _ => by rw [bindL, failsAny, failsAny], fun _ _ => by rw [bindL, holdsAny, holdsAny], fun _ _ => by rw [bindL, failsHead, failsHead]⟩
  | p :: ps, h => by
    rw [rbadL, Bool.or_eq_false_iff] at h
    obtain ⟨h1, h2⟩ := h
    have hp : validR cols ks p = true := by simpa using h1
    obtain ⟨a1, a2⟩ := bindP_valid hv p hp
    obtain ⟨b1, b2, b3, b4⟩ := bindL_valid hv ps h2
    refine ⟨by rw [bindL, rbadL, a1, b1]; rfl, fun row others => by rw [bindL, failsAny, failsAny, a2, b2], fun row others => by rw [bindL, holdsAny, holdsAny, a2, b3], fun row others => by rw [bindL, failsHead, failsHead, a2]⟩
end
/-- A bound predicate is valid without parameters, and holds for the same rows. -/
theorem bind_check {cols ks : List Int} {vs : List V} (hv : ValsOf ks vs) {p : Pr} (h : checkE cols ks p = 0) : checkE cols [] (bindP vs p) = 0 ∧ ∀ row others, holdsP row others (bindP vs p) = holdsP row vs p := by
  unfold checkE at h ⊢
  split at h
  · cases h
  · rename_i h1
    split at h
    · cases h
    · rename_i h2
      split at h
      · cases h
      · rename_i h3
        have hva : validR cols ks p = true := by simpa using h3
        obtain ⟨a1, a2⟩ := bindP_valid hv p hva
        have hc : ¬ (kindsB cols = false ∨ kindsB [] = false) := by
          rintro (h | h)
          · exact h1 (.inl h)
          · simp [kindsB] at h
        refine ⟨?_, a2⟩
        rw [if_neg hc, bindP_count, bindP_depth, if_neg h2, a1, if_neg (by simp)]
/-- Whether two predicates are the same. -/
noncomputable def eqP (a b : Pr) : Bool := @decide (a = b) (Classical.propDecidable _)
theorem eqP_iff {a b : Pr} : eqP a b = true ↔ a = b := by unfold eqP; simp
theorem eqP_self (a : Pr) : eqP a a = true := eqP_iff.2 rfl
theorem eqO_iff {a b : Od} : eqO a b = true ↔ a = b := by
  unfold eqO
  cases a; cases b
  simp [and_assoc]
noncomputable def eqL : List Pr → List Pr → Bool
  | [], [] => true
  | a :: l, b :: m => eqP a b && eqL l m
  | _, _ => false
theorem eqL_iff : ∀ {a b : List Pr}, eqL a b = true ↔ a = b
  | [], [] => by simp [eqL]
  | a :: l, b :: m => by rw [eqL, Bool.and_eq_true, eqP_iff, eqL_iff]; simp
  | [], b :: m => by simp [eqL]
  | a :: l, [] => by simp [eqL]
theorem eqP_eq (a b : Pr) : eqP a b = (decide (a.op = b.op) && decide (a.cmp = b.cmp) && eqO a.l b.l && eqO a.r b.r && eqL a.args b.args) := by
  rw [Bool.eq_iff_iff, eqP_iff]
  simp only [Bool.and_eq_true, decide_eq_true_eq, eqO_iff, eqL_iff]
  obtain ⟨a1, a2, a3, a4, a5⟩ := a
  obtain ⟨b1, b2, b3, b4, b5⟩ := b
  simp [Pr.op, Pr.cmp, Pr.l, Pr.r, Pr.args, and_assoc]
end Go.Proofs.YtpmlhgakbpfgmaaDoor
/- The contracts of predicate.bind and of the reference's bound. -/
set_option linter.unusedSimpArgs false
set_option linter.unusedVariables false
namespace Go.Proofs.YtpmlhgakbpfgmaaDoor
open Go.RowKit

/-- The cells of an operand's box and of a result's behind it. -/
structure OdR (w : World) (g : Nat) (o : Od) : Prop where
  l0 : g < w.heap.size
  l1 : g + 1 < w.heap.size
  a0 : w.cell? ⟨g, 0, none⟩ = some (.int .i64 o.k)
  a1 : w.cell? ⟨g, 1, none⟩ = some (.int .i64 o.i)
  a2 : w.cell? ⟨g, 2, none⟩ = some (.int .i64 o.v.k)
  a3 : w.cell? ⟨g, 3, none⟩ = some (.int .i64 o.v.n)
  a4 : w.cell? ⟨g, 4, none⟩ = some (.string o.v.t)
  z0 : w.cell? ⟨g + 1, 0, none⟩ = some (.int .i64 0)
  z1 : w.cell? ⟨g + 1, 1, none⟩ = some (.int .i64 0)
  z2 : w.cell? ⟨g + 1, 2, none⟩ = some (.int .i64 0)
  z3 : w.cell? ⟨g + 1, 3, none⟩ = some (.int .i64 0)
  z4 : w.cell? ⟨g + 1, 4, none⟩ = some (.string ⟨#[]⟩)
  f0 : w.frozen? ⟨g + 1, 0, none⟩ = false
  f1 : w.frozen? ⟨g + 1, 1, none⟩ = false
  f2 : w.frozen? ⟨g + 1, 2, none⟩ = false
  f3 : w.frozen? ⟨g + 1, 3, none⟩ = false
  f4 : w.frozen? ⟨g + 1, 4, none⟩ = false
theorem OdR.new (w : World) (o : Od) (T T' : TypeId) : OdR ((w.alloc (.cells #[.int .i64 o.k, .int .i64 o.i, .int .i64 o.v.k, .int .i64 o.v.n, .string o.v.t] T)).alloc (.cells #[.int .i64 0, .int .i64 0, .int .i64 0, .int .i64 0, .string ⟨#[]⟩] T')) w.heap.size o :=
  ⟨by simp; omega, by simp, by go_simp, by go_simp, by go_simp, by go_simp, by go_simp, by go_simp, by go_simp, by go_simp, by go_simp, by go_simp, by go_simp, by go_simp, by go_simp, by go_simp, by go_simp⟩
theorem OdR.later {w w' : World} {g : Nat} {o : Od} (h : OdR w g o) (hw : Below w.heap.size w w') : OdR w' g o :=
  ⟨Nat.lt_of_lt_of_le h.l0 hw.size, Nat.lt_of_lt_of_le h.l1 hw.size, (hw.cell (p := ⟨g, 0, none⟩) h.l0).trans h.a0, (hw.cell (p := ⟨g, 1, none⟩) h.l0).trans h.a1, (hw.cell (p := ⟨g, 2, none⟩) h.l0).trans h.a2, (hw.cell (p := ⟨g, 3, none⟩) h.l0).trans h.a3, (hw.cell (p := ⟨g, 4, none⟩) h.l0).trans h.a4, (hw.cell (p := ⟨g + 1, 0, none⟩) h.l1).trans h.z0, (hw.cell (p := ⟨g + 1, 1, none⟩) h.l1).trans h.z1, (hw.cell (p := ⟨g + 1, 2, none⟩) h.l1).trans h.z2, (hw.cell (p := ⟨g + 1, 3, none⟩) h.l1).trans h.z3, (hw.cell (p := ⟨g + 1, 4, none⟩) h.l1).trans h.z4, by rw [World.frozen?_of_block (w := w) (hw.block _ h.l1)]; exact h.f0, by rw [World.frozen?_of_block (w := w) (hw.block _ h.l1)]; exact h.f1, by rw [World.frozen?_of_block (w := w) (hw.block _ h.l1)]; exact h.f2, by rw [World.frozen?_of_block (w := w) (hw.block _ h.l1)]; exact h.f3, by rw [World.frozen?_of_block (w := w) (hw.block _ h.l1)]; exact h.f4⟩
theorem gro_five {a w : World} (h : Gro a w) {g : Nat} (hg : a.heap.size ≤ g) (x0 x1 x2 x3 x4 : Value) : Gro a (((((w.setCell ⟨g, 0, none⟩ x0).setCell ⟨g, 1, none⟩ x1).setCell ⟨g, 2, none⟩ x2).setCell ⟨g, 3, none⟩ x3).setCell ⟨g, 4, none⟩ x4) := ((((h.setCell hg _).setCell hg _).setCell hg _).setCell hg _).setCell hg _
def OdG (o : Od) (w : World) (e : Ending) (w' : World) : Prop := e = .returned o.val ∧ Gro w w'
theorem hasI_iff {l : List V} {i : Int} : hasI l i = true ↔ 0 ≤ i ∧ i < l.length := by unfold hasI; simp
theorem bindO_yes {par : List V} {o : Od} (h2 : o.k = 2) (h : hasI par o.i = true) : bindO par o = ⟨3, 0, atV par o.i⟩ := by
  obtain ⟨h0, h1⟩ := hasI_iff.1 h
  unfold bindO atV
  rw [if_pos ⟨h2, h0, h1⟩, if_pos h0]
theorem bindO_no {par : List V} {o : Od} (h : ¬ (o.k = 2 ∧ hasI par o.i = true)) : bindO par o = o := by
  unfold bindO
  rw [if_neg fun ⟨h2, h0, h1⟩ => h ⟨h2, hasI_iff.2 ⟨h0, h1⟩⟩]
end Go.Proofs.YtpmlhgakbpfgmaaDoor
/- The contracts of predicate.Bind and of the reference's Bind. -/
set_option linter.unusedSimpArgs false
set_option linter.unusedVariables false
namespace Go.Proofs.YtpmlhgakbpfgmaaDoor
open Go.RowKit

section
variable {P : Program} {ops : Array Oper} {Q : Exit → Act → World → Prop} {md : Region.Mode} {S : World → Prop} {z : Nat}
/-- Two operations may come up. -/
theorem wpX_two (i j : Nat) {oi oj : Oper} {fuel : Nat} {listed : Array Bool} {a : Act} {w : World} (hr : Region.ready md ops listed = [i, j]) (hoi : ops[i]? = some oi) (hoj : ops[j]? = some oj)
    (h1 : ∀ K' : Act → World → Prop, Shut (∀ a w, S w → (S w → wpX P md ops Q S z fuel (listed.setIfInBounds i true) a w) → K' a w) → if Region.wanted oi (yielded ops a.tmps) = true then Oper.wp P oi a w K' Q else K' (a.put oi.dst undef) w)
    (h2 : ∀ K' : Act → World → Prop, Shut (∀ a w, S w → (S w → wpX P md ops Q S z fuel (listed.setIfInBounds j true) a w) → K' a w) → if Region.wanted oj (yielded ops a.tmps) = true then Oper.wp P oj a w K' Q else K' (a.put oj.dst undef) w) :
    wpX P md ops Q S z (fuel + 1) listed a w := fun hcl => by
  refine ⟨fun h0 => absurd (hr ▸ h0) (by simp), fun k hk => ?_⟩
  have hk' := hk
  rw [hr] at hk
  simp only [List.mem_cons, List.not_mem_nil, or_false] at hk
  rcases hk with rfl | rfl
  · exact wpOp_step hoi (fun K' hK => h1 K' (fun a w hS hW => hK a w ⟨.inr hS, hW hS (hcl.step hk')⟩))
  · exact wpOp_step hoj (fun K' hK => h2 K' (fun a w hS hW => hK a w ⟨.inr hS, hW hS (hcl.step hk')⟩))
end
theorem PBx.all {w : World} {g : Nat} {p : Pr} {s : Value} (h : PBx w g p s) (q : Pr) (t : Value) :
    PBx (((((((((((((w.setCell ⟨g, 0, none⟩ (.int .i64 q.op)).setCell ⟨g, 1, none⟩ (.int .i64 q.cmp)).setCell ⟨g, 2, none⟩ (.int .i64 q.l.k)).setCell ⟨g, 3, none⟩ (.int .i64 q.l.i)).setCell ⟨g, 4, none⟩ (.int .i64 q.l.v.k)).setCell ⟨g, 5, none⟩ (.int .i64 q.l.v.n)).setCell ⟨g, 6, none⟩ (.string q.l.v.t)).setCell ⟨g, 7, none⟩ (.int .i64 q.r.k)).setCell ⟨g, 8, none⟩ (.int .i64 q.r.i)).setCell ⟨g, 9, none⟩ (.int .i64 q.r.v.k)).setCell ⟨g, 10, none⟩ (.int .i64 q.r.v.n)).setCell ⟨g, 11, none⟩ (.string q.r.v.t)).setCell ⟨g, 12, none⟩ (t)) g q t := by
  obtain ⟨⟨hl, c0, c1, c2, c3, c4, c5, c6, c7, c8, c9, c10, c11, c12⟩, f⟩ := h
  exact ⟨⟨by simpa using hl, by go_simp, by go_simp, by go_simp, by go_simp, by go_simp, by go_simp, by go_simp, by go_simp, by go_simp, by go_simp, by go_simp, by go_simp, by go_simp⟩, fun o => by have := f o; go_simp⟩
theorem gro_thirteen {a w : World} (h : Gro a w) {g : Nat} (hg : a.heap.size ≤ g) (x0 x1 x2 x3 x4 x5 x6 x7 x8 x9 x10 x11 x12 : Value) : Gro a (((((((((((((w.setCell ⟨g, 0, none⟩ x0).setCell ⟨g, 1, none⟩ x1).setCell ⟨g, 2, none⟩ x2).setCell ⟨g, 3, none⟩ x3).setCell ⟨g, 4, none⟩ x4).setCell ⟨g, 5, none⟩ x5).setCell ⟨g, 6, none⟩ x6).setCell ⟨g, 7, none⟩ x7).setCell ⟨g, 8, none⟩ x8).setCell ⟨g, 9, none⟩ x9).setCell ⟨g, 10, none⟩ x10).setCell ⟨g, 11, none⟩ x11).setCell ⟨g, 12, none⟩ x12) :=
  (((((((((((((h.setCell hg _).setCell hg _).setCell hg _).setCell hg _).setCell hg _).setCell hg _).setCell hg _).setCell hg _).setCell hg _).setCell hg _).setCell hg _).setCell hg _).setCell hg _)
theorem by_new {w0 w w' : World} {r : Option Nat} (h : w0.grownBy w none) (hg : w.grownBy w' r) (hr : ∀ k, r = some k → w0.heap.size ≤ k) : w0.grownBy w' none :=
  ⟨hg.os.trans h.os, hg.tape.trans h.tape, hg.output.trans h.output, Nat.le_trans h.size hg.size, fun k hk hn => (hg.block k (Nat.lt_of_lt_of_le hk h.size) (fun e => by have := hr k e.symm; omega)).trans (h.block k hk hn)⟩
theorem by_below {w w' : World} (h : w.grownBy w' none) : Below w.heap.size w w' := ⟨h.os, h.tape, h.output, h.size, fun k hk => h.block k hk (by simp)⟩
theorem fin_bind {w wf : World} {H n : Nat} {s : Value} {ps : List Pr} (hH : w.heap.size ≤ H) (hg : w.grownBy wf none) (hp : PrIn (fun g => H < g) wf n s ps) (x0 x1 x2 x3 x4 x5 x6 x7 x8 x9 x10 x11 x12 : Value) :
    PrIn (fun g => w.heap.size ≤ g) (((((((((((((wf.setCell ⟨H, 0, none⟩ x0).setCell ⟨H, 1, none⟩ x1).setCell ⟨H, 2, none⟩ x2).setCell ⟨H, 3, none⟩ x3).setCell ⟨H, 4, none⟩ x4).setCell ⟨H, 5, none⟩ x5).setCell ⟨H, 6, none⟩ x6).setCell ⟨H, 7, none⟩ x7).setCell ⟨H, 8, none⟩ x8).setCell ⟨H, 9, none⟩ x9).setCell ⟨H, 10, none⟩ x10).setCell ⟨H, 11, none⟩ x11).setCell ⟨H, 12, none⟩ x12) n s ps ∧ w.grownBy (((((((((((((wf.setCell ⟨H, 0, none⟩ x0).setCell ⟨H, 1, none⟩ x1).setCell ⟨H, 2, none⟩ x2).setCell ⟨H, 3, none⟩ x3).setCell ⟨H, 4, none⟩ x4).setCell ⟨H, 5, none⟩ x5).setCell ⟨H, 6, none⟩ x6).setCell ⟨H, 7, none⟩ x7).setCell ⟨H, 8, none⟩ x8).setCell ⟨H, 9, none⟩ x9).setCell ⟨H, 10, none⟩ x10).setCell ⟨H, 11, none⟩ x11).setCell ⟨H, 12, none⟩ x12) none :=
  ⟨(hp.kept (kept_by (chain_by wf H x0 x1 x2 x3 x4 x5 x6 x7 x8 x9 x10 x11 x12) fun g e hS => by cases e; omega)).mono fun g _ hS => by omega, by_store_new (by_store_new (by_store_new (by_store_new (by_store_new (by_store_new (by_store_new (by_store_new (by_store_new (by_store_new (by_store_new (by_store_new (by_store_new hg hH _) hH _) hH _) hH _) hH _) hH _) hH _) hH _) hH _) hH _) hH _) hH _) hH _⟩
theorem PBx.later {w w' : World} {g : Nat} {p : Pr} {s : Value} (h : PBx w g p s) (hw : Gro w w') : PBx w' g p s := h.by_ (gro_by hw none) (by simp)
/-- What Bind answers. -/
def GotBind (par : List V) (p : Pr) (k : Nat) (w : World) (e : Ending) (w' : World) : Prop :=
  ∃ t, e = .returned ((bindP par p).val t) ∧ PrIn (fun g => w.heap.size ≤ g) w' k t (bindP par p).args ∧ w.grownBy w' none
end Go.Proofs.YtpmlhgakbpfgmaaDoor
