/- A region that draws its order: its last operation, which waits for all others, need not keep what the loads read. -/
import Derived.Test.YtpmlhgakbpfgmaaDoorE
import Derived.Deep.RegionHeld3
set_option linter.unusedSimpArgs false
set_option linter.unusedVariables false
namespace Go.Proofs.YtpmlhgakbpfgmaaDoor

section
variable {P : Program} {ops : Array Oper} {Q : Exit → Act → World → Prop} {md : Region.Mode} {S : World → Prop} {z : Nat}

/-- What an operation that has come up waits for has come up. -/
def ClosedL (md : Region.Mode) (ops : Array Oper) (listed : Array Bool) : Prop :=
  ∀ (j : Nat) (o : Oper), ops[j]? = some o → listed.getD j false = true → ∀ e ∈ o.after, Region.binds md e = true → listed.getD e.on false = true
/-- Each operation but z is waited for by a later one, up to z. -/
def lastB (md : Region.Mode) (ops : Array Oper) (z : Nat) : Bool :=
  (List.range ops.size).all fun i => i == z || (List.range ops.size).any fun j => decide (i < j) && decide (j ≤ z) && ((ops[j]?).map (fun o => o.after.any fun e => Region.binds md e && e.on == i)).getD false

theorem getD_set_eq (l : Array Bool) (i k : Nat) (hk : (l.setIfInBounds i true).getD k false = true) : k = i ∨ l.getD k false = true := by
  by_cases h : i = k
  · exact .inl h.symm
  · rw [getD_set_ne false h] at hk; exact .inr hk
theorem ClosedL.step {listed : Array Bool} {i : Nat} (h : ClosedL md ops listed) (hr : i ∈ Region.ready md ops listed) : ClosedL md ops (listed.setIfInBounds i true) := by
  intro j o hj hl e he hb
  rcases getD_set_eq listed i j hl with rfl | hl
  · obtain ⟨-, o', ho', hall⟩ := mem_ready.1 hr
    rw [hj] at ho'; cases ho'
    exact getD_set_true (hall e he hb)
  · exact getD_set_true (h j o hj hl e he hb)
theorem ClosedL.none (n : Nat) : ClosedL md ops (Array.replicate n false) := by
  intro j o _ hl
  exfalso
  revert hl
  simp only [Array.getD_eq_getD_getElem?, Array.getElem?_replicate]
  split <;> simp
theorem last_all {listed : Array Bool} (hc : ClosedL md ops listed) (hz : lastB md ops z = true) (hr : z ∈ Region.ready md ops listed) : ∀ i, i < ops.size → i ≠ z → listed.getD i false = true := by
  obtain ⟨-, oz, hoz, hall⟩ := mem_ready.1 hr
  have key : ∀ m i, ops.size - i ≤ m → i < ops.size → i ≠ z → listed.getD i false = true := by
    intro m
    induction m with
    | zero => intro i h1 h2; omega
    | succ m ih =>
      intro i h1 h2 h3
      unfold lastB at hz
      have h4 := List.all_eq_true.1 hz i (List.mem_range.2 h2)
      simp only [Bool.or_eq_true, beq_iff_eq, h3, false_or] at h4
      obtain ⟨j, hj, h5⟩ := List.any_eq_true.1 h4
      simp only [Bool.and_eq_true, decide_eq_true_eq] at h5
      obtain ⟨⟨h6, h7⟩, h8⟩ := h5
      cases ho : ops[j]? with
      | none => rw [ho] at h8; simp at h8
      | some o =>
        rw [ho] at h8
        simp only [Option.map_some, Option.getD_some] at h8
        obtain ⟨x, hx, h9⟩ := Array.any_eq_true.1 h8
        simp only [Bool.and_eq_true, beq_iff_eq] at h9
        obtain ⟨h9, h10⟩ := h9
        by_cases hjz : j = z
        · subst hjz
          rw [hoz] at ho; cases ho
          have := hall _ (Array.getElem_mem hx) h9
          rw [h10] at this; exact this
        · have hjl := ih j (by omega) (List.mem_range.1 hj) hjz
          have := hc j o ho hjl _ (Array.getElem_mem hx) h9
          rw [h10] at this; exact this
  exact fun i h1 h2 => key _ i (Nat.le_refl _) h1 h2

/-- Whatever order is picked from here on; behind each operation but z, S holds. -/
def wpAnyX (P : Program) (md : Region.Mode) (ops : Array Oper) (Q : Exit → Act → World → Prop) (S : World → Prop) (z : Nat) : Nat → Array Bool → Act → World → Prop
  | 0, listed, a, w => Region.ready md ops listed = [] ∧ Q .normal a w
  | fuel + 1, listed, a, w =>
    (Region.ready md ops listed = [] → Q .normal a w) ∧
    ∀ i ∈ Region.ready md ops listed, wpOp P ops Q i (fun a' w' => (i = z ∨ S w') ∧ wpAnyX P md ops Q S z fuel (listed.setIfInBounds i true) a' w') a w
theorem wpAny_of_X : ∀ (fuel : Nat) (listed : Array Bool) (a : Act) (w : World), wpAnyX P md ops Q S z fuel listed a w → wpAny P md ops Q fuel listed a w
  | 0, _, _, _, h => h
  | fuel + 1, _, _, _, h => ⟨h.1, fun i hi => wpOp_mono (fun a' w' h' => wpAny_of_X fuel _ a' w' h'.2) (h.2 i hi)⟩

theorem wpAnyX_first {i : Nat} {oi : Oper} {v : Value} (hz : lastB md ops z = true) (hi : ops[i]? = some oi) (hiz : i ≠ z) (hsel : ∀ (j : Nat) (o : Oper) cs b, ops[j]? = some o → o.op ≠ .select cs b)
    (hQ : ∀ c a w, Q (.panic c) (a.put oi.dst v) w → Q (.panic c) a w) :
    ∀ (fuel : Nat) (listed : Array Bool) (a : Act) (w : World), ClosedL md ops listed →
      (∀ j oj, ops[j]? = some oj → j ≠ i → listed.getD j true = false → (∀ e ∈ oj.after, Region.binds md e = true → e.on ≠ i) → oi.apart ops oj = true) →
      i ∈ Region.ready md ops listed → YieldsIf P ops S oi v a → S w →
      wpAnyX P md ops Q S z fuel (listed.setIfInBounds i true) (a.put oi.dst v) w → wpAnyX P md ops Q S z (fuel + 1) listed a w := by
  intro fuel
  induction fuel with
  | zero =>
    intro listed a w _ _ hr hy hS H
    refine ⟨fun h => (by rw [h] at hr; cases hr), fun j hj => ?_⟩
    by_cases hji : j = i
    · subst hji; exact hy.wpOp hi hS ⟨.inr hS, H⟩
    · have := ready_mono hj hji
      rw [H.1] at this
      cases this
  | succ fuel ih =>
    intro listed a w hcl hfree hr hy hS H
    refine ⟨fun h => (by rw [h] at hr; cases hr), fun j hj => ?_⟩
    by_cases hji : j = i
    · subst hji; exact hy.wpOp hi hS ⟨.inr hS, H⟩
    · have hjz : j ≠ z := by
        rintro rfl
        have h1 := last_all hcl hz hj i (Array.getElem?_eq_some_iff.1 hi).1 hiz
        have h0 := (mem_ready.1 hr).1
        rcases Nat.lt_or_ge i listed.size with h' | h'
        · simp [h'] at h0 h1; rw [h0] at h1; cases h1
        · simp [Array.getElem?_eq_none h'] at h1
      have h1 := H.2 j (ready_mono hj hji)
      obtain ⟨hjun, oj, hoj, hall⟩ := mem_ready.1 hj
      have hnot : ∀ e ∈ oj.after, Region.binds md e = true → e.on ≠ i := fun e he hb heq => by
        have h1 := hall e he hb
        have h0 := (mem_ready.1 hr).1
        rw [heq] at h1
        rcases Nat.lt_or_ge i listed.size with h' | h'
        · simp [h'] at h0 h1; rw [h0] at h1; cases h1
        · simp [Array.getElem?_eq_none h'] at h1
      have h2 := wpOp_putIf hoj (hfree j oj hoj hji hjun hnot) (fun cs b => hsel i oi cs b hi) (fun cs b => hsel j oj cs b hoj) hQ hy h1
      have hfree' : ∀ k ok, ops[k]? = some ok → k ≠ i → (listed.setIfInBounds j true).getD k true = false →
          (∀ e ∈ ok.after, Region.binds md e = true → e.on ≠ i) → oi.apart ops ok = true := fun k ok hk hki hun hno => by
        refine hfree k ok hk hki ?_ hno
        by_cases hjk : j = k
        · subst hjk; exact hjun
        · rw [getD_set_ne true hjk] at hun; exact hun
      refine wpOp_mono (fun a' w' h3 => ⟨h3.2.1, ih (listed.setIfInBounds j true) a' w' (hcl.step hj) hfree' (ready_mono hr (Ne.symm hji)) h3.1 (h3.2.1.resolve_left hjz) ?_⟩) h2
      rw [Array.setIfInBounds_comm _ _ hji]
      exact h3.2.2

/-- What is carried along: the walk's state is closed. -/
def wpX (P : Program) (md : Region.Mode) (ops : Array Oper) (Q : Exit → Act → World → Prop) (S : World → Prop) (z : Nat) (fuel : Nat) (listed : Array Bool) (a : Act) (w : World) : Prop :=
  ClosedL md ops listed → wpAnyX P md ops Q S z fuel listed a w
/-- The beginning. -/
theorem wp_region_X (S : World → Prop) (z : Nat) {id : Nat} {a : Act} {w : World} (hm : P.follows .mixedOrders = true) (hS : S w.drew)
    (h : S w.drew → wpX P .any ops Q S z ops.size (Array.replicate ops.size false) a w.drew) : (Code.region id ops true).wp P Q a w :=
  wp_region_any hm (wpAny_of_X _ _ _ _ (h hS (ClosedL.none _)))
/-- Operation i is taken first. -/
theorem wpX_take (i : Nat) {oi : Oper} {v : Value} {fuel : Nat} {listed : Array Bool} {a : Act} {w : World} (hi : ops[i]? = some oi) (hz : lastB md ops z = true) (hiz : (i == z) = false)
    (hs : Region.noSelect ops = true) (hf : Region.free md ops listed i = true) (hr : (Region.ready md ops listed).contains i = true)
    (hQ : ∀ c a w, Q (.panic c) (a.put oi.dst v) w → Q (.panic c) a w) (hy : YieldsIf P ops S oi v a) (hS : S w)
    (h : wpX P md ops Q S z fuel (listed.setIfInBounds i true) (a.put oi.dst v) w) : wpX P md ops Q S z (fuel + 1) listed a w :=
  fun hcl => have hr' : i ∈ Region.ready md ops listed := by simpa using hr
    wpAnyX_first hz hi (by simpa using hiz) (Region.noSelect_spec hs) hQ fuel listed a w hcl (Region.free_spec hi hf) hr' hy hS (h (hcl.step hr'))
/-- One operation alone may come up. -/
theorem wpX_one (i : Nat) {o : Oper} {fuel : Nat} {listed : Array Bool} {a : Act} {w : World} (hr : Region.ready md ops listed = [i]) (ho : ops[i]? = some o)
    (h : ∀ K' : Act → World → Prop, Shut (∀ a w, S w → (S w → wpX P md ops Q S z fuel (listed.setIfInBounds i true) a w) → K' a w) → if Region.wanted o (yielded ops a.tmps) = true then Oper.wp P o a w K' Q else K' (a.put o.dst undef) w) :
    wpX P md ops Q S z (fuel + 1) listed a w := fun hcl => by
  refine ⟨fun h0 => absurd (hr ▸ h0) (by simp), fun j hj => ?_⟩
  have hj' : i ∈ Region.ready md ops listed := by rw [hr]; simp
  rw [hr] at hj
  simp only [List.mem_singleton] at hj
  subst hj
  exact wpOp_step ho (fun K' hK => h K' (fun a w hS hW => hK a w ⟨.inr hS, hW hS (hcl.step hj')⟩))
/-- The last one: nothing is to be kept. -/
theorem wpX_last (i : Nat) {o : Oper} {fuel : Nat} {listed : Array Bool} {a : Act} {w : World} (hr : Region.ready md ops listed = [i]) (hiz : i = z) (ho : ops[i]? = some o)
    (hr2 : Region.ready md ops (listed.setIfInBounds i true) = [])
    (h : ∀ K' : Act → World → Prop, Shut (∀ a w, Q .normal a w → K' a w) → if Region.wanted o (yielded ops a.tmps) = true then Oper.wp P o a w K' Q else K' (a.put o.dst undef) w) :
    wpX P md ops Q S z (fuel + 1) listed a w := fun hcl => by
  refine ⟨fun h0 => absurd (hr ▸ h0) (by simp), fun j hj => ?_⟩
  rw [hr] at hj
  simp only [List.mem_singleton] at hj
  subst hj
  refine wpOp_step ho (fun K' hK => h K' (fun a w hq => hK a w ⟨.inl hiz, ?_⟩))
  cases fuel with
  | zero => exact ⟨hr2, hq⟩
  | succ n => exact ⟨fun _ => hq, fun j hj => by rw [hr2] at hj; cases hj⟩
end
end Go.Proofs.YtpmlhgakbpfgmaaDoor
