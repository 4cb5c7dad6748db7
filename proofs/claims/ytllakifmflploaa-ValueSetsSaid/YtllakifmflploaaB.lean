/- The sanity check begun of the statements' package returns true. -/
import Derived.Test.YtllakifmflploaaU
import Derived.Test.YtllakifmflploaaA5
set_option linter.unusedSimpArgs false
set_option linter.unusedVariables false
namespace Go.Proofs.Ytllakifmflploaa
open Go.RowKit

def vI (n : Int) : V := ⟨4, n, ⟨#[]⟩⟩
theorem next_a : both (nextV ⟨5, 0, ⟨#[97]⟩⟩) = .tuple #[V.val ⟨5, 0, ⟨#[97, 0]⟩⟩, .bool true] := by
  rw [nextV_text (by simp [validB, validP]; decide)]
  rfl
/-- A row of one value, in a block of its own. -/
theorem row1 {w : World} {b : Nat} {v : V} (hb : b < w.heap.size) (h0 : w.cell? ⟨b, 0, none⟩ = some (.int .i64 v.k)) (h1 : w.cell? ⟨b, 1, none⟩ = some (.int .i64 v.n)) (h2 : w.cell? ⟨b, 2, none⟩ = some (.string v.t)) (c : Nat) :
    RowAt w (.slice (some ⟨b, 0, none⟩) 1 c) [v] :=
  ⟨some ⟨b, 0, none⟩, c, rfl, by simp, .inr ⟨b, 0, rfl, hb, fun i hi => by
    obtain rfl : i = 0 := by simpa using hi
    exact ⟨h0, h1, h2⟩⟩⟩
theorem set_begun : SetOf [[vI 2], [vI 1], [vI 2]] [[vI 1], [vI 2]] := by
  refine ⟨?_, fun r => ?_⟩
  · simp [Asc, cmpR, cmpL, cmpV, cmpI, vI]
  · simp only [List.mem_cons, List.not_mem_nil, or_false]
    constructor
    · rintro (h | h)
      · exact Or.inr (Or.inl h)
      · exact Or.inl h
    · rintro (h | h | h)
      · exact Or.inr h
      · exact Or.inl h
      · exact Or.inr h
theorem valid_a0 : validB ⟨5, 0, ⟨#[97, 0]⟩⟩ = true := by simp [validB, validP]; decide
theorem real_a0 : realB ⟨5, 0, ⟨#[97, 0]⟩⟩ = true := by simp [realB, valid_a0]
set_option maxRecDepth 100000 in
theorem begun_calls (w : World) : Calls Try.prog 19 #[] w fun e w' => e = .returned (.bool true) ∧ Below w.heap.size w w' := by
  have mx := mixed
  have hN := fun w => next_calls ⟨5, 0, ⟨#[97]⟩⟩ (by simp) w
  rw [next_a] at hN
  have HN := Lib.hid hN
  clear hN
  go_enter Try.func19, Try.ntmps19
  go_wp2_with (first | (go_at_call 75; refine (wide (HN.out _)).mono ?_; rintro e w' ⟨q, os, rfl, rfl⟩) | fail)
  obtain ⟨W0, hW0⟩ : ∃ W0, W0 = ((((((Sort.grow (w.drewN q) os).alloc (.cells #[.int .i64 5, .int .i64 0, .string ⟨#[97, 0]⟩] 35)).alloc (.cells #[.int .i64 4, .int .i64 2, .string ⟨#[]⟩] 35)).alloc (.cells #[.int .i64 4, .int .i64 1, .string ⟨#[]⟩] 35)).alloc (.cells #[.int .i64 4, .int .i64 2, .string ⟨#[]⟩] 35)).alloc (.cells #[.slice (some ⟨w.heap.size + os.size + 1, 0, none⟩) 1 1, .slice (some ⟨w.heap.size + os.size + 1 + 1, 0, none⟩) 1 1, .slice (some ⟨w.heap.size + os.size + 1 + 1 + 1, 0, none⟩) 1 1] 25)) := ⟨_, rfl⟩
  rw [← hW0]
  have hsz : W0.heap.size = w.heap.size + os.size + 5 := by rw [hW0]; simp [World.drewN]
  have k0 : W0.cell? ⟨w.heap.size + os.size, 0, none⟩ = some (.int .i64 5) := by rw [hW0]; go_simp
  have k1 : W0.cell? ⟨w.heap.size + os.size, 1, none⟩ = some (.int .i64 0) := by rw [hW0]; go_simp
  have k2 : W0.cell? ⟨w.heap.size + os.size, 2, none⟩ = some (.string ⟨#[97, 0]⟩) := by rw [hW0]; go_simp
  have r1 : RowAt W0 (.slice (some ⟨w.heap.size + os.size + 1, 0, none⟩) 1 1) [vI 2] := row1 (by omega) (by rw [hW0]; go_simp; rfl) (by rw [hW0]; go_simp; rfl) (by rw [hW0]; go_simp; rfl) 1
  have r2 : RowAt W0 (.slice (some ⟨w.heap.size + os.size + 1 + 1, 0, none⟩) 1 1) [vI 1] := row1 (by omega) (by rw [hW0]; go_simp; rfl) (by rw [hW0]; go_simp; rfl) (by rw [hW0]; go_simp; rfl) 1
  have r3 : RowAt W0 (.slice (some ⟨w.heap.size + os.size + 1 + 1 + 1, 0, none⟩) 1 1) [vI 2] := row1 (by omega) (by rw [hW0]; go_simp; rfl) (by rw [hW0]; go_simp; rfl) (by rw [hW0]; go_simp; rfl) 1
  have hrows : RowsAt W0 (.slice (some ⟨w.heap.size + os.size + 1 + 1 + 1 + 1, 0, none⟩) 3 3) [[vI 2], [vI 1], [vI 2]] :=
    ⟨_, 3, rfl, by simp, .inr ⟨_, 0, rfl, by omega, fun i hi => by
      obtain rfl | rfl | rfl : i = 0 ∨ i = 1 ∨ i = 2 := by simp at hi; omega
      · exact ⟨_, by rw [hW0]; go_simp, r1⟩
      · exact ⟨_, by rw [hW0]; go_simp, r2⟩
      · exact ⟨_, by rw [hW0]; go_simp, r3⟩⟩⟩
  have hb0 : Below w.heap.size w W0 := by rw [hW0]; exact ((((((Gro.refl w).grown q os).alloc _).alloc _).alloc _).alloc _).alloc _ |>.below
  clear hW0 r1 r2 r3
  refine (set_calls _ _ W0 hrows (by simp)).mono ?_
  rintro e W ⟨v, out, rfl, hset, ⟨xs, hox, hix⟩, hbW⟩
  obtain rfl := hset.unique set_begun (fun _ => Iff.rfl)
  have hox' := hox
  obtain ⟨hxl, hv | ⟨g, cap, cur, rfl, hg, hh, hcap, hm, hs, ht⟩⟩ := hox
  · simp at hv
  obtain ⟨u0, hu0, ho0, _⟩ := hix 0 (by simp)
  obtain ⟨u1, hu1, ho1, _⟩ := hix 1 (by simp)
  have g0 : W.cell? ⟨g, 0, none⟩ = some u0 := (hox'.cellAt 0 (by simp)).trans hu0
  have g1 : W.cell? ⟨g, 1, none⟩ = some u1 := (hox'.cellAt 1 (by simp)).trans hu1
  have hgs : g < W.heap.size := (Array.getElem?_eq_some_iff.1 hh).1
  have hM : w.heap.size + os.size < W0.heap.size := by omega
  have hMW : w.heap.size + os.size < W.heap.size := Nat.lt_of_lt_of_le hM hbW.size
  have q0 := (hbW.cell (p := ⟨w.heap.size + os.size, 0, none⟩) hM).trans k0
  have q1 := (hbW.cell (p := ⟨w.heap.size + os.size, 1, none⟩) hM).trans k1
  have q2 := (hbW.cell (p := ⟨w.heap.size + os.size, 2, none⟩) hM).trans k2
  have hcR : ∀ n os', Calls Try.prog 69 #[u0, u1] (Sort.grow (W.drewN n) os') fun e w' => e = .returned (.int .i64 (-1)) ∧ Gro (Sort.grow (W.drewN n) os') w' := fun n os' => by
    have hbg : Below W.heap.size W (Sort.grow (W.drewN n) os') := ((Gro.refl W).grown n os').below
    exact compareRows_calls u0 u1 [vI 1] [vI 2] _ ((RowAt.of_owned ho0 (by simp)).later hbg) ((RowAt.of_owned ho1 (by simp)).later hbg)
  have hVa : ∀ W, Calls Try.prog 76 #[V.val ⟨5, 0, ⟨#[97, 0]⟩⟩] W fun e w' => e = .returned (.bool true) ∧ Gro W w' := fun W => by rw [← valid_a0]; exact valid_calls _ W
  have hRe : ∀ W, Calls Try.prog 77 #[V.val ⟨5, 0, ⟨#[97, 0]⟩⟩] W fun e w' => e = .returned (.bool true) ∧ Gro W w' := fun W => by rw [← real_a0]; exact real_calls _ W
  have hbw : Below w.heap.size w W := hb0.trans (hbW.mono hb0.size)
  have HCR := Lib.hid hcR
  have HVA := Lib.hid hVa
  have HRE := Lib.hid hRe
  have HBW := Lib.hid hbw
  clear hcR hVa hRe hbw hb0 hbW k0 k1 k2 hsz hrows hset hix hox' hh hcap hm hs ht hu0 ho0 hu1 ho1 hM hxl hg HN
  go_wp2_with fail
  go_quiet_grown (first | (go_at_call 76; refine gro_calls (HVA.out _)) | (go_at_call 77; refine gro_calls (HRE.out _)) | (go_at_call 69; refine gro_calls (HCR.out _ _)))
  go_wp2
  go_ret
  exact ⟨rfl, HBW.out.trans ((((Gro.refl W).grown _ _).below).mono HBW.out.size)⟩
end Go.Proofs.Ytllakifmflploaa
