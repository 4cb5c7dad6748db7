/- The contracts of the reference's Do, Union, Intersect, Minus, Complement and Covers: those of the program's own. -/
import Derived.Test.YtmjokpakekfkfaaVz
set_option linter.unusedSimpArgs false
set_option linter.unusedVariables false
namespace Go.Proofs.Ytmjokpakekfkfaa
open Go.RowKit

theorem lim_low (a : Option Addr) (n cap : Nat) (hn : n ≤ 64) (w : World) : Calls Try.prog 70 #[.slice a n cap] w fun e w' => e = .returned (.tuple #[.slice a n cap, .int .i64 0]) ∧ Gro w w' := by
  have hd : decide ((64 : Int) < (n : Int)) = false := by simp; omega
  go_enter Try.func70, Try.ntmps70
  go_wp2
  go_ret2
  exact ⟨rfl, Gro.refl _⟩
theorem lim_high (a : Option Addr) (n cap : Nat) (hn : ¬ n ≤ 64) (w : World) : Calls Try.prog 70 #[.slice a n cap] w fun e w' => e = .returned (.tuple #[.slice none 0 0, .int .i64 2]) ∧ Gro w w' := by
  have hd : decide ((64 : Int) < (n : Int)) = true := by simp; omega
  go_enter Try.func70, Try.ntmps70
  go_wp2
  go_ret2
  exact ⟨rfl, Gro.refl _⟩
theorem canon_edges {a b : List I} (h1 : canonB a = true) (h2 : canonB b = true) : a.length ≤ 64 ∧ b.length ≤ 64 ∧ ∀ x ∈ edges (a ++ b), validB x = true := by
  obtain ⟨o1, l1⟩ := canon_ord h1
  obtain ⟨o2, l2⟩ := canon_ord h2
  refine ⟨l1, l2, fun x hx => ?_⟩
  rw [edges_app] at hx
  rcases List.mem_append.1 hx with hx | hx
  · exact (edges_ok o1).2.1 x hx
  · exact (edges_ok o2).2.1 x hx
set_option maxHeartbeats 1000000 in
theorem refDo_calls (op : Int) (f : Bool → Bool → Bool) (hff : f false false = false) (hap : ∀ x y w, Calls Try.prog 57 #[.int .i64 op, .bool x, .bool y] w fun e w' => e = .returned (.bool (f x y)) ∧ Gro w w')
    (va vb : Value) (a b : List I) (w : World) (ha : IvAt w va a) (hb : IvAt w vb b) : Calls Try.prog 49 #[.int .i64 op, va, vb] w (MakeB (doL f a b) (doE f a b) w) := by
  have HA := Lib.hid ha
  have HB := Lib.hid hb
  have HV1 := Lib.hid (fun w' h => refIvalid_calls va a w' h)
  have HV2 := Lib.hid (fun w' h => refIvalid_calls vb b w' h)
  obtain ⟨c1, h1⟩ : ∃ c, canonB a = c := ⟨_, rfl⟩
  obtain ⟨c2, h2⟩ : ∃ c, canonB b = c := ⟨_, rfl⟩
  rw [h1] at HV1
  rw [h2] at HV2
  have H1 := Lib.hid h1
  have H2 := Lib.hid h2
  have HC := Lib.hid (fun w' h h' hla hlb hv => refCombine_calls op f hff hap va vb a b w' h h' hla hlb hv)
  clear ha hb h1 h2 hap
  cases c1
  · have HL : Hid (doL f a b = [] ∧ doE f a b = 30) := by show _ ∧ _; simp [doL, doE, H1.out]
    rw [HL.out.1, HL.out.2]
    go_enter Try.func49, Try.ntmps49
    go_wp2_with fail
    refine (HV1.out _ HA.out).mono ?_
    rintro e w2 ⟨rfl, hg⟩
    have HG := Lib.hid hg
    clear hg
    go_wp2
    go_ret2
    exact makeB_nil rfl HG.out.below
  cases c2
  · have HL : Hid (doL f a b = [] ∧ doE f a b = 30) := by show _ ∧ _; simp [doL, doE, H2.out]
    rw [HL.out.1, HL.out.2]
    go_enter Try.func49, Try.ntmps49
    go_wp2_with fail
    refine (HV1.out _ HA.out).mono ?_
    rintro e w2 ⟨rfl, hg⟩
    have HG := Lib.hid hg
    clear hg
    go_wp2_with fail
    refine (HV2.out _ (HB.out.later HG.out.below)).mono ?_
    rintro e w3 ⟨rfl, hg⟩
    have HG3 := Lib.hid (HG.out.trans hg)
    clear hg
    go_wp2
    go_ret2
    exact makeB_nil rfl HG3.out.below
  obtain ⟨l1, l2, hv⟩ := canon_edges H1.out H2.out
  have HCE := Lib.hid (fun w' h h' => HC.out w' h h' (by omega) (by omega) hv)
  clear hv
  by_cases hl : (combL f a b).length ≤ 64
  · have HL : Hid (doL f a b = combL f a b ∧ doE f a b = 0) := by show _ ∧ _; simp [doL, doE, H1.out, H2.out, hl]
    rw [HL.out.1, HL.out.2]
    have HLL := Lib.hid hl
    go_enter Try.func49, Try.ntmps49
    go_wp2_with fail
    refine (HV1.out _ HA.out).mono ?_
    rintro e w2 ⟨rfl, hg⟩
    have HG := Lib.hid hg
    clear hg
    go_wp2_with fail
    refine (HV2.out _ (HB.out.later HG.out.below)).mono ?_
    rintro e w3 ⟨rfl, hg⟩
    have HG3 := Lib.hid (HG.out.trans hg)
    clear hg
    go_wp2_with fail
    refine (HCE.out _ (HA.out.later HG3.out.below) (HB.out.later HG3.out.below)).mono ?_
    rintro e w4 ⟨v4, rfl, hown, hb4, _, _, _⟩
    have HB4 := Lib.hid (HG3.out.below.trans (hb4.mono HG3.out.size))
    have hiv : IvAt w4 v4 (combL f a b) := OwnI.at_ hown (by omega)
    obtain ⟨a4, k4, rfl⟩ := iv_slice' hiv
    have HIV := Lib.hid hiv
    generalize hn : (combL f a b).length = n at HIV hl ⊢
    have HN := Lib.hid hn
    have HLM := Lib.hid (lim_low a4 n k4 hl w4)
    clear hown hb4 hiv hn hl
    go_wp2_with fail
    refine HLM.out.mono ?_
    rintro e w5 ⟨rfl, hg⟩
    have HG5 := Lib.hid hg
    clear hg
    go_wp2
    go_ret2
    exact makeB_done rfl HN.out (HIV.out.later HG5.out.below) (HB4.out.trans (HG5.out.below.mono HB4.out.size))
  · have HL : Hid (doL f a b = [] ∧ doE f a b = 2) := by show _ ∧ _; simp [doL, doE, H1.out, H2.out, hl]
    rw [HL.out.1, HL.out.2]
    have HLL := Lib.hid hl
    go_enter Try.func49, Try.ntmps49
    go_wp2_with fail
    refine (HV1.out _ HA.out).mono ?_
    rintro e w2 ⟨rfl, hg⟩
    have HG := Lib.hid hg
    clear hg
    go_wp2_with fail
    refine (HV2.out _ (HB.out.later HG.out.below)).mono ?_
    rintro e w3 ⟨rfl, hg⟩
    have HG3 := Lib.hid (HG.out.trans hg)
    clear hg
    go_wp2_with fail
    refine (HCE.out _ (HA.out.later HG3.out.below) (HB.out.later HG3.out.below)).mono ?_
    rintro e w4 ⟨v4, rfl, hown, hb4, _, _, hlen⟩
    have HB4 := Lib.hid (HG3.out.below.trans (hb4.mono HG3.out.size))
    have hiv : IvAt w4 v4 (combL f a b) := OwnI.at_ hown (by omega)
    obtain ⟨a4, k4, rfl⟩ := iv_slice' hiv
    generalize (combL f a b).length = n at hl ⊢
    have HLM := Lib.hid (lim_high a4 n k4 hl w4)
    clear hown hb4 hiv hl hlen
    go_wp2_with fail
    refine HLM.out.mono ?_
    rintro e w5 ⟨rfl, hg⟩
    have HG5 := Lib.hid hg
    clear hg
    go_wp2
    go_ret2
    exact makeB_nil rfl (HB4.out.trans (HG5.out.below.mono HB4.out.size))
set_option maxHeartbeats 1000000 in
theorem refUnion_calls (va vb : Value) (a b : List I) (w : World) (ha : IvAt w va a) (hb : IvAt w vb b) : Calls Try.prog 21 #[va, vb] w (MakeB (doL opOr a b) (doE opOr a b) w) := by
  have HD := Lib.hid (refDo_calls 1 opOr rfl apply_or va vb a b w ha hb)
  generalize doL opOr a b = L0 at HD ⊢
  generalize doE opOr a b = E0 at HD ⊢
  clear ha hb
  go_enter Try.func21, Try.ntmps21
  go_wp2_with fail
  refine HD.out.mono ?_
  rintro e w4 ⟨a4, c4, rfl, hiv, hb4⟩
  have HIV := Lib.hid hiv
  have HB4 := Lib.hid hb4
  generalize hn : L0.length = n at HIV ⊢
  have HN := Lib.hid hn
  clear hiv hb4 hn HD
  go_wp2
  go_ret2
  exact makeB_done rfl HN.out HIV.out HB4.out
set_option maxHeartbeats 1000000 in
theorem refIntersect_calls (va vb : Value) (a b : List I) (w : World) (ha : IvAt w va a) (hb : IvAt w vb b) : Calls Try.prog 23 #[va, vb] w (MakeB (doL opAnd a b) (doE opAnd a b) w) := by
  have HD := Lib.hid (refDo_calls 2 opAnd rfl apply_and va vb a b w ha hb)
  generalize doL opAnd a b = L0 at HD ⊢
  generalize doE opAnd a b = E0 at HD ⊢
  clear ha hb
  go_enter Try.func23, Try.ntmps23
  go_wp2_with fail
  refine HD.out.mono ?_
  rintro e w4 ⟨a4, c4, rfl, hiv, hb4⟩
  have HIV := Lib.hid hiv
  have HB4 := Lib.hid hb4
  generalize hn : L0.length = n at HIV ⊢
  have HN := Lib.hid hn
  clear hiv hb4 hn HD
  go_wp2
  go_ret2
  exact makeB_done rfl HN.out HIV.out HB4.out
set_option maxHeartbeats 1000000 in
theorem refMinus_calls (va vb : Value) (a b : List I) (w : World) (ha : IvAt w va a) (hb : IvAt w vb b) : Calls Try.prog 25 #[va, vb] w (MakeB (doL opNot a b) (doE opNot a b) w) := by
  have HD := Lib.hid (refDo_calls 3 opNot rfl apply_not va vb a b w ha hb)
  generalize doL opNot a b = L0 at HD ⊢
  generalize doE opNot a b = E0 at HD ⊢
  clear ha hb
  go_enter Try.func25, Try.ntmps25
  go_wp2_with fail
  refine HD.out.mono ?_
  rintro e w4 ⟨a4, c4, rfl, hiv, hb4⟩
  have HIV := Lib.hid hiv
  have HB4 := Lib.hid hb4
  generalize hn : L0.length = n at HIV ⊢
  have HN := Lib.hid hn
  clear hiv hb4 hn HD
  go_wp2
  go_ret2
  exact makeB_done rfl HN.out HIV.out HB4.out
set_option maxHeartbeats 1000000 in
theorem refComplement_calls (va : Value) (a : List I) (w : World) (ha : IvAt w va a) : Calls Try.prog 18 #[va] w (MakeB (doL opNot allL a) (doE opNot allL a) w) := by
  have HA := Lib.hid ha
  have HAL := Lib.hid (refAll_calls w)
  have HM := Lib.hid (fun (vb : Value) (w' : World) (h1 : IvAt w' vb allL) (h2 : IvAt w' va a) => refDo_calls 3 opNot rfl apply_not vb va allL a w' h1 h2)
  obtain ⟨L0, hL0⟩ : ∃ L0, doL opNot allL a = L0 := ⟨_, rfl⟩
  rw [hL0] at HM ⊢
  generalize doE opNot allL a = E0 at HM ⊢
  clear ha hL0
  go_enter Try.func18, Try.ntmps18
  go_wp2_with fail
  refine HAL.out.mono ?_
  rintro e w2 ⟨b2, rfl, hiv, hg⟩
  have HG := Lib.hid hg.below
  have HM2 := Lib.hid (HM.out _ w2 hiv (HA.out.later hg.below))
  clear hiv hg HM HAL
  go_wp2_with fail
  refine HM2.out.mono ?_
  rintro e w4 ⟨a4, c4, rfl, hiv, hb4⟩
  have HIV := Lib.hid hiv
  have HB4 := Lib.hid (HG.out.trans (hb4.mono HG.out.size))
  generalize hn : L0.length = n at HIV ⊢
  have HN := Lib.hid hn
  clear hiv hb4 hn HM2
  go_wp2
  go_ret2
  exact makeB_done rfl HN.out HIV.out HB4.out
end Go.Proofs.Ytmjokpakekfkfaa
