/- The contract of the laws' sanity check. -/
import Derived.Test.YtpmlhgakbpfgmaaDoorZf
import Derived.Test.YtpmlhgakbpfgmaaDoorZm
set_option linter.unusedSimpArgs false
set_option linter.unusedVariables false
namespace Go.Proofs.YtpmlhgakbpfgmaaDoor
open Go.RowKit

def bId : ByteArray := ⟨#[105, 100]⟩
def bOwner : ByteArray := ⟨#[111, 119, 110, 101, 114]⟩
def bT : ByteArray := ⟨#[116]⟩
def bU : ByteArray := ⟨#[117]⟩
def tab0 : Tab := ⟨bT, 1, [⟨bId, 4⟩, ⟨bOwner, 5⟩], [], []⟩
theorem name_of {s : ByteArray} (n : Nat) (hn : s.size = n) (h1 : 1 ≤ n) (h2 : n ≤ 32) (h : ∀ i : Fin n, nameC i.1 (s[i.1]'(by rw [hn]; exact i.2)).toNat = true) : nameB s = true :=
  nameB_true ⟨by omega, by omega, fun i hi _ => h ⟨i, by omega⟩⟩
theorem name_id : nameB bId = true := name_of 2 rfl (by omega) (by omega) (by decide)
theorem name_owner : nameB bOwner = true := name_of 5 rfl (by omega) (by omega) (by decide)
theorem name_t : nameB bT = true := name_of 1 rfl (by omega) (by omega) (by decide)
theorem inB_none {s : ByteArray} {l : List ByteArray} (h : s ∉ l) : inB s l = false := by unfold inB; simpa using h
theorem check0 : checkS 0 [tab0] = 0 := by
  unfold checkS
  have h1 : [tab0].any largeT = false := by decide
  have h2 : validS 0 [tab0] = true := by
    unfold validS
    have a1 : namesB [] ([tab0].map Tab.name) = true := by
      show (nameB bT && !inB bT [] && namesB [bT] []) = true
      rw [name_t, inB_nil]; rfl
    have a2 : namesB [] (tab0.cols.map Col.n) = true := by
      show (nameB bId && !inB bId [] && (nameB bOwner && !inB bOwner [bId] && namesB [bOwner, bId] [])) = true
      rw [name_id, name_owner, inB_nil, inB_none (by simp [bId, bOwner])]; rfl
    have a3 : tabOk [tab0] 0 = true := by
      unfold tabOk validColsT
      rw [show tabOf [tab0] (0 : Nat) = tab0 from rfl, a2]; decide
    rw [a1]
    show (true && true && true && (tabOk [tab0] 0 && true)) = true
    rw [a3]; rfl
  have h3 : condE [tab0] = 0 := by
    unfold condE condsE; rfl
  rw [h1, h2, h3]; rfl
theorem sameB_data (s t : ByteArray) : sameB s t = (s.data.toList == t.data.toList) := by unfold sameB; rw [ByteArray.toList_eq, ByteArray.toList_eq]
theorem find0 : findS [tab0] bT = 0 := by
  show (if sameB bT bT then (0 : Int) else -1) = 0
  rw [sameB_data]; decide
theorem find1 : findS [tab0] bU = -1 := by
  show (if sameB bT bU then (0 : Int) else -1) = -1
  rw [sameB_data]; decide
theorem fits0 : fitsS [tab0] 0 2 [⟨4, 1, ⟨#[]⟩⟩, ⟨2, 0, ⟨#[]⟩⟩] = true := by
  simp [fitsS, fitsT, cellFits, inTabs, modeB, tabOf, tab0, validB, validP, lackB, List.range_succ, data_empty]
theorem fits1 : fitsS [tab0] 0 3 [⟨2, 0, ⟨#[]⟩⟩, ⟨4, 1, ⟨#[]⟩⟩] = false := by
  simp [fitsS, fitsT, cellFits, inTabs, modeB, tabOf, tab0, validB, validP, lackB, List.range_succ, data_empty]
theorem fits2 : fitsS [tab0] 0 3 [⟨4, 1, ⟨#[]⟩⟩, ⟨1, 0, ⟨#[]⟩⟩] = true := by
  simp [fitsS, fitsT, cellFits, inTabs, modeB, tabOf, tab0, validB, validP, lackB, List.range_succ, data_empty]
theorem row2_at (w : World) (x y : V) (T : TypeId) : RowAt (w.alloc (.cells #[.int .i64 x.k, .int .i64 x.n, .string x.t, .int .i64 y.k, .int .i64 y.n, .string y.t] T)) (.slice (some ⟨w.heap.size, 0, none⟩) 2 2) [x, y] := by
  refine ⟨_, 2, rfl, by simp, .inr ⟨w.heap.size, 0, rfl, by simp, fun i hi => ?_⟩⟩
  obtain rfl | rfl : i = 0 ∨ i = 1 := by simp at hi; omega
  · exact ⟨by go_simp, by go_simp, by go_simp⟩
  · exact ⟨by go_simp, by go_simp, by go_simp⟩
/-- The six blocks of the sanity check. -/
def begunW (w : World) : World :=
  (((((w.alloc (.cells #[.string ⟨#[105, 100]⟩, .int .i64 4, .string ⟨#[111, 119, 110, 101, 114]⟩, .int .i64 5] 46)).alloc (.cells #[.string ⟨#[116]⟩, .slice (some ⟨w.heap.size, 0, none⟩) 2 2, .int .i64 1, .slice none 0 0, .slice none 0 0] 52)).alloc
    (.cells #[.int .i64 0, .slice (some ⟨w.heap.size + 1, 0, none⟩) 1 1] 25)).alloc (.cells #[.int .i64 4, .int .i64 1, .string ⟨#[]⟩] 56)).alloc (.cells #[.int .i64 2, .int .i64 0, .string ⟨#[]⟩] 56)).alloc (.cells #[.int .i64 1, .int .i64 0, .string ⟨#[]⟩] 56)
theorem begunW_gro (w : World) : Gro w (begunW w) := ((((((Gro.refl w).alloc _).alloc _).alloc _).alloc _).alloc _).alloc _
theorem begunW_tabs (w : World) : TabsAt true 1 (fun _ => True) (fun _ => True) (begunW w) (.slice (some ⟨w.heap.size + 1, 0, none⟩) 1 1) [tab0] := by
  refine ⟨_, 1, rfl, by simp, .inr ⟨w.heap.size + 1, 0, rfl, by simp [begunW] <;> omega, trivial, fun i hi => ?_⟩⟩
  obtain rfl : i = 0 := by simp at hi; omega
  refine ⟨some ⟨w.heap.size, 0, none⟩, 2, none, 0, 0, none, 0, 0, ⟨?_, ?_, ?_, ?_, ?_⟩, ?_, fun _ => RefsAt.nil none 0, fun _ => PrIn.nil 1 none 0⟩
  · unfold begunW; go_simp; rfl
  · unfold begunW; go_simp; rfl
  · unfold begunW; go_simp; rfl
  · unfold begunW; go_simp
  · unfold begunW; go_simp
  · refine ⟨_, 2, rfl, by show 2 ≤ _; omega, by show 2 ≤ 2; omega, .inr ⟨w.heap.size, 0, rfl, by simp [begunW] <;> omega, trivial, fun j hj => ?_⟩⟩
    obtain rfl | rfl : j = 0 ∨ j = 1 := by have : j < 2 := hj; omega
    · exact ⟨by unfold begunW; go_simp; rfl, by unfold begunW; go_simp; rfl⟩
    · exact ⟨by unfold begunW; go_simp; rfl, by unfold begunW; go_simp; rfl⟩
structure BegunBoxes (w : World) (g : Nat) : Prop where
  s : SBox w (g + 1 + 1) 0 (some ⟨g + 1, 0, none⟩) 1 1
  n : Box w (g + 1 + 1 + 1) ⟨4, 1, ⟨#[]⟩⟩
  h : Box w (g + 1 + 1 + 1 + 1) ⟨2, 0, ⟨#[]⟩⟩
  m : Box w (g + 1 + 1 + 1 + 1 + 1) ⟨1, 0, ⟨#[]⟩⟩
theorem BegunBoxes.later {w w' : World} {g : Nat} (h : BegunBoxes w g) (hw : Below w.heap.size w w') : BegunBoxes w' g := ⟨h.s.later hw, h.n.later hw, h.h.later hw, h.m.later hw⟩
theorem begunW_boxes (w : World) : BegunBoxes (begunW w) w.heap.size := by
  refine ⟨⟨by simp [begunW] <;> omega, by unfold begunW; go_simp, by unfold begunW; go_simp⟩, ⟨by simp [begunW] <;> omega, by unfold begunW; go_simp, by unfold begunW; go_simp, by unfold begunW; go_simp⟩, ⟨by simp [begunW] <;> omega, by unfold begunW; go_simp, by unfold begunW; go_simp, by unfold begunW; go_simp⟩, ⟨by simp [begunW] <;> omega, by unfold begunW; go_simp, by unfold begunW; go_simp, by unfold begunW; go_simp⟩⟩
set_option maxHeartbeats 4000000 in
set_option maxRecDepth 100000 in
theorem begun7_calls (w : World) (hs : Shapes w) : Calls Tryd.prog 18 #[] w fun e w' => e = .returned (.bool true) ∧ Gro w w' := by
  have HBX := Lib.hid (begunW_boxes w)
  have HG := Lib.hid (begunW_gro w)
  have HTS := Lib.hid (begunW_tabs w)
  have HSH := Lib.hid (hs.later HG.out.below)
  have HW : Hid (begunW w = _) := rfl
  unfold begunW at HW
  have HW' : Hid (_ = begunW w) := HW.out.symm
  obtain ⟨W, hW⟩ : ∃ W, begunW w = W := ⟨_, rfl⟩
  rw [hW] at HBX HG HTS HSH
  have HWN := Lib.hid hW
  clear hW hs HW
  have HCK : Hid (∀ w', Gro W w' → Calls Tryd.prog 30 #[.agg #[.int .i64 0, .slice (some ⟨w.heap.size + 1, 0, none⟩) 1 1]] w' (IntG 0 w')) := fun w' h => by
    have := sCheck_calls 0 (fun _ => True) (fun _ => True) 0 _ [tab0] w' (HSH.out.later h.below) (HTS.out.later h.below)
    rwa [check0] at this
  have HF0 : Hid (∀ w', Gro W w' → Calls Tryd.prog 16 #[.agg #[.int .i64 0, .slice (some ⟨w.heap.size + 1, 0, none⟩) 1 1], .string ⟨#[116]⟩] w' (IntG 0 w')) := fun w' h => by
    have := sFind_calls true 1 (fun _ => True) (fun _ => True) 0 _ [tab0] bT w' (HTS.out.later h.below)
    rwa [find0] at this
  have HF1 : Hid (∀ w', Gro W w' → Calls Tryd.prog 16 #[.agg #[.int .i64 0, .slice (some ⟨w.heap.size + 1, 0, none⟩) 1 1], .string ⟨#[117]⟩] w' (IntG (-1) w')) := fun w' h => by
    have := sFind_calls true 1 (fun _ => True) (fun _ => True) 0 _ [tab0] bU w' (HTS.out.later h.below)
    rwa [find1] at this
  have HT0 : Hid (∀ w' vr, Gro W w' → RowAt w' vr [⟨4, 1, ⟨#[]⟩⟩, ⟨2, 0, ⟨#[]⟩⟩] → Calls Tryd.prog 31 #[.agg #[.int .i64 0, .slice (some ⟨w.heap.size + 1, 0, none⟩) 1 1], .int .i64 0, vr, .int .i64 2] w' (BoolG true w')) := fun w' vr h hr => by
    have := fits_calls true 1 (fun _ => True) (fun _ => True) 0 _ [tab0] 0 2 vr _ w' (HTS.out.later h.below) hr
    rwa [fits0] at this
  have HT1 : Hid (∀ w' vr, Gro W w' → RowAt w' vr [⟨2, 0, ⟨#[]⟩⟩, ⟨4, 1, ⟨#[]⟩⟩] → Calls Tryd.prog 31 #[.agg #[.int .i64 0, .slice (some ⟨w.heap.size + 1, 0, none⟩) 1 1], .int .i64 0, vr, .int .i64 3] w' (BoolG false w')) := fun w' vr h hr => by
    have := fits_calls true 1 (fun _ => True) (fun _ => True) 0 _ [tab0] 0 3 vr _ w' (HTS.out.later h.below) hr
    rwa [fits1] at this
  have HT2 : Hid (∀ w' vr, Gro W w' → RowAt w' vr [⟨4, 1, ⟨#[]⟩⟩, ⟨1, 0, ⟨#[]⟩⟩] → Calls Tryd.prog 31 #[.agg #[.int .i64 0, .slice (some ⟨w.heap.size + 1, 0, none⟩) 1 1], .int .i64 0, vr, .int .i64 3] w' (BoolG true w')) := fun w' vr h hr => by
    have := fits_calls true 1 (fun _ => True) (fun _ => True) 0 _ [tab0] 0 3 vr _ w' (HTS.out.later h.below) hr
    rwa [fits2] at this
  go_enter Tryd.func18, Tryd.ntmps18
  go_upto_region 3 with fail
  rw [HW'.out, HWN.out]
  clear HW' HWN
  obtain ⟨⟨sl, s0, s1⟩, hn, hh, hm⟩ := HBX.out
  clear hn hh hm
  generalize w.heap.size = g at *
  go_wp2_with fail
  refine (HCK.out _ (Gro.refl _)).mono ?_
  rintro e w2 ⟨rfl, hg2⟩
  have HG2 := Lib.hid hg2
  clear hg2 sl s0 s1
  obtain ⟨⟨sl, s0, s1⟩, hn, hh, hm⟩ := HBX.out.later HG2.out.below
  clear hn hh hm
  go_wp2_with fail
  refine (HF0.out _ HG2.out).mono ?_
  rintro e w3 ⟨rfl, hg3⟩
  have HG3 := Lib.hid (HG2.out.trans hg3)
  clear hg3 sl s0 s1
  obtain ⟨⟨sl, s0, s1⟩, hn, hh, hm⟩ := HBX.out.later HG3.out.below
  clear hn hh hm
  go_wp2_with fail
  refine (HF1.out _ HG3.out).mono ?_
  rintro e w4 ⟨rfl, hg4⟩
  have HG4 := Lib.hid (HG3.out.trans hg4)
  clear hg4 sl s0 s1
  obtain ⟨⟨sl, s0, s1⟩, hn, hh, hm⟩ := HBX.out.later HG4.out.below
  obtain ⟨n0, n1, n2, n3⟩ := hn.cells
  obtain ⟨h0, h1, h2, h3⟩ := hh.cells
  clear hn hh hm
  go_wp2_with fail
  refine (HT0.out _ _ (HG4.out.alloc _) (row2_at w4 ⟨4, 1, ⟨#[]⟩⟩ ⟨2, 0, ⟨#[]⟩⟩ _)).mono ?_
  rintro e w5 ⟨rfl, hg5⟩
  have HG5 := Lib.hid ((HG4.out.alloc _).trans hg5)
  clear hg5 sl s0 s1 n0 n1 n2 n3 h0 h1 h2 h3
  obtain ⟨⟨sl, s0, s1⟩, hn, hh, hm⟩ := HBX.out.later HG5.out.below
  obtain ⟨n0, n1, n2, n3⟩ := hn.cells
  obtain ⟨h0, h1, h2, h3⟩ := hh.cells
  clear hn hh hm
  go_wp2_with fail
  refine (HT1.out _ _ (HG5.out.alloc _) (row2_at w5 ⟨2, 0, ⟨#[]⟩⟩ ⟨4, 1, ⟨#[]⟩⟩ _)).mono ?_
  rintro e w6 ⟨rfl, hg6⟩
  have HG6 := Lib.hid ((HG5.out.alloc _).trans hg6)
  clear hg6 sl s0 s1 n0 n1 n2 n3 h0 h1 h2 h3
  obtain ⟨⟨sl, s0, s1⟩, hn, hh, hm⟩ := HBX.out.later HG6.out.below
  obtain ⟨n0, n1, n2, n3⟩ := hn.cells
  obtain ⟨h0, h1, h2, h3⟩ := hm.cells
  clear hn hh hm
  go_wp2_with fail
  refine (HT2.out _ _ (HG6.out.alloc _) (row2_at w6 ⟨4, 1, ⟨#[]⟩⟩ ⟨1, 0, ⟨#[]⟩⟩ _)).mono ?_
  rintro e w7 ⟨rfl, hg7⟩
  have HG7 := Lib.hid ((HG6.out.alloc _).trans hg7)
  clear hg7 sl s0 s1 n0 n1 n2 n3 h0 h1 h2 h3
  go_wp2
  go_ret
  exact ⟨rfl, HG.out.trans HG7.out⟩
end Go.Proofs.YtpmlhgakbpfgmaaDoor
