/- The contract of predicate.Columns. -/
import Derived.Test.YtndnlmpmloiiiaaDoorPw
import Derived.Test.YtndnlmpmloiiiaaDoorShelf
import Derived.Lib.OwnBridge
import Derived.Sort.OwnSortedInts
set_option linter.unusedSimpArgs false
set_option linter.unusedVariables false
namespace Go.Proofs.YtndnlmpmloiiiaaDoor
open Go.RowKit

def sortedI (l : List Int) : List Int := l.mergeSort fun x y => decide (x ≤ y)
/-- What predicate.Columns answers. -/
def colsV (p : Pr) : List Int := Lib.compact (sortedI (colsP p))
def ColOut (L : List Int) (w : World) (e : Ending) (w' : World) : Prop := ∃ v, e = .returned v ∧ Below w.heap.size w w' ∧ IntsAt (fun g => w.heap.size ≤ g) w' v L
theorem sortedI_length (l : List Int) : (sortedI l).length = l.length := by unfold sortedI; rw [List.length_mergeSort]
theorem compact_length (l : List Int) : (Lib.compact l).length ≤ l.length := by
  unfold Lib.compact Lib.compactUpTo
  rw [List.length_map]
  exact Nat.le_trans (List.length_filter_le _ _) (by simp)
theorem ints_of_holds {w : World} {g n : Nat} {L : List Int} {Z : List Int} {S : Nat → Prop} (cap : Nat) (h : Go.Sort.Holds (Value.int .i64) w g 0 (L ++ Z).toArray) (hn : n = L.length) (hl : L.length ≤ 4398046511104) (hb : g < w.heap.size) (hS : S g) : IntsAt S w (.slice (some ⟨g, 0, none⟩) n cap) L := by
  subst hn
  refine ⟨_, cap, rfl, by omega, .inr ⟨g, 0, rfl, hb, hS, fun i hi => ?_⟩⟩
  have h1 := (h i (by simp; omega)).1
  rw [h1, getElem!_pos _ i (by simp; omega)]
  simp [hi]
theorem put_by {w : World} {g n : Nat} (d : Array Int) : w.grownBy (Go.Sort.putRow (Value.int .i64) (Go.Sort.ahead w n) g 0 d) (some g) := by
  have h := grownBy_sortedI (w := w) (g := g) (n := n) (os := #[]) d
  have e : Go.Sort.grow (Go.Sort.putRow (Value.int .i64) (Go.Sort.ahead w n) g 0 d) #[] = Go.Sort.putRow (Value.int .i64) (Go.Sort.ahead w n) g 0 d := by
    unfold Go.Sort.grow
    rw [Array.append_empty]
  rwa [e] at h
set_option maxHeartbeats 4000000 in
set_option maxRecDepth 100000 in
theorem columns_calls (S : Nat → Prop) (k : Nat) (p : Pr) (s : Value) (w : World) (hp : PrIn S w k s p.args) (hlen : (colsP p).length ≤ 4398046511104) : Calls Tryd.prog 22 #[p.val s] w (ColOut (colsV p) w) := by
  obtain ⟨sa, sc, rfl, hsl⟩ := hp.shape
  obtain ⟨W, hW⟩ : ∃ W, W = w.alloc (pBlock p (.slice sa p.args.length sc) 29) := ⟨_, rfl⟩
  have hg : Gro w W := by rw [hW]; exact (Gro.refl w).alloc _
  have HWS : Hid (W.heap.size = w.heap.size + 1) := by show _ = _; rw [hW]; simp
  have hpW : PrIn (fun g => g < W.heap.size) W k (.slice sa p.args.length sc) p.args := (hp.later hg.below).mono fun b hb _ => hb
  have HA := Lib.hid (app_at W.heap.size k p (.slice sa p.args.length sc) (.slice none 0 0) [] W hpW (Nat.le_refl _) (World.ownsRow_nil _ _ _ _) (by simpa using hlen))
  have HG := Lib.hid hg
  have HW := Lib.hid hW
  have HLEN := Lib.hid hlen
  clear hp hg hW hlen hpW
  obtain ⟨C, hC⟩ : ∃ C, colsP p = C := ⟨_, rfl⟩
  have HCV : Hid (colsV p = Lib.compact (sortedI C)) := by show _ = _; unfold colsV; rw [hC]
  rw [HCV.out]
  rw [List.nil_append, hC] at HA
  rw [hC] at HLEN
  clear HCV hC
  obtain ⟨op, cmp, ⟨lk, li, ⟨lvk, lvn, lvt⟩⟩, ⟨rk, ri, ⟨rvk, rvn, rvt⟩⟩, args⟩ := p
  replace HW : Hid (W = w.alloc (.cells #[.int .i64 op, .int .i64 cmp, .int .i64 lk, .int .i64 li, .int .i64 lvk, .int .i64 lvn, .string lvt, .int .i64 rk, .int .i64 ri, .int .i64 rvk, .int .i64 rvn, .string rvt, .slice sa args.length sc] 29)) := HW.out
  replace HA : Hid (Calls Tryd.prog 48 #[.slice none 0 0, .agg #[.int .i64 op, .int .i64 cmp, .int .i64 lk, .int .i64 li, .int .i64 lvk, .int .i64 lvn, .string lvt, .int .i64 rk, .int .i64 ri, .int .i64 rvk, .int .i64 rvn, .string rvt, .slice sa args.length sc]] W (AppOut W.heap.size C (.slice none 0 0) W)) := HA.out
  show Calls _ _ #[.agg #[.int .i64 op, .int .i64 cmp, .int .i64 lk, .int .i64 li, .int .i64 lvk, .int .i64 lvn, .string lvt, .int .i64 rk, .int .i64 ri, .int .i64 rvk, .int .i64 rvn, .string rvt, .slice sa args.length sc]] _ _
  go_enter Tryd.func22, Tryd.ntmps22
  go_wp2_with fail
  rw [← HW.out]
  refine HA.out.mono ?_
  rintro e w1 ⟨v1, rfl, ho1, hg1, -⟩
  have hb1 : Below w.heap.size w w1 := HG.out.below.trans (((Below.refl _ _).grown hg1 (Nat.le_refl _) (fun k hk => by cases hk)).mono HG.out.size)
  have HB1 := Lib.hid hb1
  by_cases hv : v1 = .slice none 0 0
  · subst hv
    have HX : Hid (C = []) := by
      show _ = _
      obtain ⟨hx, ⟨-, hn⟩ | ⟨g, cap, cur, hv, _⟩⟩ := ho1
      · exact List.length_eq_zero_iff.1 hn
      · cases hv
    have HX2 : Hid (Lib.compact (sortedI C) = []) := by show _ = _; rw [HX.out]; exact List.length_eq_zero_iff.1 (Nat.le_zero.1 (Nat.le_trans (compact_length _) (by rw [sortedI_length]; simp)))
    have HS := Lib.hid (Any.slices_Sort_int_none Tryd.sortI none 0 w1)
    have HC := Lib.hid (Any.slices_Compact_int_empty Tryd.compactI none 0 w1)
    replace HS : Hid (Calls Tryd.prog 49 #[.slice none 0 0] w1 fun e w' => e = .returned (.tuple #[]) ∧ w' = w1) := HS.out
    replace HC : Hid (Calls Tryd.prog 50 #[.slice none 0 0] w1 fun e w' => e = .returned (.slice none 0 0) ∧ w' = w1) := HC.out
    clear ho1 hg1 hb1 HLEN HA
    go_wp2_with fail
    refine HS.out.mono ?_
    rintro e w2 ⟨rfl, rfl⟩
    go_wp2_with fail
    refine HC.out.mono ?_
    rintro e w3 ⟨rfl, rfl⟩
    go_wp2
    go_ret
    exact ⟨_, rfl, HB1.out, by rw [HX2.out]; exact IntsAt.nil none 0⟩
  · obtain ⟨g, cap, rfl, hbg, hgl, hncap, hcm, hlenC, hH⟩ := Lib.holds_of_ownsRow ho1 hv
    have hs := Any.slices_Sort_int Tryd.sortI g 0 cap C w1 hH hgl (by have := HLEN.out; omega)
    have HS : Hid (Calls Tryd.prog 49 #[.slice (some ⟨g, 0, none⟩) C.length cap] w1 fun e w' => e = .returned (.tuple #[]) ∧ ∃ n os, w' = Go.Sort.grow (Go.Sort.putRow (Value.int .i64) (Go.Sort.ahead w1 n) g 0 (sortedI C).toArray) os) := hs
    have HH := Lib.hid hH
    have HGL := Lib.hid (And.intro hbg (And.intro hgl hncap))
    obtain ⟨N, hN⟩ : ∃ N, C.length = N := ⟨_, rfl⟩
    have HN := Lib.hid hN
    rw [hN] at HS ⊢
    clear ho1 hg1 hb1 HA hv hs hH hbg hgl hncap hcm hlenC hN
    go_wp2_with fail
    refine HS.out.mono ?_
    rintro e w2 ⟨rfl, nn, os, hw2⟩
    have hH2 : Go.Sort.Holds (Value.int .i64) w2 g 0 (sortedI C).toArray := by
      subst hw2
      exact Go.Sort.holds_grow _ _ os g 0 _ (by have := HGL.out.2.1; simpa [Go.Sort.putRow, Go.Sort.mapBlock, Go.Sort.ahead] using this) (Go.Sort.holds_putRow _ _ g 0 _ _ (Go.Sort.holds_ahead _ w1 nn g 0 _ HH.out) (by simp [sortedI_length]))
    have hg2 : w1.grownBy w2 (some g) := by subst hw2; exact grownBy_sortedI _
    have hgW : w.heap.size ≤ g := by have := HGL.out.1; have := HWS.out; omega
    have hb2 : Below w.heap.size w w2 := HB1.out.grown hg2 HB1.out.size (fun j hj => by cases hj; exact hgW)
    have hg2l : g < w2.heap.size := Nat.lt_of_lt_of_le HGL.out.2.1 hg2.size
    have hc := Any.slices_Compact_int Tryd.compactI g 0 cap (sortedI C) w2 hH2 (by rw [sortedI_length]; have := HLEN.out; omega) (by rw [sortedI_length]; exact HGL.out.2.2)
    rw [sortedI_length, HN.out] at hc
    have HC : Hid (Calls Tryd.prog 50 #[.slice (some ⟨g, 0, none⟩) N cap] w2 fun e w' => e = .returned (.slice (some ⟨g, 0, none⟩) (Lib.compact (sortedI C)).length cap) ∧ ∃ q, w' = Go.Sort.putRow (Value.int .i64) (Go.Sort.ahead w2 q) g 0 (Lib.compact (sortedI C) ++ List.replicate (N - (Lib.compact (sortedI C)).length) 0).toArray) := hc
    have HH2 := Lib.hid hH2
    have HB2 := Lib.hid hb2
    have HGW := Lib.hid (And.intro hgW hg2l)
    have HCL : Hid ((Lib.compact (sortedI C)).length ≤ N) := by show _ ≤ _; have := compact_length (sortedI C); rw [sortedI_length, HN.out] at this; exact this
    clear hw2 hH2 hg2 hgW hb2 hg2l hc
    obtain ⟨D, hD⟩ : ∃ D, Lib.compact (sortedI C) = D := ⟨_, rfl⟩
    rw [hD] at HC HCL
    have HDD := Lib.hid hD
    have HDL : Hid (D.length ≤ 4398046511104) := by show _ ≤ _; have := HCL.out; have := HLEN.out; have := HN.out; omega
    clear hD
    go_wp2_with fail
    refine HC.out.mono ?_
    rintro e w3 ⟨rfl, qq, hw3⟩
    have hg3 : w2.grownBy w3 (some g) := by subst hw3; exact put_by _
    have hH3 : Go.Sort.Holds (Value.int .i64) w3 g 0 (D ++ List.replicate (N - D.length) 0).toArray := by
      subst hw3
      exact Go.Sort.holds_putRow _ _ g 0 _ _ (Go.Sort.holds_ahead _ w2 qq g 0 _ HH2.out) (by have := HCL.out; have := HN.out; simp [sortedI_length]; omega)
    have HF : Hid (ColOut (Lib.compact (sortedI C)) w (.returned (.slice (some ⟨g, 0, none⟩) D.length cap)) w3) := by
      show ColOut _ _ _ _
      rw [HDD.out]
      exact ⟨_, rfl, HB2.out.grown hg3 HB2.out.size (fun j hj => by cases hj; exact HGW.out.1), ints_of_holds cap hH3 rfl HDL.out (Nat.lt_of_lt_of_le HGW.out.2 hg3.size) HGW.out.1⟩
    clear hw3 hg3 hH3
    go_wp2
    go_ret
    exact HF.out
end Go.Proofs.YtndnlmpmloiiiaaDoor
