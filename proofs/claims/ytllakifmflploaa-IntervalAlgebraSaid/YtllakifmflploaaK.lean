/- What the law file's rows leave. -/
import Derived.Test.YtllakifmflploaaKa
import Derived.Test.YtllakifmflploaaT
set_option linter.unusedSimpArgs false
set_option linter.unusedVariables false
namespace Go.Proofs.Ytllakifmflploaa
open Go.RowKit

theorem Owned.far {base b : Nat} {w w' : World} {v : Value} {out : List (List V)} (h : Owned base w v out) (hg : w.grownBy w' (some b)) (hb : b < base) : Owned base w' v out := by
  obtain ⟨xs, h1, h2⟩ := h
  exact ⟨xs, h1.kept hg (own_far h1 hb), fun j hj => let ⟨u, a, b, c⟩ := h2 j hj; ⟨u, a, b.kept hg (own_far b hb), c⟩⟩
theorem Owned.nil (base : Nat) (w : World) : Owned base w (.slice none 0 0) [] := ⟨[], World.ownsRow_nil _ _ _ _, fun j h => absurd h (Nat.not_lt_zero _)⟩
/-- The cells and the length of a list of rows. -/
theorem Owned.shape {base : Nat} {w : World} {v : Value} {out : List (List V)} (h : Owned base w v out) : ∃ a cap, v = .slice a out.length cap ∧ ∀ j (h : j < out.length), ∃ g u, a = some ⟨g, 0, none⟩ ∧ g < w.heap.size ∧ w.cell? ⟨g, j, none⟩ = some u ∧ w.ownsRow base 35 3 u out[j].length (flat out[j]) ∧ out[j].length ≤ 4398046511104 := by
  obtain ⟨xs, h1, h2⟩ := h
  have h0 := h1
  obtain ⟨hx, hv | ⟨g, cap, cur, hv, hg, hh, hcap, hm, hs, ht⟩⟩ := h1
  · obtain ⟨rfl, hn⟩ := hv
    exact ⟨none, 0, by rw [hn], fun j hj => by omega⟩
  · subst hv
    refine ⟨_, cap, rfl, fun j hj => ?_⟩
    obtain ⟨u, k1, k2, k3⟩ := h2 j hj
    exact ⟨g, u, rfl, (Array.getElem?_eq_some_iff.1 hh).1, (h0.cellAt j (by omega)).trans k1, k2, k3⟩

theorem ownsRow_slice {w : World} {base : Nat} {e : TypeId} {size : Nat} {v : Value} {n : Nat} {xs : List Value} (h : w.ownsRow base e size v n xs) : ∃ a cap, v = .slice a n cap := by
  obtain ⟨hx, hv | ⟨g, cap, cur, hv, hg, hh, hcap, hm, hs, ht⟩⟩ := h
  · obtain ⟨rfl, hn⟩ := hv; exact ⟨none, 0, by rw [hn]⟩
  · exact ⟨_, _, hv⟩
def GotRows (b : Nat) (c : CaseId) (w : World) (e : Ending) (w' : World) : Prop :=
  ∃ (v : Value) (rs : List (List V)), e = .returned v ∧ rs.length ≤ 6 ∧ (∀ r ∈ rs, r.length ≤ 2) ∧ Owned w.heap.size w' v rs ∧ CaseAt w' b c ∧ w.grownBy w' (some b)

set_option maxHeartbeats 1000000 in
set_option maxRecDepth 100000 in
theorem rows_calls (b : Nat) (c : CaseId) (w : World) (hc : CaseAt w b c) : Calls Try.prog 13 #[.pointer (some ⟨b, 0, none⟩)] w (GotRows b c w) := by
  obtain ⟨i, hi, hz, hsz, hby⟩ := info_parts info38
  have HC := Lib.hid hc
  have HI := Lib.hid hi
  have HZ := Lib.hid hz
  have HSZ := Lib.hid hsz
  have HBY := Lib.hid hby
  have hb0 : b < w.heap.size := hc.lt
  clear hc hi hz hsz hby
  go_enter Try.func13, Try.ntmps13
  go_wp2_with fail
  refine (int_calls b c 7 (by omega) (by omega) _ HC.out).mono ?_
  rintro e w1 ⟨x, rfl, hx0, hx1, hcs, hby⟩
  have HC1 := Lib.hid hcs
  have HB1 := Lib.hid hby
  clear hcs hby
  obtain ⟨m, rfl⟩ : ∃ m : Nat, x = m := ⟨x.toNat, by omega⟩
  go_wp2_with fail
  go_loopw [3, 4] (fun v i wr => ∃ (k : Nat) (rs : List (List V)), k + rs.length ≤ 6 ∧ i = .int .i64 k ∧ (∀ r ∈ rs, r.length ≤ 2) ∧ Owned w.heap.size wr v rs ∧ CaseAt wr b c ∧ w.grownBy wr (some b)) (fun _ i _ => (intOf i).toNat)
  case atStart => exact ⟨m, [], by simp; omega, rfl, by simp, Owned.nil _ _, HC1.out, HB1.out⟩
  case round =>
    obtain ⟨k, rs, hkr, rfl, hsm, hown, hcr, hbr⟩ := hrel
    have HOW := Lib.hid hown
    have HCR := Lib.hid hcr
    have HBR := Lib.hid hbr
    have HSM := Lib.hid hsm
    clear hown hcr hbr hsm hx0 hx1 HC1 HB1
    by_cases hlt : 0 < k
    · have hlt' : decide ((0 : Int) < (k : Int)) = true := by simp; omega
      have hwj := wrap_pred k hlt (by omega)
      go_wp2_with fail
      refine (int_calls b c 3 (by omega) (by omega) _ HCR.out).mono ?_
      rintro e w2 ⟨y, rfl, hy0, hy1, hcs, hby⟩
      obtain ⟨q, rfl⟩ : ∃ q : Nat, y = q := ⟨y.toNat, by omega⟩
      have HC2 := Lib.hid hcs
      have HB2 := Lib.hid (by_trans HBR.out hby)
      have HO2 := Lib.hid (HOW.out.far hby hb0)
      have hq2 : q ≤ 2 := by omega
      clear hcs hby hy0 hy1 HCR HOW HBR
      go_wp2_with fail
      refine (cells_calls b c q (by omega) _ HC2.out).mono ?_
      rintro e w3 ⟨u, r, rfl, hrl, hur, hcs, hby⟩
      have HC3 := Lib.hid hcs
      have HU3 := Lib.hid (ownsRow_mono hur HB2.out.size)
      have HB3 := Lib.hid (by_trans HB2.out hby)
      have HO3 := Lib.hid (HO2.out.far hby hb0)
      have HRL : Hid (r.length ≤ 2) := by show _ ≤ _; omega
      clear hcs hby hur hrl HC2 HB2 HO2 hq2
      obtain ⟨va, vcap, rfl, hsh⟩ := HO3.out.shape
      have HSH := Lib.hid hsh
      clear hsh
      have hfin : ∀ (u : Value) (r : List V) (w4 : World) (HC : CaseAt w4 b c) (HB : w.grownBy w4 (some b)) (HO : Owned w.heap.size w4 (.slice va rs.length vcap) rs) (HU : w4.ownsRow w.heap.size 35 3 u r.length (flat r)) (HR : r.length ≤ 2) (v' : Value) (w7 : World) (xs : List Value)
          (ho : w4.ownsRow w.heap.size 25 1 (.slice va rs.length vcap) rs.length xs) (hi : ∀ j (h : j < rs.length), ∃ u, xs[j]? = some u ∧ w4.ownsRow w.heap.size 35 3 u rs[j].length (flat rs[j]) ∧ rs[j].length ≤ 4398046511104)
          (ho' : w7.ownsRow w.heap.size 25 1 v' (rs.length + 1) (xs ++ [u])) (hg : (w4.alloc (.cells #[u] 25)).grownBy w7 (Value.slice va rs.length vcap).ownBlock),
          ∃ (k' : Nat) (rs' : List (List V)), k' + rs'.length ≤ 6 ∧ Value.int .i64 ((k : Int) - 1) = .int .i64 k' ∧ (∀ r ∈ rs', r.length ≤ 2) ∧ Owned w.heap.size w7 v' rs' ∧ CaseAt w7 b c ∧ w.grownBy w7 (some b) := fun u r w4 HC4 HB4 HO4 HU4 HR v' w7 xs ho hi ho' hg => by
        have hal := World.grownBy_alloc w4 (.cells #[u] 25)
        refine ⟨k - 1, rs ++ [r], by simp; omega, by congr 1; omega, ?_, ?_, ?_, ?_⟩
        · intro r' hr'
          rcases List.mem_append.1 hr' with h | h
          · exact HSM.out r' h
          · rw [List.mem_singleton.1 h]; exact HR
        · exact Owned.snoc (ho.alloc _) (fun j hj => let ⟨u, a, b, c⟩ := hi j hj; ⟨u, a, b.alloc _, c⟩) (HU4.alloc _) (by omega) ho' hg
        · exact HC.out.kept (HC4.grown (hal none)) hg (fun k hk => (ho.lt k hk).1)
        · exact by_own (by_trans HB4 (hal _)) hg (fun k hk => (ho.lt k hk).1)
      have HF := Lib.hid hfin
      clear hfin
      have hms : intOf (Value.int .i64 ((k : Int) - 1)) = (k : Int) - 1 := rfl
      obtain ⟨ua, ucap, rfl⟩ := ownsRow_slice HU3.out
      by_cases hz : rs = []
      · subst hz
        obtain ⟨xs, hox, hix⟩ := HO3.out
        have HOX := Lib.hid hox
        have HIX := Lib.hid hix
        clear hox hix
        have hln : (0 : Nat) + 1 ≤ 4398046511104 := by omega
        have hbase : w.heap.size ≤ w3.heap.size := HB3.out.size
        go_wp2_with (at_builtin; go_must (refine wpList_append_own _ rfl _ _ 23 rfl w.heap.size 25 i (.slice none 0 0) 1 24 Try.underlying23 HI.out HZ.out HSZ.out HBY.out rfl (by decide) _ 0 xs rfl (HOX.out.alloc _) ⟨w3.heap.size, 0, none⟩ 1 1 [.slice ua r.length ucap] rfl rfl ?c1 ?c2 ?c3 ?c4 ?c5 ?_))
        case c1 => exact cell_one_new _ _ _
        case c2 => intro x hx; simp at hx; subst hx; rfl
        case c3 => unfold maxLen; omega
        case c4 => omega
        case c5 => simp; omega
        intro v' w7 hown' hgrow hnil
        have HOW' := Lib.hid hown'
        have HG7 := Lib.hid hgrow
        clear hown' hgrow hnil
        go_wp2
        go_roundw
        case rel => exact HF.out _ r _ HC3.out HB3.out HO3.out HU3.out HRL.out _ _ xs HOX.out HIX.out HOW'.out HG7.out
        case measure => rw [hms]; simp only [intOf]; omega
      · have hz1 : 0 < rs.length := List.length_pos_iff.2 hz
        have hz' : decide ((0 : Int) < (rs.length : Int)) = true := by simp; omega
        have hln : rs.length + 1 ≤ 4398046511104 := by omega
        clear hz
        go_wp2_with fail
        refine (bool_calls b c _ HC3.out).mono ?_
        rintro e w4 ⟨bb, rfl, hcs, hby⟩
        have HC4 := Lib.hid hcs
        have HB4 := Lib.hid (by_trans HB3.out hby)
        have HO4 := Lib.hid (HO3.out.far hby hb0)
        have HU4 := Lib.hid (HU3.out.kept hby (own_far HU3.out hb0))
        clear hcs hby HC3 HB3 HO3 HU3 HSH
        cases bb
        · obtain ⟨xs, hox, hix⟩ := HO4.out
          have HOX := Lib.hid hox
          have HIX := Lib.hid hix
          clear hox hix
          have hbase : w.heap.size ≤ w4.heap.size := HB4.out.size
          go_wp2_with (at_builtin; go_must (refine wpList_append_own _ rfl _ _ 23 rfl w.heap.size 25 i (.slice none 0 0) 1 24 Try.underlying23 HI.out HZ.out HSZ.out HBY.out rfl (by decide) _ rs.length xs rfl (HOX.out.alloc _) ⟨w4.heap.size, 0, none⟩ 1 1 [.slice ua r.length ucap] rfl rfl ?c1 ?c2 ?c3 ?c4 ?c5 ?_))
          case c1 => exact cell_one_new _ _ _
          case c2 => intro x hx; simp at hx; subst hx; rfl
          case c3 => unfold maxLen; omega
          case c4 => omega
          case c5 => simp; omega
          intro v' w7 hown' hgrow hnil
          have HOW' := Lib.hid hown'
          have HG7 := Lib.hid hgrow
          clear hown' hgrow hnil
          go_wp2
          go_roundw
          case rel => exact HF.out _ r _ HC4.out HB4.out HO4.out HU4.out HRL.out _ _ xs HOX.out HIX.out HOW'.out HG7.out
          case measure => rw [hms]; simp only [intOf]; omega
        · go_wp2_with fail
          refine (int_calls b c rs.length (by omega) (by omega) _ HC4.out).mono ?_
          rintro e w5 ⟨y, rfl, hy0, hy1, hcs, hby⟩
          obtain ⟨y, rfl⟩ : ∃ q : Nat, y = q := ⟨y.toNat, by omega⟩
          have hyl : y < rs.length := by omega
          have HC5 := Lib.hid hcs
          have HB5 := Lib.hid (by_trans HB4.out hby)
          have HO5 := Lib.hid (HO4.out.far hby hb0)
          clear hcs hby HC4 HB4 HO4 HU4 hy0
          obtain ⟨va', vcap', hva, hsh⟩ := HO5.out.shape
          simp only [Value.slice.injEq, true_and] at hva
          obtain ⟨hva, -⟩ := hva
          subst hva
          obtain ⟨g, u', hg0, hg1, hg2, hg3, -⟩ := hsh y hyl
          subst hg0
          obtain ⟨ya, ycap, rfl⟩ := ownsRow_slice hg3
          have HU5 := Lib.hid hg3
          have HR5 := Lib.hid (HSM.out _ (List.getElem_mem hyl))
          generalize rs[y] = ry at HU5 HR5 hg2
          clear hg3 hsh
          obtain ⟨xs, hox, hix⟩ := HO5.out
          have HOX := Lib.hid hox
          have HIX := Lib.hid hix
          clear hox hix
          have hbase : w.heap.size ≤ w5.heap.size := HB5.out.size
          go_wp2_with (at_builtin; go_must (refine wpList_append_own _ rfl _ _ 23 rfl w.heap.size 25 i (.slice none 0 0) 1 24 Try.underlying23 HI.out HZ.out HSZ.out HBY.out rfl (by decide) _ rs.length xs rfl (HOX.out.alloc _) ⟨w5.heap.size, 0, none⟩ 1 1 [.slice ya ry.length ycap] rfl rfl ?c1 ?c2 ?c3 ?c4 ?c5 ?_))
          case c1 => exact cell_one_new _ _ _
          case c2 => intro x hx; simp at hx; subst hx; rfl
          case c3 => unfold maxLen; omega
          case c4 => omega
          case c5 => simp; omega
          intro v' w7 hown' hgrow hnil
          have HOW' := Lib.hid hown'
          have HG7 := Lib.hid hgrow
          clear hown' hgrow hnil
          go_wp2
          go_roundw
          case rel => exact HF.out _ ry _ HC5.out HB5.out HO5.out HU5.out HR5.out _ _ xs HOX.out HIX.out HOW'.out HG7.out
          case measure => rw [hms]; simp only [intOf]; omega
    · obtain rfl : k = 0 := by omega
      go_wp2
      go_ret
      exact ⟨_, rs, rfl, by omega, HSM.out, HOW.out, HCR.out, HBR.out⟩
end Go.Proofs.Ytllakifmflploaa
