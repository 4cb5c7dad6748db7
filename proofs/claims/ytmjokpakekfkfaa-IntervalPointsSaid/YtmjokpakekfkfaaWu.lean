/- The contract of the reference's Set. -/
import Derived.Test.YtmjokpakekfkfaaWs
import Derived.Test.YtmjokpakekfkfaaP
set_option linter.unusedSimpArgs false
set_option linter.unusedVariables false
namespace Go.Proofs.Ytmjokpakekfkfaa
open Go.RowKit

theorem dd_last {s : List (List V)} : ∀ k, 0 < k → ∃ L, dd s k = L ++ [s.getD (k - 1) []] := by
  intro k
  induction k with
  | zero => intro h; omega
  | succ k ih =>
    intro _
    by_cases h0 : k = 0
    · subst h0; exact ⟨[], by rw [dd_first]; rfl⟩
    by_cases e : cmpR (s.getD (k - 1) []) (s.getD k []) = 0
    · obtain ⟨L, hL⟩ := ih (by omega)
      rw [dd_old h0 e, Nat.add_sub_cancel]
      exact ⟨L, by rw [hL, (goodR.zero _ _).1 e]⟩
    · exact ⟨dd s k, by rw [dd_new e, Nat.add_sub_cancel]⟩
theorem one_cell (w : World) (T : TypeId) (x : Value) : ∀ j u, [x][j]? = some u → (w.alloc (.cells #[x] T)).cell? ((⟨w.heap.size, 0, none⟩ : Addr).add j) = some u := one_row w T x
set_option maxHeartbeats 1000000 in
set_option maxRecDepth 100000 in
theorem refSet_calls (va : Value) (rows : List (List V)) (w : World) (hn : rows.length ≤ 100000) (ha : CutAt w va rows) (hsm : ∀ r ∈ rows, r.length ≤ 4398046511104) :
    Calls Try.prog 75 #[va] w fun e w' => ∃ v out, e = .returned v ∧ SetOf rows out ∧ Owned w.heap.size w' v out ∧ Below w.heap.size w w' := by
  obtain ⟨i, hi, hz, hsz, hby⟩ := info_parts info38
  have HI := Lib.hid hi
  have HZ := Lib.hid hz
  have HSZ := Lib.hid hsz
  have HBY := Lib.hid hby
  have HS := Lib.hid (sorted_calls rows.length va rows w (Nat.le_refl _) hn ha)
  clear hi hz hsz hby ha
  go_enter Try.func75, Try.ntmps75
  go_wp2_with fail
  refine HS.out.mono ?_
  rintro e w3 ⟨vs, s, rfl, hasc, hmem, hsl, hcut, hb3⟩
  obtain ⟨sa, scap, rfl, hk1, hk2, hk3, hin⟩ := hcut
  have howned : Owned w3.heap.size w3 (.slice none 0 0) (dd s 0) := ⟨[], World.ownsRow_nil _ _ _ _, fun j h => absurd h (Nat.not_lt_zero _)⟩
  have HOW := Lib.hid howned
  have HIN := Lib.hid hin
  have HB3 := Lib.hid hb3
  have HSL := Lib.hid hsl
  have HSR := Lib.hid (asc0_srt hasc)
  have HME := Lib.hid hmem
  have hN : rows.length ≤ 100000 := hn
  generalize hNN : s.length = N at hk1 hk3
  have HNN := Lib.hid hNN
  have HN2 : Hid (N ≤ 100000) := by show _ ≤ _; omega
  clear hin hb3 hsl hasc hmem howned hNN hN hn HS
  go_wp2_with fail
  go_loopw [3, 5, 9] (fun v _ c wr => ∃ k : Nat, k ≤ N ∧ c = .int .i64 k ∧ Owned w3.heap.size wr v (dd s k) ∧ Below w3.heap.size w3 wr) (fun _ _ c _ => N - (intOf c).toNat)
  case atStart => exact ⟨0, by omega, rfl, HOW.out, Below.refl _ _⟩
  case round =>
    obtain ⟨k, hk, rfl, ho, hb⟩ := hrel
    have hN2 : N ≤ 100000 := HN2.out
    by_cases hlt : k < N
    · have hls : k < s.length := by rw [HNN.out]; exact hlt
      obtain ⟨sb, so, rfl, hri⟩ := HIN.out.resolve_left (by rintro rfl; simp at hls)
      obtain ⟨u, hu, hru⟩ := (hri.later hb).at_ k hls
      have hblk : sb < wr.heap.size := (hri.later hb).blk
      obtain ⟨ua, uc, rfl, -, -⟩ := id hru
      have HRU := Lib.hid hru
      have hbnd : s[k].length ≤ 4398046511104 := hsm _ ((HME.out _).1 (List.getElem_mem hls))
      have HBND := Lib.hid hbnd
      have hgk : s.getD k [] = s[k] := by rw [List.getD_eq_getElem?_getD, List.getElem?_eq_getElem hls]; rfl
      have HGK := Lib.hid hgk
      have hlt' : decide ((k : Int) < (N : Int)) = true := by simp; omega
      have hwk := step_int k (by omega)
      have hdl := dd_length s k
      have hln : (dd s k).length + 1 ≤ 4398046511104 := by omega
      have HLN := Lib.hid hln
      have HB := Lib.hid hb
      by_cases h0 : k = 0
      · subst h0
        rw [Nat.add_zero] at hu
        obtain ⟨xs, hox, hix⟩ := id ho
        obtain ⟨va, vc, rfl, -, -⟩ := ho.at_ (by omega)
        have e0 : (dd s 0).length = 0 := rfl
        rw [e0] at ho hox ⊢
        have HOW0 := Lib.hid ho
        clear ho hox hix hru hri hb hbnd hgk hdl hln e0
        have HC := Lib.hid (copy_calls _ s[0] wr HRU.out)
        go_wp2_with fail
        refine HC.out.mono ?_
        rintro e w6 ⟨vu, rfl, hou, hb6⟩
        obtain ⟨xs, hox, hix⟩ := HOW0.out.later hb6
        have HOX := Lib.hid hox
        have HIX := Lib.hid hix
        have HOU := Lib.hid hou
        have HB6 := Lib.hid hb6
        have hru6 : RowAt w6 vu s[0] := .of_owned hou HBND.out
        obtain ⟨uva, uvc, rfl, -, -⟩ := hru6
        have hbase : w3.heap.size ≤ w6.heap.size := Nat.le_trans HB.out.size hb6.size
        clear hox hix hou hb6 HC
        go_wp2_with (at_builtin; go_must (refine wpList_append_own _ rfl _ _ 87 rfl w3.heap.size 88 i (.slice none 0 0) 1 24 Try.underlying87 HI.out HZ.out HSZ.out HBY.out rfl (by decide) _ 0 xs rfl (HOX.out.alloc _) ⟨w6.heap.size, 0, none⟩ 1 1 [.slice uva s[0].length uvc] rfl rfl (one_cell _ _ _) ?c2 ?c3 ?c4 ?c5 ?_))
        case c2 => intro x hx; simp at hx; subst hx; rfl
        case c3 => unfold maxLen; omega
        case c4 => omega
        case c5 => simp; omega
        intro v' w7 hown' hgrow hnil
        have HOW' := Lib.hid hown'
        have HG7 := Lib.hid hgrow
        clear hown' hgrow hnil
        go_wp2
        go_roundw
        case rel =>
          refine ⟨0 + 1, by omega, by go_num, ?_, ?_⟩
          · rw [dd_first, HGK.out]
            exact Owned.snoc (out := []) (HOX.out.alloc _) (fun j hj => absurd hj (Nat.not_lt_zero _)) ((ownsRow_mono HOU.out (HB.out.size)).alloc _) HBND.out HOW'.out HG7.out
          · exact ((HB.out.trans ((HB6.out).mono HB.out.size)).alloc hbase _).grown HG7.out (by simp; omega) (fun j hj => (HOX.out.lt j hj).1)
        case measure => simp [intOf]; omega
      · obtain ⟨j, rfl⟩ : ∃ j, k = j + 1 := ⟨k - 1, by omega⟩
        clear h0
        have hjs : j < s.length := by omega
        have hgj : s.getD j [] = s[j] := by rw [List.getD_eq_getElem?_getD, List.getElem?_eq_getElem hjs]; rfl
        have HGJ := Lib.hid hgj
        obtain ⟨L, hL⟩ := dd_last (s := s) (j + 1) (by omega)
        rw [Nat.add_sub_cancel, hgj] at hL
        have HLL := Lib.hid hL
        have hlen : (dd s (j + 1)).length = L.length + 1 := by rw [hL]; simp
        have hat := ho.at_ (by omega)
        obtain ⟨va, vc, rfl, -, hrows⟩ := hat
        obtain ⟨vb, vo, rfl, hvi⟩ := hrows.resolve_left (by rw [hL]; simp)
        obtain ⟨up, hup, hrup⟩ := hvi.at_ L.length (by omega)
        have e1 : (dd s (j + 1))[L.length] = s[j] := by simp [hL]
        rw [e1] at hrup
        obtain ⟨pa, pc, rfl, -, -⟩ := id hrup
        have hvb := hvi.blk
        have HRUP := Lib.hid hrup
        rw [hlen] at ho ⊢
        have HO := Lib.hid ho
        have HLE := Lib.hid hlen
        clear e1 hL hvi hrows
        generalize L.length = m at hup hlen HLE HO
        have hcr := refCompareRows_calls _ _ s[j] s[j + 1] wr HRUP.out HRU.out
        have hm1 : m + 1 ≤ 4398046511104 := by rw [← hlen]; omega
        have HM1 := Lib.hid hm1
        have i1 : (0 : Int) ≤ (m : Int) := by omega
        have i2 : (m : Int) < (m : Int) + 1 := by omega
        have i3 : ((m : Int) + 1 == 0) = false := by simp; omega
        have i4 : wrap64 ((m : Int) + 1 - 1) = (m : Int) := by unfold wrap64; omega
        clear hru hrup hri hb hbnd hgk hgj hdl hln hlen ho
        by_cases e : cmpR s[j] s[j + 1] = 0
        · have DDN : Hid (dd s (j + 1 + 1) = dd s (j + 1)) := dd_old (by omega) (by rw [Nat.add_sub_cancel, HGJ.out, HGK.out]; exact e)
          rw [e] at hcr
          have HCR := Lib.hid hcr
          clear hcr e
          go_wp2_with (go_at_call 82; refine HCR.out.mono ?_; rintro e w5 ⟨rfl, hg5⟩; have HG5 := Lib.hid hg5; clear hg5)
          go_roundw
          case rel => exact ⟨j + 1 + 1, by omega, by go_num, by rw [DDN.out]; exact HO.out.later HG5.out.below, HB.out.trans (HG5.out.below.mono HB.out.size)⟩
          case measure => simp [intOf]; omega
        · have DDN : Hid (dd s (j + 1 + 1) = dd s (j + 1) ++ [s.getD (j + 1) []]) := dd_new (by rw [Nat.add_sub_cancel, HGJ.out, HGK.out]; exact e)
          have hne : (cmpR s[j] s[j + 1] != 0) = true := by simpa using e
          generalize cmpR s[j] s[j + 1] = c at hcr hne
          have HCR := Lib.hid hcr
          clear hcr e
          go_wp2_with fail
          refine HCR.out.mono ?_
          rintro e w5 ⟨rfl, hg5⟩
          have HG5 := Lib.hid hg5
          clear hg5
          have HC := Lib.hid (copy_calls _ s[j + 1] w5 (HRU.out.later HG5.out.below))
          go_wp2_with fail
          refine HC.out.mono ?_
          rintro e w6 ⟨vu, rfl, hou, hb6⟩
          obtain ⟨xs, hox, hix⟩ := HO.out.later (HG5.out.below.trans (hb6.mono HG5.out.below.size))
          rw [HLE.out] at hox
          have HOX := Lib.hid hox
          have HIX := Lib.hid hix
          have HOU := Lib.hid hou
          have HB6 := Lib.hid hb6
          have hru6 : RowAt w6 vu s[j + 1] := .of_owned hou HBND.out
          obtain ⟨uva, uvc, rfl, -, -⟩ := hru6
          have hbase : w3.heap.size ≤ w6.heap.size := Nat.le_trans HB.out.size (Nat.le_trans HG5.out.below.size hb6.size)
          clear hox hix hou hb6 HC HCR i1 i2 i3 i4 hm1
          go_wp2_with (at_builtin; go_must (refine wpList_append_own _ rfl _ _ 87 rfl w3.heap.size 88 i (.slice none 0 0) 1 24 Try.underlying87 HI.out HZ.out HSZ.out HBY.out rfl (by decide) _ (m + 1) xs rfl (HOX.out.alloc _) ⟨w6.heap.size, 0, none⟩ 1 1 [.slice uva s[j + 1].length uvc] rfl rfl (one_cell _ _ _) ?c2 ?c3 ?c4 ?c5 ?_))
          case c2 => intro x hx; simp at hx; subst hx; rfl
          case c3 => have := HM1.out; have := HLN.out; have := HLE.out; unfold maxLen; omega
          case c4 => have := HLN.out; have := HLE.out; omega
          case c5 => simp; omega
          intro v' w7 hown' hgrow hnil
          have HOW' := Lib.hid hown'
          have HG7 := Lib.hid hgrow
          clear hown' hgrow hnil
          go_wp2
          go_roundw
          case rel =>
            refine ⟨j + 1 + 1, by omega, by go_num, ?_, ?_⟩
            · rw [DDN.out, HGK.out]
              have hox := HOX.out
              have how := HOW'.out
              rw [← HLE.out] at hox how
              exact Owned.snoc (hox.alloc _) (fun j hj => let ⟨u, a, b, c⟩ := HIX.out j hj; ⟨u, a, b.alloc _, c⟩) ((ownsRow_mono HOU.out (Nat.le_trans HB.out.size HG5.out.below.size)).alloc _) HBND.out how HG7.out
            · exact ((HB.out.trans ((HG5.out.below.trans (HB6.out.mono HG5.out.below.size)).mono HB.out.size)).alloc hbase _).grown HG7.out (by simp; omega) (fun j hj => (HOX.out.lt j hj).1)
          case measure => simp [intOf]; omega
    · have hkn : k = N := by omega
      subst hkn
      have hlt' : decide ((k : Int) < (k : Int)) = false := by simp
      have hfin : SetOf rows (dd s k) := by
        have := setOf_dd HSR.out HME.out
        rw [HNN.out] at this
        exact this
      have HF := Lib.hid hfin
      have HOF := Lib.hid (ho.mono (HB3.out.size))
      have HBF := Lib.hid (HB3.out.trans (hb.mono HB3.out.size))
      clear hfin ho hb
      generalize dd s k = out at HF HOF
      go_wp2
      go_ret
      exact ⟨_, _, rfl, HF.out, HOF.out, HBF.out⟩
end Go.Proofs.Ytmjokpakekfkfaa
