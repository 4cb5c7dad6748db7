/- The contract of value.Set. -/
import Derived.Test.YtllakifmflploaaT
import Derived.Laws.MakeOwn
set_option linter.unusedSimpArgs false
set_option linter.unusedVariables false
namespace Go.Proofs.Ytllakifmflploaa
open Go.RowKit

set_option maxHeartbeats 1000000 in
set_option maxRecDepth 100000 in
theorem set_calls (va : Value) (rows : List (List V)) (w : World) (ha : RowsAt w va rows) (hsm : ∀ r ∈ rows, r.length ≤ 4398046511104) :
    Calls Try.prog 14 #[va] w fun e w' => ∃ v out, e = .returned v ∧ SetOf rows out ∧ Owned w.heap.size w' v out ∧ Below w.heap.size w w' := by
  obtain ⟨pa, ca, rfl, la, ha⟩ := ha
  obtain ⟨i, hi, hz, hsz, hby⟩ := info_parts info38
  obtain ⟨w1, hrun1, hown1, hg1⟩ := run_make_full (P := Try.prog) w w.heap.size 23 25 i _ 1 Try.underlying23 hi hz hsz .i64 .i64 rows.length (by rw [hby]; omega) (by unfold maxLen; omega) (Nat.le_refl _)
  have hb1 : Below w.heap.size w w1 := (Below.refl _ _).grown hg1 (Nat.le_refl _) (fun k hk => by cases hk)
  obtain ⟨hx, hv | ⟨g, cap, cur, hv, hg, hh, hcap, hm, hs, ht⟩⟩ := hown1
  · simp at hv
  simp only [Value.slice.injEq, Option.some.injEq, Addr.mk.injEq] at hv
  obtain ⟨⟨rfl, -, -⟩, -, rfl⟩ := hv
  obtain ⟨w2, us, hrun2, hul, hus, hh2, hg2⟩ := run_copy1 w w1 hb1 3 pa ca rows.length w.heap.size cur rows rfl hh (by omega) ha
  have hb2 : Below w.heap.size w w2 := hb1.grown hg2 hb1.size (fun k hk => by cases hk; exact Nat.le_refl _)
  have hsort := sort_calls w w2 w.heap.size us rows hul la hh2 (Nat.le_refl _) hb2 hus
  rw [hul] at hsort
  have HS := Lib.hid hsort
  clear hsort hus hh hh2 hg1 hg2 hb1 hb2 hx hs ht hcap ha hul hg
  go_enter Try.func14, Try.ntmps14
  go_wp2_with fail
  refine HS.out.mono ?_
  rintro e w3 ⟨rfl, s, hsl, hsrt, hmem, hin, hb3⟩
  obtain ⟨w4, hrun4, hown4, hg4⟩ := run_make_own (P := Try.prog) w3 w3.heap.size 23 25 i _ 1 Try.underlying23 hi hz hsz .i64 .i64 rows.length (by rw [hby]; omega) (by unfold maxLen; omega) (Nat.le_refl _)
  have hb4 : Below w3.heap.size w3 w4 := (Below.refl _ _).grown hg4 (Nat.le_refl _) (fun k hk => by cases hk)
  have howned : Owned w3.heap.size w4 (.slice (some ⟨w3.heap.size, 0, none⟩) 0 rows.length) (dd s 0) := ⟨[], hown4, fun j h => absurd h (Nat.not_lt_zero _)⟩
  have HOW := Lib.hid howned
  have HB4 := Lib.hid hb4
  have HIN := Lib.hid hin
  have HB3 := Lib.hid hb3
  have HSL := Lib.hid hsl
  have HSR := Lib.hid hsrt
  have HME := Lib.hid hmem
  have HI := Lib.hid hi
  have HZ := Lib.hid hz
  have HSZ := Lib.hid hsz
  have HBY := Lib.hid hby
  clear hin hb3 hsl hsrt hmem hrun1 hrun2 hown4 hg4 hb4 howned hi hz hsz hby
  go_wp2_with fail
  clear hrun4
  go_loopw [4, 5, 6, 20] (fun v _ _ c wr => ∃ k : Nat, k ≤ rows.length ∧ c = .int .i64 k ∧ Owned w3.heap.size wr v (dd s k) ∧ Below w3.heap.size w3 wr) (fun _ _ _ c _ => rows.length - (intOf c).toNat)
  case atStart => exact ⟨0, by omega, rfl, HOW.out, HB4.out⟩
  case round =>
    obtain ⟨k, hk, rfl, ho, hb⟩ := hrel
    have HO := Lib.hid ho
    have HB := Lib.hid hb
    clear ho hb
    by_cases hlt : k < rows.length
    · have hls : k < s.length := by rw [HSL.out]; exact hlt
      obtain ⟨u, hu, hru⟩ := (HIN.out.later HB.out).at_ k hls
      have HRU := Lib.hid hru
      have hblk : w.heap.size < wr.heap.size := (HIN.out.later HB.out).blk
      rw [Nat.zero_add] at hu
      clear hru
      have hbnd : s[k].length ≤ 4398046511104 := hsm _ ((HME.out _).1 (List.getElem_mem hls))
      have hgk : s.getD k [] = s[k] := by rw [List.getD_eq_getElem?_getD, List.getElem?_eq_getElem hls]; rfl
      have HGK := Lib.hid hgk
      clear hgk
      by_cases h0 : k = 0
      · subst h0
        go_wp2_with fail
        refine (copyRow_calls _ s[0] _ HRU.out).mono ?_
        rintro e w6 ⟨rfl, hou, hb6⟩
        obtain ⟨xs, hox, hix⟩ := HO.out.later hb6
        have HOX := Lib.hid hox
        have HIX := Lib.hid hix
        have HOU := Lib.hid hou
        have HB6 := Lib.hid hb6
        have hdl := dd_length s 0
        have hln : (dd s 0).length + 1 ≤ 4398046511104 := by omega
        have hbase : w3.heap.size ≤ w6.heap.size := Nat.le_trans HB.out.size hb6.size
        clear hox hix hou hb6 hdl
        go_wp2_with (at_builtin; go_must (refine wpList_append_own _ rfl _ _ 23 rfl w3.heap.size 25 i (.slice none 0 0) 1 24 Try.underlying23 HI.out HZ.out HSZ.out HBY.out rfl (by decide) _ (dd s 0).length xs rfl (HOX.out.alloc _) ⟨w6.heap.size, 0, none⟩ 1 1 [.slice (some ⟨wr.heap.size, 0, none⟩) s[0].length s[0].length] rfl rfl ?c1 ?c2 ?c3 ?c4 ?c5 ?_))
        case c1 => exact cell_one_new _ _ _
        case c2 => intro x hx; simp at hx; subst hx; rfl
        case c3 => unfold maxLen; omega
        case c4 => omega
        case c5 => simp; omega
        intro v' w7 hown' hgrow hnil
        have HOW' := Lib.hid hown'
        have HG7 := Lib.hid hgrow
        clear hown' hgrow hnil
        go_wp2
        go_roundw
        case rel =>
          refine ⟨0 + 1, by omega, by go_num, ?_, ?_⟩
          · rw [dd_first, HGK.out]
            exact Owned.snoc (HOX.out.alloc _) (fun j hj => let ⟨u, a, b, c⟩ := HIX.out j hj; ⟨u, a, b.alloc _, c⟩) ((ownsRow_mono HOU.out (HB.out.size)).alloc _) hbnd HOW'.out HG7.out
          · exact ((HB.out.trans ((HB6.out).mono HB.out.size)).alloc hbase _).grown HG7.out (by simp; omega) (fun j hj => (HOX.out.lt j hj).1)
        case measure => simp [intOf]; omega
      · obtain ⟨j, rfl⟩ : ∃ j, k = j + 1 := ⟨k - 1, by omega⟩
        clear h0
        have hjs : j < s.length := by omega
        obtain ⟨up, hup, hrup⟩ := (HIN.out.later HB.out).at_ j hjs
        have HRUP := Lib.hid hrup
        rw [Nat.zero_add] at hup
        clear hrup
        have hgj : s.getD j [] = s[j] := by rw [List.getD_eq_getElem?_getD, List.getElem?_eq_getElem hjs]; rfl
        have HGJ := Lib.hid hgj
        clear hgj
        have h0b : (((j : Int) + 1) == 0) = false := by simp; omega
        have hcr := compareRows_calls up u s[j] s[j + 1] wr HRUP.out HRU.out
        by_cases e : cmpR s[j] s[j + 1] = 0
        · have DDN : Hid (dd s (j + 1 + 1) = dd s (j + 1)) := dd_old (by omega) (by rw [Nat.add_sub_cancel, HGJ.out, HGK.out]; exact e)
          rw [e] at hcr
          have HCR := Lib.hid hcr
          clear hcr e
          go_wp2_with (go_at_call 69; refine HCR.out.mono ?_; rintro e w5 ⟨rfl, hg5⟩; have HG5 := Lib.hid hg5; clear hg5)
          go_roundw
          case rel => exact ⟨j + 1 + 1, by omega, by go_num, by rw [DDN.out]; exact HO.out.later HG5.out.below, HB.out.trans (HG5.out.below.mono HB.out.size)⟩
          case measure => simp [intOf]; omega
        · have DDN : Hid (dd s (j + 1 + 1) = dd s (j + 1) ++ [s.getD (j + 1) []]) := dd_new (by rw [Nat.add_sub_cancel, HGJ.out, HGK.out]; exact e)
          have hne : (cmpR s[j] s[j + 1] != 0) = true := by simpa using e
          generalize cmpR s[j] s[j + 1] = c at hcr hne
          have HCR := Lib.hid hcr
          clear hcr e
          go_wp2_with fail
          refine HCR.out.mono ?_
          rintro e w5 ⟨rfl, hg5⟩
          have HG5' := Lib.hid hg5
          clear hg5
          go_wp2_with fail
          have hg5 := HG5'.out
          clear HG5'
          refine (copyRow_calls _ s[j + 1] _ (HRU.out.later hg5.below)).mono ?_
          rintro e w6 ⟨rfl, hou, hb6⟩
          obtain ⟨xs, hox, hix⟩ := HO.out.later (hg5.below.trans (hb6.mono hg5.below.size))
          have HOX := Lib.hid hox
          have HIX := Lib.hid hix
          have HOU := Lib.hid hou
          have HB6 := Lib.hid hb6
          have HG5 := Lib.hid hg5
          have hdl := dd_length s (j + 1)
          have hln : (dd s (j + 1)).length + 1 ≤ 4398046511104 := by omega
          have hbase : w3.heap.size ≤ w6.heap.size := Nat.le_trans HB.out.size (Nat.le_trans hg5.below.size hb6.size)
          clear hox hix hou hb6 hdl hg5
          go_wp2_with (at_builtin; go_must (refine wpList_append_own _ rfl _ _ 23 rfl w3.heap.size 25 i (.slice none 0 0) 1 24 Try.underlying23 HI.out HZ.out HSZ.out HBY.out rfl (by decide) _ (dd s (j + 1)).length xs rfl (HOX.out.alloc _) ⟨w6.heap.size, 0, none⟩ 1 1 [.slice (some ⟨w5.heap.size, 0, none⟩) s[j + 1].length s[j + 1].length] rfl rfl ?c1 ?c2 ?c3 ?c4 ?c5 ?_))
          case c1 => exact cell_one_new _ _ _
          case c2 => intro x hx; simp at hx; subst hx; rfl
          case c3 => unfold maxLen; omega
          case c4 => omega
          case c5 => simp; omega
          intro v' w7 hown' hgrow hnil
          have HOW' := Lib.hid hown'
          have HG7 := Lib.hid hgrow
          clear hown' hgrow hnil
          go_wp2
          go_roundw
          case rel =>
            refine ⟨j + 1 + 1, by omega, by go_num, ?_, ?_⟩
            · rw [DDN.out, HGK.out]
              exact Owned.snoc (HOX.out.alloc _) (fun j hj => let ⟨u, a, b, c⟩ := HIX.out j hj; ⟨u, a, b.alloc _, c⟩) ((ownsRow_mono HOU.out (Nat.le_trans HB.out.size HG5.out.below.size)).alloc _) hbnd HOW'.out HG7.out
            · exact ((HB.out.trans ((HG5.out.below.trans (HB6.out.mono HG5.out.below.size)).mono HB.out.size)).alloc hbase _).grown HG7.out (by simp; omega) (fun j hj => (HOX.out.lt j hj).1)
          case measure => simp [intOf]; omega
    · have hkn : k = rows.length := by omega
      subst hkn
      have hfin : SetOf rows (dd s rows.length) := by
        have := setOf_dd HSR.out HME.out
        rw [HSL.out] at this
        exact this
      have HF := Lib.hid hfin
      have HOF := Lib.hid (HO.out.mono (HB3.out.size))
      have HBF := Lib.hid (HB3.out.trans (HB.out.mono HB3.out.size))
      clear hfin
      generalize dd s rows.length = out at HF HOF
      go_wp2
      go_ret
      exact ⟨_, _, rfl, HF.out, HOF.out, HBF.out⟩
end Go.Proofs.Ytllakifmflploaa
