/- The law SchemaModes returns true. -/
import Derived.Test.YtlchcakmcikjnaaDoorZt
import Derived.Test.YtlchcakmcikjnaaDoorO
import Derived.Test.YtlchcakmcikjnaaDoorPfr
import Derived.Test.YtlchcakmcikjnaaDoorTie
import Derived.Test.YtlchcakmcikjnaaDoorCards
import Derived.SevenTiedAt
import Derived.Deep.RegionHeld3
set_option linter.unusedSimpArgs false
set_option linter.unusedVariables false
namespace Go.Proofs.YtlchcakmcikjnaaDoor
open Go.RowKit

open Go.ChangeShapes Go.WideShapes Go.ChangeAt Go.RowKit
theorem dec_ge {k M : Nat} (h : ¬ k < M) : decide ((k : Int) < (M : Int)) = false := by simp; omega
theorem dec_lt {k M : Nat} (h : k < M) : decide ((k : Int) < (M : Int)) = true := by simp; omega
theorem take_len4 {f : Int → Int} {L l : List Int} {p : Nat} (h : L = (l.map f).take p) (hp : p ≤ l.length) : L.length = p := by rw [h, List.length_take, List.length_map]; omega
theorem len_more {L : List Int} {p U : Nat} (h : L.length = p) (hp : p < U) (hU : U ≤ 17592186044416) : L.length + 1 ≤ 17592186044416 := by omega
namespace SModes
set_option maxHeartbeats 40000000 in
set_option maxRecDepth 100000 in
theorem walk (a : Option Addr) (len cap : Nat) (zs : List Int) (vr : Value) (row : List V) (w : World) (hr : IsRow .u8 w a len cap zs) (hrow : RowAt w vr row) (hs : Shapes w) :
    Calls Tryd.prog 6 #[.slice a len cap, vr] w fun e w' => e = .returned (.bool true) ∧ Below w.heap.size w w' := by
  have mx := mixed
  have HN := Lib.hid (new_calls a len cap zs w hr)
  have HS := Lib.hid hs
  have HROW := Lib.hid hrow
  obtain ⟨inf, hinf⟩ : ∃ i, Tryd.prog.info? 3 = some i ∧ i.zero = some (.int .i64 0) ∧ i.size = 1 ∧ i.bytes = 8 := info_parts infoI
  have HIN := Lib.hid hinf
  clear hinf
  obtain ⟨va0, vn0, vc0, rfl⟩ := hrow.slice
  clear hr hs hrow
  go_enter Tryd.func6, Tryd.ntmps6
  go_wp2_with fail
  refine HN.out.mono ?_
  rintro e w1 ⟨b, c, rfl, hbs, hcs, hb1⟩
  have HBS := Lib.hid (And.intro hbs hb1)
  have HBL : Hid (b < w1.heap.size) := hcs.lt
  have HSC := Lib.hid (caseSchema_calls b c w1 hcs)
  clear hcs hb1 HN hbs
  go_wp2_with fail
  refine HSC.out.mono ?_
  rintro e w2 ⟨ver, tb, cp, n, id, R1, R2, R3, K1, rfl, -, hok, htb, hlaid, hc2, hby2⟩
  have HOK := Lib.hid hok
  obtain ⟨W2, hW2⟩ : ∃ W2, W2 = w2.alloc (.cells #[.int .i64 ver, .slice (some ⟨tb, 0, none⟩) n cp] 25) := ⟨_, rfl⟩
  have HMS : Hid (MS b c w W2 w2.heap.size tb n cp ver (tab4 id R1 R2 R3 K1)) := by
    show MS _ _ _ _ _ _ _ _ _ _
    rw [hW2]; exact MS.new HBS.out.1 HBL.out HBS.out.2 htb hlaid hc2 hby2 _
  have HW2 := Lib.hid hW2
  have hn2 := hok.n2
  have hn4 := hok.n4
  clear hok hlaid hc2 hby2 hW2 HSC htb
  have HI := Lib.hid (int_calls b c n (by omega) (by omega) W2 HMS.out.c)
  obtain ⟨sb, hsb⟩ : ∃ sb, w2.heap.size = sb := ⟨_, rfl⟩
  rw [hsb] at HMS
  have HSB := Lib.hid hsb
  clear hsb
  go_upto_region 3 with fail
  rw [← HW2.out]
  rw [HSB.out]
  clear HW2
  obtain ⟨sl, s0, s1⟩ := HMS.out.s
  go_wp2_with fail
  refine HI.out.mono ?_
  rintro e w3 ⟨t', rfl, ht0, ht1, hc3, hby3⟩
  obtain ⟨t, rfl⟩ : ∃ t : Nat, t' = t := ⟨t'.toNat, by omega⟩
  have htn : t < n := by omega
  have HM3 := Lib.hid (HMS.out.case hc3 hby3)
  clear hc3 hby3 HI HMS sl s0 s1
  obtain ⟨ks, hks⟩ : ∃ ks, kindsS (tabs4 n id R1 R2 R3 K1) t = ks := ⟨_, rfl⟩
  have HKS := Lib.hid hks
  have HKO := Lib.hid (kinds4_ok HOK.out t htn)
  rw [hks] at HKO
  obtain ⟨key, hkey⟩ : ∃ key, (tab4 id R1 R2 R3 K1 t).key = key := ⟨_, rfl⟩
  clear hks
  go_upto_region 4 with fail
  refine wp_region_noPanic ?_
  refine wp_region_held (S := fun w' => MS b c w w' sb tb n cp ver (tab4 id R1 R2 R3 K1)) mx ?_
  have hHeld : (fun w' => MS b c w w' sb tb n cp ver (tab4 id R1 R2 R3 K1)) w3.drew := HM3.out.later ⟨rfl, rfl, rfl, Nat.le_refl _, fun _ _ => rfl⟩
  change wpAnyH _ _ _ _ (fun w' => MS b c w w' sb tb n cp ver (tab4 id R1 R2 R3 K1)) _ _ _ w3.drew
  try simp only [Act.put, List.getElem_toArray, List.getElem_cons_succ, List.getElem_cons_zero, List.setIfInBounds_toArray, List.set_cons_zero, List.set_cons_succ]
  refine wpAnyH_take (i := 0) (v := ?_) rfl (by kernel_rfl) (by kernel_rfl) (by kernel_rfl) (fun _ _ _ h => h) (Or.inl ⟨by rfl, ?_⟩) (by assumption) ?_
  rotate_left
  · intro w hSw; clear hSw; go_simp; try with_reducible rfl
  try simp only [Act.put, List.getElem_toArray, List.getElem_cons_succ, List.getElem_cons_zero, List.setIfInBounds_toArray, List.set_cons_zero, List.set_cons_succ]
  refine wpAnyH_take (i := 1) (v := ?_) rfl (by kernel_rfl) (by kernel_rfl) (by kernel_rfl) (fun _ _ _ h => h) (Or.inl ⟨by rfl, ?_⟩) (by assumption) ?_
  rotate_left
  · intro w hSw; clear hSw; go_simp; try with_reducible rfl
  try simp only [Act.put, List.getElem_toArray, List.getElem_cons_succ, List.getElem_cons_zero, List.setIfInBounds_toArray, List.set_cons_zero, List.set_cons_succ]
  refine wpAnyH_take (i := 2) (v := ?_) rfl (by kernel_rfl) (by kernel_rfl) (by kernel_rfl) (fun _ _ _ h => h) (Or.inl ⟨by rfl, ?_⟩) (by assumption) ?_
  rotate_left
  · intro w hSw; obtain ⟨l, c0, c1⟩ := hSw.s; clear hSw; go_simp; try with_reducible rfl
  try simp only [Act.put, List.getElem_toArray, List.getElem_cons_succ, List.getElem_cons_zero, List.setIfInBounds_toArray, List.set_cons_zero, List.set_cons_succ]
  refine wpAnyH_take (i := 3) (v := ?_) rfl (by kernel_rfl) (by kernel_rfl) (by kernel_rfl) (fun _ _ _ h => h) (Or.inl ⟨by rfl, ?_⟩) (by assumption) ?_
  rotate_left
  · intro w hSw; clear hSw; go_simp; try with_reducible rfl
  try simp only [Act.put, List.getElem_toArray, List.getElem_cons_succ, List.getElem_cons_zero, List.setIfInBounds_toArray, List.set_cons_zero, List.set_cons_succ]
  refine wpAnyH_take (i := 5) (v := ?_) rfl (by kernel_rfl) (by kernel_rfl) (by kernel_rfl) (fun _ _ _ h => h) (Or.inl ⟨by rfl, ?_⟩) (by assumption) ?_
  rotate_left
  · intro w hSw; clear hSw; go_simp; try with_reducible rfl
  try simp only [Act.put, List.getElem_toArray, List.getElem_cons_succ, List.getElem_cons_zero, List.setIfInBounds_toArray, List.set_cons_zero, List.set_cons_succ]
  refine wpAnyH_take (i := 6) (v := ?_) rfl (by kernel_rfl) (by kernel_rfl) (by kernel_rfl) (fun _ _ _ h => h) (Or.inl ⟨by rfl, ?_⟩) (by assumption) ?_
  rotate_left
  · intro w hSw; obtain ⟨l, c0, c1⟩ := hSw.s; clear hSw; go_simp; try with_reducible rfl
  try simp only [Act.put, List.getElem_toArray, List.getElem_cons_succ, List.getElem_cons_zero, List.setIfInBounds_toArray, List.set_cons_zero, List.set_cons_succ]
  refine wpAnyH_take (i := 7) (v := ?_) rfl (by kernel_rfl) (by kernel_rfl) (by kernel_rfl) (fun _ _ _ h => h) (Or.inl ⟨by rfl, ?_⟩) (by assumption) ?_
  rotate_left
  · intro w hSw; clear hSw; go_simp; try with_reducible rfl
  try simp only [Act.put, List.getElem_toArray, List.getElem_cons_succ, List.getElem_cons_zero, List.setIfInBounds_toArray, List.set_cons_zero, List.set_cons_succ]
  refine wpAnyH_take (i := 8) (v := ?_) rfl (by kernel_rfl) (by kernel_rfl) (by kernel_rfl) (fun _ _ _ h => h) (Or.inl ⟨by rfl, ?_⟩) (by assumption) ?_
  rotate_left
  · intro w hSw; clear hSw; go_simp; try with_reducible rfl
  try simp only [Act.put, List.getElem_toArray, List.getElem_cons_succ, List.getElem_cons_zero, List.setIfInBounds_toArray, List.set_cons_zero, List.set_cons_succ]
  refine wpAnyH_take (i := 9) (v := ?_) rfl (by kernel_rfl) (by kernel_rfl) (by kernel_rfl) (fun _ _ _ h => h) (Or.inl ⟨by rfl, ?_⟩) (by assumption) ?_
  rotate_left
  · intro w hSw; clear hSw; go_simp; try with_reducible rfl
  try simp only [Act.put, List.getElem_toArray, List.getElem_cons_succ, List.getElem_cons_zero, List.setIfInBounds_toArray, List.set_cons_zero, List.set_cons_succ]
  refine wpAnyH_take (i := 10) (v := ?_) rfl (by kernel_rfl) (by kernel_rfl) (by kernel_rfl) (fun _ _ _ h => h) (Or.inl ⟨by rfl, ?_⟩) (by assumption) ?_
  rotate_left
  · intro w hSw; obtain ⟨ca, cc, ra, rn, rc, ka, kn, kc, tcell, -⟩ := hSw.l.at_ t (by omega); have tk := tcell.key; simp only [Nat.zero_add] at tk; clear hSw tcell; go_simp; try with_reducible rfl
  try simp only [Act.put, List.getElem_toArray, List.getElem_cons_succ, List.getElem_cons_zero, List.setIfInBounds_toArray, List.set_cons_zero, List.set_cons_succ]
  refine wpAnyH_take (i := 11) (v := ?_) rfl (by kernel_rfl) (by kernel_rfl) (by kernel_rfl) (fun _ _ _ h => h) (Or.inl ⟨by rfl, ?_⟩) (by assumption) ?_
  rotate_left
  · intro w hSw; clear hSw; go_simp; try with_reducible rfl
  try simp only [Act.put, List.getElem_toArray, List.getElem_cons_succ, List.getElem_cons_zero, List.setIfInBounds_toArray, List.set_cons_zero, List.set_cons_succ]
  refine wpAnyH_take (i := 17) (v := ?_) rfl (by kernel_rfl) (by kernel_rfl) (by kernel_rfl) (fun _ _ _ h => h) (Or.inl ⟨by rfl, ?_⟩) (by assumption) ?_
  rotate_left
  · intro w hSw; clear hSw; go_simp; try with_reducible rfl
  try simp only [Act.put, List.getElem_toArray, List.getElem_cons_succ, List.getElem_cons_zero, List.setIfInBounds_toArray, List.set_cons_zero, List.set_cons_succ]
  refine wpAnyH_ready (rs := [4]) (by kernel_rfl) (by simp) ?_
  refine AllReadyH.cons rfl (fun K hK => ?_) AllReadyH.nil
  have HM4 := Lib.hid hHeld
  clear hHeld
  go_simp
  go_at_call 18
  refine (refKinds_new true 3 (fun g => g = tb) _ ver _ (tabs4 n id R1 R2 R3 K1) t _ (HM4.out.tabs hn4)).mono ?_
  rintro e wk ⟨vk, rfl, hik, hbk⟩
  have HMK := Lib.hid (HM4.out.later hbk)
  have HIK : Hid (IntsAt (fun g => b < g) wk vk ks) := by
    show IntsAt _ _ _ _
    rw [← HKS.out]
    exact hik.mono fun g _ hg => by have := HM4.out.l.lt; have := HM4.out.ht; omega
  obtain ⟨va, vc, rfl, -⟩ := HIK.out.slice
  clear hik hbk
  refine hK.out _ _ HMK.out (fun hHeld => ?_)
  clear hK K
  try simp only [Act.put, List.getElem_toArray, List.getElem_cons_succ, List.getElem_cons_zero, List.setIfInBounds_toArray, List.set_cons_zero, List.set_cons_succ]
  refine wpAnyH_ready (rs := [12]) (by kernel_rfl) (by simp) ?_
  refine AllReadyH.cons rfl (fun K hK => ?_) AllReadyH.nil
  clear hHeld
  go_simp
  go_at_call 15
  refine (int_calls b c 3 (by omega) (by omega) wk HMK.out.c).mono ?_
  rintro e wi ⟨x, rfl, hx0, hx1, hci, hbi⟩
  have HMI := Lib.hid (HMK.out.case hci hbi)
  have HII := Lib.hid (HIK.out.kept (kept_by hbi fun g e => by cases e; omega))
  obtain ⟨m, hm⟩ : ∃ m : Int, IntKind.i64.wrap (1 + x) = m := ⟨_, rfl⟩
  have HMB : Hid (1 ≤ m ∧ m ≤ 3) := by
    have e : IntKind.i64.wrap (1 + x) = 1 + x := IntWalk.i64_in _ (by omega)
    show _ ∧ _; omega
  clear hci hbi
  refine hK.out _ _ HMI.out (fun hHeld => ?_)
  clear hK K
  try simp only [Act.put, List.getElem_toArray, List.getElem_cons_succ, List.getElem_cons_zero, List.setIfInBounds_toArray, List.set_cons_zero, List.set_cons_succ]
  refine wpAnyH_take (i := 13) (v := ?_) rfl (by kernel_rfl) (by kernel_rfl) (by kernel_rfl) (fun _ _ _ h => h) (Or.inl ⟨by rfl, ?_⟩) (by assumption) ?_
  rotate_left
  · intro w hSw; clear hSw; go_simp; try with_reducible rfl
  try simp only [Act.put, List.getElem_toArray, List.getElem_cons_succ, List.getElem_cons_zero, List.setIfInBounds_toArray, List.set_cons_zero, List.set_cons_succ]
  refine wpAnyH_ready (rs := [14]) (by kernel_rfl) (by simp) ?_
  refine AllReadyH.cons rfl (fun K hK => ?_) AllReadyH.nil
  clear hHeld
  go_simp
  try rw [hm]
  go_at_call 25
  refine (caseRowM_calls (fun g => b < g) b (by omega) c _ ks HKO.out.1 key m wi HMI.out.c HII.out (by have := HKO.out.2; omega)).mono ?_
  rintro e wr4 ⟨v, r, rfl, hrl, hrc, hra, hro, hcr, hbr⟩
  have HMR := Lib.hid (HMI.out.case hcr hbr)
  have HRA : Hid (RowAt wr4 v r) := RowAt.of_owned hro (by have := HKO.out.2; omega)
  obtain ⟨sa, sn, sc, rfl⟩ := HRA.out.slice
  clear hrl hrc hra hro hcr hbr hm
  refine hK.out _ _ HMR.out (fun hHeld => ?_)
  clear hK K
  try simp only [Act.put, List.getElem_toArray, List.getElem_cons_succ, List.getElem_cons_zero, List.setIfInBounds_toArray, List.set_cons_zero, List.set_cons_succ]
  refine wpAnyH_ready (rs := [15]) (by kernel_rfl) (by simp) ?_
  refine AllReadyH.cons rfl (fun K hK => ?_) AllReadyH.nil
  clear hHeld
  go_simp
  refine hK.out _ _ (HMR.out.later ((Below.refl _ _).alloc (Nat.le_refl _) _)) (fun hHeld => ?_)
  clear hK K
  try simp only [Act.put, List.getElem_toArray, List.getElem_cons_succ, List.getElem_cons_zero, List.setIfInBounds_toArray, List.set_cons_zero, List.set_cons_succ]
  refine wpAnyH_take (i := 16) (v := ?_) rfl (by kernel_rfl) (by kernel_rfl) (by kernel_rfl) (fun _ _ _ h => h) (Or.inl ⟨by rfl, ?_⟩) (by assumption) ?_
  rotate_left
  · intro w hSw; clear hSw; go_simp; try with_reducible rfl
  try simp only [Act.put, List.getElem_toArray, List.getElem_cons_succ, List.getElem_cons_zero, List.setIfInBounds_toArray, List.set_cons_zero, List.set_cons_succ]
  refine wpAnyH_done (by kernel_rfl) ?_ _
  refine NoPanic.normal ?_
  obtain ⟨W6, hW6⟩ : ∃ W6, W6 = wr4.alloc (.cells #[.slice va0 vn0 vc0, .slice sa sn sc] 43) := ⟨_, rfl⟩
  have HM6 : Hid (MS b c w W6 sb tb n cp ver (tab4 id R1 R2 R3 K1)) := by rw [hW6]; exact hHeld
  have HRX : Hid (∀ j, j < 2 → ∃ (ax : Option Addr) (nx cx : Nat) (rx : List V), W6.cell? ⟨wr4.heap.size, j, none⟩ = some (.slice ax nx cx) ∧ RowAt W6 (.slice ax nx cx) rx ∧ wr4.heap.size < W6.heap.size) := fun j hj => by
    have hal : Below wr4.heap.size wr4 W6 := by rw [hW6]; exact (Below.refl _ _).alloc (Nat.le_refl _) _
    obtain rfl | rfl : j = 0 ∨ j = 1 := by omega
    · exact ⟨va0, vn0, vc0, row, by rw [hW6]; go_simp, HROW.out.later HM6.out.g, by rw [hW6]; simp⟩
    · exact ⟨sa, sn, sc, r, by rw [hW6]; go_simp, HRA.out.later hal, by rw [hW6]; simp⟩
  have HW6 := Lib.hid hW6
  have HHK := Lib.hid hkey
  clear hHeld hW6 hkey ht0 ht1 hx0 hx1
  go_wp2_with fail
  rw [← HW6.out]
  clear HW6
  generalize wr4.heap.size = rb at HRX ⊢
  go_loopw [9, 10, 11, 12, 47] (fun _ _ _ _ y wr => ∃ j : Nat, j ≤ 2 ∧ y = .int .i64 j ∧ Gro W6 wr) (fun _ _ _ _ y _ => 2 - (intOf y).toNat)
  case atStart => exact ⟨0, by omega, rfl, Gro.refl _⟩
  case round =>
    obtain ⟨j, hj, rfl, hgr⟩ := hrel
    have HGR := Lib.hid hgr
    have hwk := step_i j (by omega)
    by_cases hlt : j < 2
    · have hlt' : decide ((j : Int) < 2) = true := by simp; omega
      have hltI : (j : Int) < 2 := by omega
      obtain ⟨ax, nx, cx, rx, hcell, hrx, hrl⟩ := HRX.out j hlt
      have hc' := (hgr.below.cell (p := ⟨rb, j, none⟩) hrl).trans hcell
      have hl' := Nat.lt_of_lt_of_le hrl hgr.size
      have HRJ := Lib.hid (hrx.later hgr.below)
      have HMJ := Lib.hid (HM6.out.later hgr.below)
      obtain ⟨sl, s0, s1⟩ := HMJ.out.s
      obtain ⟨q1, hq1⟩ : ∃ q, fitsS (tabs4 n id R1 R2 R3 K1) t 1 rx = q := ⟨_, rfl⟩
      obtain ⟨q2, hq2⟩ : ∃ q, fitsS (tabs4 n id R1 R2 R3 K1) t 2 rx = q := ⟨_, rfl⟩
      obtain ⟨q3, hq3⟩ : ∃ q, fitsS (tabs4 n id R1 R2 R3 K1) t 3 rx = q := ⟨_, rfl⟩
      have HF : Hid (∀ (m : Int) w', Gro wr w' → Calls Tryd.prog 28 #[.agg #[.int .i64 ver, .slice (some ⟨tb, 0, none⟩) n cp], .int .i64 t, .slice ax nx cx, .int .i64 m] w' (BoolG (fitsS (tabs4 n id R1 R2 R3 K1) t m rx) w')) := fun m w' h => fits_calls true 3 (fun g => g = tb) _ ver _ _ t m _ rx w' ((HMJ.out.later h.below).tabs hn4) (HRJ.out.later h.below)
      have HF1 : Hid (∀ w', Gro wr w' → Calls Tryd.prog 28 #[.agg #[.int .i64 ver, .slice (some ⟨tb, 0, none⟩) n cp], .int .i64 t, .slice ax nx cx, .int .i64 1] w' (fun e w'' => e = .returned (.bool q1) ∧ Gro w' w'')) := fun w' h => by rw [← hq1]; exact HF.out 1 w' h
      have HF2 : Hid (∀ w', Gro wr w' → Calls Tryd.prog 28 #[.agg #[.int .i64 ver, .slice (some ⟨tb, 0, none⟩) n cp], .int .i64 t, .slice ax nx cx, .int .i64 2] w' (fun e w'' => e = .returned (.bool q2) ∧ Gro w' w'')) := fun w' h => by rw [← hq2]; exact HF.out 2 w' h
      have HF3 : Hid (∀ w', Gro wr w' → Calls Tryd.prog 28 #[.agg #[.int .i64 ver, .slice (some ⟨tb, 0, none⟩) n cp], .int .i64 t, .slice ax nx cx, .int .i64 3] w' (fun e w'' => e = .returned (.bool q3) ∧ Gro w' w'')) := fun w' h => by rw [← hq3]; exact HF.out 3 w' h
      have HQ : Hid ((q1 = true → q2 = true) ∧ (q2 = true → q3 = true)) := ⟨fun h => by rw [← hq2]; exact fits12 (hq1.trans h), fun h => by rw [← hq3]; exact fits23 (hq2.trans h)⟩
      clear hcell hrx hrl hgr hq1 hq2 hq3
      go_upto_region 7 with fail
      clear hc' hl'
      go_quiet_grown (first | (go_at_call 28; with_reducible refine gro_calls (HF1.out _ ((Gro.refl wr).grown _ _))) | (go_at_call 28; with_reducible refine gro_calls (HF2.out _ ((Gro.refl wr).grown _ _))) | (go_at_call 28; with_reducible refine gro_calls (HF3.out _ ((Gro.refl wr).grown _ _))))
      clear sl s0 s1
      cases q1 <;> cases q2 <;> cases q3
      all_goals
        first
        | (exfalso; have h := HQ.out.1 rfl; revert h; decide)
        | (exfalso; have h := HQ.out.2 rfl; revert h; decide)
        | (go_wp2_with fail
           generalize wrap64 ((j : Int) + 1) = z at hwk ⊢
           subst hwk
           go_roundw
           case rel => exact ⟨j + 1, by omega, by go_num, HGR.out.trans ((Gro.refl wr).grown _ _)⟩
           case measure => simp [intOf]; omega)
    · have hlt' : decide ((j : Int) < 2) = false := by simp; omega
      clear hgr hwk hlt' 
      have HM7 := Lib.hid (HM6.out.later HGR.out.below)
      obtain ⟨w7, rfl⟩ : ∃ wz : World, wz = wr := ⟨_, rfl⟩
      obtain ⟨sl, s0, s1⟩ := HM7.out.s
      have HBE : Hid (∀ w', Below w7.heap.size w7 w' → Calls Tryd.prog 11 #[] w' fun e w'' => e = .returned (.bool true) ∧ Gro w' w'') := fun w' h => begun7_calls w' (HS.out.later (HM7.out.later h).g)
      have HTS : Hid (∀ w', Below w7.heap.size w7 w' → TabsAt true 3 (fun g => g = tb) (fun g => b < g ∧ g ≠ tb) w' (.slice (some ⟨tb, 0, none⟩) n cp) (tabs4 n id R1 R2 R3 K1)) := fun w' h => (HM7.out.later h).tabs hn4
      have HSB7 := Lib.hid HM7.out.s
      have HG7 := Lib.hid HM7.out.g
      go_wp2_with fail
      clear sl s0 s1
      go_loopw [4, 13, 14, 16, 17, 18, 20, 79, 87, 97] (fun _ _ _ _ _ _ _ y _ _ wq => ∃ i : Nat, i ≤ n ∧ y = .int .i64 i ∧ Below w7.heap.size w7 wq) (fun _ _ _ _ _ _ _ y _ _ _ => n - (intOf y).toNat)
      case atStart => exact ⟨0, by omega, rfl, Below.refl _ _⟩
      case round =>
        obtain ⟨i, hi, rfl, hbq⟩ := hrel
        have HBQ := Lib.hid hbq
        have HWI := Lib.hid (step_i i (by omega))
        have HII := Lib.hid hi
        clear hi
        by_cases hin : i < n
        · have hlti : decide ((i : Int) < (n : Int)) = true := dec_lt hin
          obtain ⟨tb', to', hta, htl, -, ca, cc, ra, rn, rc, ka, kn, kc, ⟨t0, t1, t2, t3, t4⟩, hv⟩ := (HTS.out wr hbq).get (i := i) (by rw [tabs4_length]; exact hin)
          simp only [Option.some.injEq, Addr.mk.injEq, and_true] at hta
          obtain ⟨rfl, rfl⟩ := hta
          rw [tabs4_get] at t0 t1 t2
          have HRF : Hid (RefsAt (fun g => b < g ∧ g ≠ tb) wr (.slice ra rn rc) (tab4 id R1 R2 R3 K1 i).refs) := by
            have h := hv.refs rfl
            rw [tabs4_get] at h; exact h
          simp only [Nat.zero_add] at t0 t1 t2 t3 t4
          obtain ⟨RL, hRL⟩ : ∃ l, (tab4 id R1 R2 R3 K1 i).refs = l := ⟨_, rfl⟩
          have HGD : Hid (∀ u ∈ RL, (∀ c ∈ u.cols, 0 ≤ c ∧ c < (kindsS (tabs4 n id R1 R2 R3 K1) i).length) ∧ u.cols.map (atI (kindsS (tabs4 n id R1 R2 R3 K1) i)) = keyKindsS (tabs4 n id R1 R2 R3 K1) u.t) := fun u hu => by
            have h := refs_good HOK.out i hin u (by rw [hRL]; exact hu)
            have e : kindsS (tabs4 n id R1 R2 R3 K1) i = kindsT (tab4 id R1 R2 R3 K1 i) := by unfold kindsS; rw [tabOf_nat (by rw [tabs4_length]; exact hin), tabs4_get]
            rw [e]; exact h
          rw [hRL] at HRF
          obtain ⟨kd, hkd⟩ : ∃ l, kindsS (tabs4 n id R1 R2 R3 K1) i = l := ⟨_, rfl⟩
          have HKD := Lib.hid hkd
          rw [hkd] at HGD
          obtain ⟨ra', rc', hsl, hRl⟩ := HRF.out.slice
          simp only [Value.slice.injEq] at hsl
          obtain ⟨rfl, rfl, rfl⟩ := hsl
          obtain ⟨tn, htn'⟩ : ∃ x, (tab4 id R1 R2 R3 K1 i).name = x := ⟨_, rfl⟩
          obtain ⟨tk, htk'⟩ : ∃ x, (tab4 id R1 R2 R3 K1 i).key = x := ⟨_, rfl⟩
          rw [htn'] at t0
          rw [htk'] at t2
          generalize (tab4 id R1 R2 R3 K1 i).cols.length = C at t1
          obtain ⟨M, hM⟩ : ∃ M, RL.length = M := ⟨_, rfl⟩
          have HM := Lib.hid hM
          rw [hM] at t3 HRF hRl
          replace hRl := Lib.hid hRl
          obtain ⟨W1, hW1⟩ : ∃ W1, W1 = wr.alloc (tObj tn ca C cc tk ra M rc ka kn kc) := ⟨_, rfl⟩
          have hgw1 : Gro wr W1 := by rw [hW1]; exact (Gro.refl _).alloc _
          have HBX : Hid (TBox W1 wr.heap.size tn ca C cc tk ra M rc ka kn kc) := by rw [hW1]; exact TBox.new _ _ _ _ _ _ _ _ _ _ _ _
          have HB1 : Hid (Below w7.heap.size w7 W1) := hbq.trans (hgw1.below.mono hbq.size)
          have HRF1 := Lib.hid (HRF.out.later hgw1.below)
          have HW1 := Lib.hid hW1
          clear hv hgw1 hW1 hRL hkd htn' htk' hM hbq HRF
          go_upto_region 14 with fail
          rw [← HW1.out]
          clear HW1 t0 t1 t2 t3 t4
          obtain ⟨bl, b0, b1, b2, b3, b4⟩ := HBX.out
          go_wp2_with fail
          clear bl b0 b1 b2 b3 b4
          go_loopw [4, 16, 17, 18, 20, 87, 97] (fun _ _ _ _ _ y _ wq => ∃ k : Nat, k ≤ M ∧ y = .int .i64 k ∧ Below W1.heap.size W1 wq) (fun _ _ _ _ _ y _ _ => M - (intOf y).toNat)
          case atStart => exact ⟨0, by omega, rfl, Below.refl _ _⟩
          case round =>
            obtain ⟨k, hk, rfl, hbk⟩ := hrel
            have HBK := Lib.hid hbk
            have HWK := Lib.hid (step_i k (by have := hRl.out; omega))
            have HKK := Lib.hid hk
            clear hk
            by_cases hkm : k < M
            · have hlt3 : decide ((k : Int) < (M : Int)) = true := dec_lt hkm
              have hkl : k < RL.length := by rw [HM.out]; exact hkm
              obtain ⟨rb3, ro3, rfl, hrl3, -, ia, ic, u0, u1, hui⟩ := (HRF1.out.later hbk).get hkl
              have HGU := Lib.hid (HGD.out _ (List.getElem_mem hkl))
              have HUI := Lib.hid hui
              generalize RL[k] = u at u0 u1 HGU HUI
              obtain ⟨ucols, ut⟩ := u
              replace HGU : Hid ((∀ c ∈ ucols, 0 ≤ c ∧ c < kd.length) ∧ ucols.map (atI kd) = keyKindsS (tabs4 n id R1 R2 R3 K1) ut) := HGU.out
              simp only at u0 u1
              replace HUI : Hid (IntsAt (fun g => b < g ∧ g ≠ tb) wr (.slice ia ucols.length ic) ucols) := HUI.out
              obtain ⟨U, hU⟩ : ∃ U, ucols.length = U := ⟨_, rfl⟩
              have HU := Lib.hid hU
              obtain ⟨-, -, -, hUl⟩ := HUI.out.slice
              rw [hU] at u0 HUI hUl
              replace hUl := Lib.hid hUl
              obtain ⟨W3, hW3⟩ : ∃ W3, W3 = wr.alloc (.cells #[.slice ia U ic, .int .i64 ut] 62) := ⟨_, rfl⟩
              have hgw3 : Gro wr W3 := by rw [hW3]; exact (Gro.refl _).alloc _
              have HB3 : Hid (Below w7.heap.size w7 W3) := HB1.out.trans ((hbk.trans (hgw3.below.mono hbk.size)).mono HB1.out.size)
              have HB31 : Hid (Below W1.heap.size W1 W3) := hbk.trans (hgw3.below.mono hbk.size)
              have HRB3 : Hid (RfBox W3 wr.heap.size ia U ic ut) := by rw [hW3]; exact ⟨by simp, by go_simp, by go_simp⟩
              have HUI3 := Lib.hid (HUI.out.later hgw3.below)
              have HKN := Lib.hid (sKinds_new true 3 (fun g => g = tb) _ ver _ (tabs4 n id R1 R2 R3 K1) i W3 (HTS.out W3 HB3.out))
              rw [HKD.out] at HKN
              have HW3 := Lib.hid hW3
              clear hui hgw3 hW3 hU hkl hbk HUI
              go_upto_region 17 with fail
              rw [← HW3.out]
              clear HW3 u0 u1
              obtain ⟨sl, s0, s1⟩ := HSB7.out.later HB3.out
              go_wp2_with fail
              refine HKN.out.mono ?_
              rintro e w8 ⟨vk, rfl, hvk, hg8⟩
              obtain ⟨ka8, kc8, rfl, hkdl⟩ := hvk.slice
              have HVK := Lib.hid hvk
              have HG8 := Lib.hid hg8
              clear hvk hg8 sl s0 s1 HKN
              obtain ⟨KL, hKL⟩ : ∃ KL, kd.length = KL := ⟨_, rfl⟩
              rw [hKL] at HVK hkdl ⊢
              clear hkdl
              have HKL := Lib.hid hKL
              clear hKL
              obtain ⟨rl3, r0, r1⟩ := HRB3.out.later HG8.out.below
              go_wp2_with fail
              clear rl3 r0 r1
              have HB8 : Hid (Below w7.heap.size w7 w8) := HB3.out.trans (HG8.out.below.mono HB3.out.size)
              have HB81 : Hid (Below W1.heap.size W1 w8) := HB31.out.trans (HG8.out.below.mono HB31.out.size)
              have HUI8 := Lib.hid (HUI3.out.later HG8.out.below)
              go_loopw [4, 17, 20, 97] (fun _ vl _ y wq => ∃ (p : Nat) (L : List Int), p ≤ U ∧ y = .int .i64 p ∧ L = (ucols.map (atI kd)).take p ∧ OwnN wq w8.heap.size vl L ∧ Below w8.heap.size w8 wq) (fun _ _ _ y _ => U - (intOf y).toNat)
              case atStart => exact ⟨0, [], by omega, rfl, by simp, World.ownsRow_nil _ _ _ _, Below.refl _ _⟩
              case round =>
                obtain ⟨p, L, hp, rfl, hL, hown, hbp⟩ := hrel
                have HL := Lib.hid hL
                have HOW := Lib.hid hown
                have HBP := Lib.hid hbp
                have HWP := Lib.hid (step_i p (by have := hUl.out; omega))
                have hLl : L.length = p := take_len4 hL (by rw [HU.out]; exact hp)
                have HLL := Lib.hid hLl
                by_cases hpu : p < U
                · have hlt4 : decide ((p : Int) < (U : Int)) = true := dec_lt hpu
                  have hpl : p < ucols.length := by rw [HU.out]; exact hpu
                  obtain ⟨ub, uo, rfl, hub, -, c0⟩ := (HUI8.out.later hbp).get hpl
                  have HCB := Lib.hid (HGU.out.1 _ (List.getElem_mem hpl))
                  have HTK : Hid ((ucols.map (atI kd)).take (p + 1) = (ucols.map (atI kd)).take p ++ [atI kd ucols[p]]) := by
                    show _ = _; rw [List.take_succ_eq_append_getElem (by simpa using hpl)]; simp
                  generalize ucols[p] = cc2 at c0 HCB HTK
                  obtain ⟨cn, rfl⟩ : ∃ cn : Nat, cc2 = cn := ⟨cc2.toNat, by have := HCB.out; omega⟩
                  have hcn : cn < kd.length := by have := HCB.out; omega
                  obtain ⟨kb8, ko8, rfl, hkb, -, k0⟩ := (HVK.out.later hbp).get hcn
                  rw [atI_in hcn] at HTK
                  generalize kd[cn] = kv at k0 HTK
                  have hcK : cn < KL := by have := HKL.out; omega
                  have d1 : decide ((KL : Int) ≤ (cn : Int)) = false := by rw [decide_eq_false_iff_not]; omega
                  have d2 : decide (KL ≤ cn) = false := by rw [decide_eq_false_iff_not]; omega
                  have d3 : ¬ KL ≤ cn := by omega
                  have hcI : (cn : Int) < (KL : Int) := by omega
                  have hc0 : (0 : Int) ≤ (cn : Int) := by omega
                  have hln : L.length + 1 ≤ 17592186044416 := len_more hLl hpu hUl.out
                  have hbase : w8.heap.size ≤ wr.heap.size := hbp.size
                  clear hL hown hbp hLl hpl hcn
                  go_wp2_with (at_builtin; go_must (refine wpList_append_own _ rfl _ _ 47 rfl w8.heap.size 3 inf (.int .i64 0) 1 8 Tryd.underlying47 HIN.out.1 HIN.out.2.1 HIN.out.2.2.1 HIN.out.2.2.2 rfl (by decide) _ L.length (ints L) rfl (World.ownsRow.alloc HOW.out _) ⟨wr.heap.size, 0, none⟩ 1 1 [.int .i64 kv] rfl rfl (cell_one_new' _ _ _) (by intro x hx; simp at hx; subst hx; rfl) (by unfold maxLen; omega) (by omega) (by simp; omega) ?_))
                  intro v' w9 hown' hgrow hnil
                  have HF : Hid (OwnN w9 w8.heap.size v' (L ++ [kv]) ∧ Below w8.heap.size w8 w9) := by
                    refine ⟨?_, ?_⟩
                    · show World.ownsRow _ _ _ _ _ _ _
                      rw [List.length_append, ints_append]; exact hown'
                    · exact (HBP.out.alloc HBP.out.size _).grown hgrow (by simp; omega) (fun k hk => (HOW.out.lt k hk).1)
                  have HL1 : Hid (L ++ [kv] = (ucols.map (atI kd)).take (p + 1)) := by show _ = _; rw [HTK.out, HL.out]
                  clear hown' hgrow hnil hln hbase
                  have hwp := HWP.out
                  go_wp2_with fail
                  generalize wrap64 ((p : Int) + 1) = z at hwp ⊢
                  subst hwp
                  go_roundw
                  case rel => exact ⟨p + 1, L ++ [kv], by omega, by go_num, HL1.out, HF.out⟩
                  case measure => simp [intOf]; omega
                · have hlt4 : decide ((p : Int) < (U : Int)) = false := dec_ge hpu
                  have HE : Hid (L = keyKindsS (tabs4 n id R1 R2 R3 K1) ut) := by
                    show _ = _
                    rw [hL, List.take_of_length_le (by rw [List.length_map]; have := HU.out; omega)]; exact HGU.out.2
                  have HLE : Hid (L.length ≤ 17592186044416) := by show _ ≤ _; have := hUl.out; omega
                  have HBP8 : Hid (Below w7.heap.size w7 wr) := HB8.out.trans (hbp.mono HB8.out.size)
                  have HBP1 : Hid (Below W1.heap.size W1 wr) := HB81.out.trans (hbp.mono HB81.out.size)
                  have HRB8 := Lib.hid ((HRB3.out.later HG8.out.below).later hbp)
                  have HKN8 := Lib.hid (sKeyKinds_new true 3 (fun g => g = tb) _ ver _ (tabs4 n id R1 R2 R3 K1) ut wr (HTS.out wr HBP8.out))
                  have HLI : Hid (IntsAt (fun _ => True) wr u17 L) := HOW.out.ints4 HLE.out (fun _ _ => trivial)
                  obtain ⟨la, lc, rfl, -⟩ := HLI.out.slice
                  obtain ⟨sl, s0, s1⟩ := HSB7.out.later HBP8.out
                  obtain ⟨rl3, r0, r1⟩ := HRB8.out
                  clear hL hown hbp hLl HOW
                  go_wp2_with fail
                  refine HKN8.out.mono ?_
                  rintro e w10 ⟨vq, rfl, hvq, hg10⟩
                  obtain ⟨qa, qc, rfl, -⟩ := hvq.slice
                  have HSM := Lib.hid (lsame_calls (fun _ => True) _ _ _ L (keyKindsS (tabs4 n id R1 R2 R3 K1) ut) w10 (HLI.out.later hg10.below) hvq)
                  rw [decide_eq_true HE.out] at HSM
                  have HG10 := Lib.hid hg10
                  clear hvq hg10 HKN8 sl s0 s1 rl3 r0 r1
                  go_wp2_with fail
                  refine HSM.out.mono ?_
                  rintro e w11 ⟨rfl, hg11⟩
                  have HBF : Hid (Below W1.heap.size W1 w11) := HBP1.out.trans ((HG10.out.trans hg11).below.mono HBP1.out.size)
                  clear hg11 HSM
                  have hwk3 := HWK.out
                  go_wp2_with fail
                  generalize wrap64 ((k : Int) + 1) = z at hwk3 ⊢
                  subst hwk3
                  go_roundw
                  case rel => exact ⟨k + 1, by omega, by go_num, HBF.out⟩
                  case measure => simp [intOf]; omega
            · have hlt3 : decide ((k : Int) < (M : Int)) = false := dec_ge hkm
              have HBF : Hid (Below w7.heap.size w7 wr) := HB1.out.trans (hbk.mono HB1.out.size)
              clear hbk
              have hwi := HWI.out
              go_wp2_with fail
              generalize wrap64 ((i : Int) + 1) = z at hwi ⊢
              subst hwi
              go_roundw
              case rel => exact ⟨i + 1, by omega, by go_num, HBF.out⟩
              case measure => simp [intOf]; omega
        · have hlti : decide ((i : Int) < (n : Int)) = false := dec_ge hin
          clear hbq
          go_wp2_with fail
          refine (HBE.out _ HBQ.out).mono ?_
          rintro e w9 ⟨rfl, hg9⟩
          have HF9 := Lib.hid (HG7.out.trans ((HBQ.out.trans (hg9.below.mono HBQ.out.size)).mono HG7.out.size))
          clear hg9
          go_wp2
          go_ret
          exact ⟨rfl, HF9.out⟩
set_option maxRecDepth 100000 in
theorem lifted (os : Os) (started : os.Started) (H : Type) (enc : TypeId × Value → H) :
    ReturnsInHanded {} Tryd.checked os 6 .any (fun w args => (Rows.schemaModesSpec.pre enc Tryd.prog Tryd.f6 [] false w args ∧ laidMetH Tryd.prog laid1 w) ∧ sizedMet enc Tryd.prog Tryd.f6 (OpenSpec.ofChange Rows.schemaModesSpec) false w args) (Rows.schemaModesSpec.post enc Tryd.prog Tryd.f6 false true false false) := by
  refine returnsInHanded_of_change_and (C := Tryd.checked) (X := fun w _ => laidMetH Tryd.prog laid1 w) (fun _ _ _ hh h => h.of_heap hh) own started (by kernel_rfl) Tryd.func6
    (ChangeSpec.witness_shaped (enc := enc) (C := Tryd.checked) (os := os) (X := fun w _ => laidMetH Tryd.prog laid1 w) false (World.doorLaid Tryd.prog 400 os) #[.slice none 0 0, .slice none 0 0] 8 rfl (World.shaped_of_RefB (by kernel_rfl) (by kernel_rfl)) (by kernel_rfl) (by kernel_rfl) (by kernel_rfl) (door_met os _)) ?_
  intro W base args ds gs before hval0 hW hcnd hsz0 hL hlast
  have hS : Shapes W := shapes_of_laid hL
  have hval : ∀ (j : Nat) t v, Tryd.f6.params[j]? = some t → args[j]? = some v → Value.okWide Tryd.prog W .any base t v := hval0
  have hW' := hW
  obtain ⟨p, q, hA0, hV, rfl, hfz, hnd⟩ := hW
  have hA : DataW.TrodAll enc Tryd.prog W 0 (fun _ => true) true Tryd.f6.params.toList args.toList ds p := hA0
  have hsz : (DataW.weightsEach Tryd.prog (Tryd.f6.params.toList ++ Rows.schemaModesSpec.plain.varTypes Tryd.prog) (ds ++ gs)).all (· ≤ reachBytes) = true := hsz0
  rw [Tryd.params6] at hA hval hsz
  obtain ⟨v0, vs0, d0, ds0, p0, q0, hargs, rfl, rfl, h0, r0⟩ := trodAll_cons hA
  obtain ⟨v1, vs1, d1, ds1, p1, q1, rfl, rfl, rfl, h1, r1⟩ := trodAll_cons r0
  obtain ⟨rfl, rfl, rfl⟩ := trodAll_nil r1
  obtain rfl : args = #[v0, v1] := by cases args; simp_all
  obtain ⟨rfl, rfl⟩ := trodVars_none hV
  have lt0 : ∀ x ∈ p0, x.block < W.heap.size := by obtain ⟨m, hm⟩ := h0; exact DataW.trod_lt m _ _ _ hm
  obtain ⟨a0, len0, cap0, z0, rfl, w0⟩ := open_codes (hval 0 22 v0 rfl rfl) h0
  have lt1 : ∀ x ∈ p1, x.block < W.heap.size := by obtain ⟨m, hm⟩ := h1; exact DataW.trod_lt m _ _ _ hm
  obtain ⟨x1, w1⟩ := open_Row (hval 1 43 v1 rfl rfl) h1 (fun es sp he => by have hq := sized_slice (j := 1) (e := 56) hsz rfl (by rw [he]; rfl) Tryd.underlying43; rwa [bytes24] at hq)
  clear hA0 hval0
  refine (walk a0 len0 cap0 z0 v1 x1 W w0 w1 hS).mono fun e W' ⟨he, bel⟩ => ?_
  subst he
  exact ⟨_, rfl, _, _, _, [], _, [], hW', trodAll_mk1 (shut_bool Tryd.underlying4 _), (trodAll_cons_mk (Below.trod laidOut (by kernel_rfl) (of_decide_eq_true (by kernel_rfl)) h0 bel lt0) (trodAll_cons_mk (Below.trod laidOut (by kernel_rfl) (of_decide_eq_true (by kernel_rfl)) h1 bel lt1) trodAll_mk0)), rfl, bel.frame _, fun h => by cases h⟩

theorem over : Rows.schemaModesRow.holds Tryd.pinned (OpenSpec.ofChange Rows.schemaModesSpec) :=
  OpenClaim.holds_of_wide 6 Tryd.f6 rfl rfl rfl rfl rfl rfl rfl ⟨rfl, rfl, rfl, rfl, rfl⟩ rfl rfl rfl rfl rfl (by kernel_rfl) Tryd.func6 (by kernel_rfl)
    (of_decide_eq_true (by kernel_rfl)) (by unfold Func.isWrapper; first | (rw [if_pos (by decide +kernel)]; kernel_rfl) | (rw [if_neg (by decide +kernel)]; exact ⟨rfl, rfl⟩))
    (fun os started H enc _ => lifted os started H enc)
theorem proved : Rows.SchemaModesCardSaid :=
  Claim7.holds_tied_plain_at .later [] [.data] true (true, "8557f04bab906c1f0e989062b3ce7dd8f480b1e042db6bf49772a294d4c16312") false
    over (fun _ h => by cases h) (by kernel_rfl) (fun _ h => by cases h) schemaModes_row_tie rfl ⟨rfl, rfl⟩ (by kernel_rfl) rfl
    (fun f fn hf hfn => by
      obtain rfl : f = 6 := Option.some.inj ((show Tryd.prog.funcNamed "partsync/partsynclaw07.SchemaModes" = some 6 by kernel_rfl).symm.trans hf) |>.symm
      obtain rfl : fn = Tryd.f6 := (Option.some.inj (Tryd.func6.symm.trans hfn)).symm
      exact ⟨by kernel_rfl, fun j t ht => by
        rw [Tryd.params6] at ht
        have hm : t ∈ [22, 43] := by simpa using Array.mem_of_getElem? ht
        have hall : ([22, 43].all fun u => !Tryd.prog.wantsStandIn u) = true := by kernel_rfl
        exact (show Tryd.prog.wantsStandIn t = false by simpa using List.all_eq_true.1 hall t hm)⟩)
    (by kernel_rfl)
end SModes
end Go.Proofs.YtlchcakmcikjnaaDoor
