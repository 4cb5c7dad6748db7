/- The law SchemaFits returns true. -/
import Derived.Test.YtlchcakmcikjnaaDoorZt
import Derived.Test.YtlchcakmcikjnaaDoorZw
import Derived.Test.YtlchcakmcikjnaaDoorO
import Derived.Test.YtlchcakmcikjnaaDoorPfr
import Derived.Test.YtlchcakmcikjnaaDoorTie
import Derived.Test.YtlchcakmcikjnaaDoorCards
import Derived.SevenTiedAt
import Derived.Deep.RegionHeld3
set_option linter.unusedSimpArgs false
set_option linter.unusedVariables false
namespace Go.Proofs.YtlchcakmcikjnaaDoor
open Go.RowKit

open Go.ChangeShapes Go.WideShapes Go.ChangeAt Go.RowKit
namespace SFits
set_option maxRecDepth 100000 in
theorem open_int7 {H : Type} {enc : TypeId × Value → H} {w : World} {base : Nat} {spare : Nat → Bool} {held : Bool} {r : Reach} {b0 : Nat} {v : Value} {d : DataW H} {p : List MemPlace} (hv : Value.okWide Tryd.prog w r b0 3 v) (h : DataW.Trod enc Tryd.prog w base spare held 3 v d p) :
    ∃ n : Int, v = .int .i64 n := by
  obtain ⟨n, rfl, -, -, hw⟩ := open_int Tryd.underlying3 hv h
  exact ⟨n, rfl⟩
theorem by_below7 {w w' : World} {r : Option Nat} (h : Below w.heap.size w w') : w.grownBy w' r := ⟨h.os, h.tape, h.output, h.size, fun k hk _ => h.block k hk⟩
theorem store3_by {w0 w : World} {b g : Nat} (h : w0.grownBy w (some b)) (hg : w0.heap.size ≤ g) (o1 o2 o3 : Nat) (v1 v2 v3 : Value) : w0.grownBy (((w.setCell ⟨g, o1, none⟩ v1).setCell ⟨g, o2, none⟩ v2).setCell ⟨g, o3, none⟩ v3) (some b) :=
  by_store_new (by_store_new (by_store_new h hg v1) hg v2) hg v3
theorem store3_case {w0 w : World} {b g : Nat} {c : CaseId} (h0 : CaseAt w0 b c) (h : CaseAt w b c) (hg : w0.heap.size ≤ g) (o1 o2 o3 : Nat) (v1 v2 v3 : Value) : CaseAt (((w.setCell ⟨g, o1, none⟩ v1).setCell ⟨g, o2, none⟩ v2).setCell ⟨g, o3, none⟩ v3) b c :=
  h0.stored (h0.stored (h0.stored h hg v1) hg v2) hg v3
set_option maxHeartbeats 40000000 in
set_option maxRecDepth 100000 in
theorem walk (a : Option Addr) (len cap : Nat) (zs : List Int) (rver : Int) (rs : Value) (RT : List Tab) (i2 i3 : Int) (vr : Value) (row : List V) (w : World) (hr : IsRow .u8 w a len cap zs) (hraw : TabsAt false 0 (fun _ => True) (fun _ => True) w rs RT) (hrow : RowAt w vr row) (hs : Shapes w) :
    Calls Tryd.prog 5 #[.slice a len cap, .agg #[.int .i64 rver, rs], .int .i64 i2, .int .i64 i3, vr] w fun e w' => e = .returned (.bool true) ∧ Below w.heap.size w w' := by
  have mx := mixed
  obtain ⟨ra0, rc0, rfl, -⟩ := hraw.slice
  obtain ⟨va0, vn0, vc0, rfl⟩ := hrow.slice
  generalize hRN : RT.length = RN at hraw ⊢
  clear hRN
  obtain ⟨W0, hW0⟩ : ∃ W0, W0 = w.alloc (.cells #[.int .i64 rver, .slice ra0 RN rc0] 25) := ⟨_, rfl⟩
  have hg0 : Below w.heap.size w W0 := by rw [hW0]; exact (Below.refl _ _).alloc (Nat.le_refl _) _
  have HX0 : Hid (SBox W0 w.heap.size rver ra0 RN rc0) := by rw [hW0]; exact SBox.new _ _ _ _ _ _
  have HN := Lib.hid (new_calls a len cap zs W0 (hr.later hg0))
  have HS := Lib.hid (hs.later hg0)
  have HRAW := Lib.hid (hraw.later hg0)
  have HROW := Lib.hid (hrow.later hg0)
  have HB0 := Lib.hid hg0
  have HW0 := Lib.hid hW0
  clear hr hs hrow hraw hg0 hW0
  go_enter Tryd.func5, Tryd.ntmps5
  go_wp2_with fail
  rw [← HW0.out]
  clear HW0
  generalize w.heap.size = rb at HX0 ⊢
  refine HN.out.mono ?_
  rintro e w1 ⟨b, c, rfl, hbs, hcs, hb1⟩
  have HBS := Lib.hid (And.intro hbs hb1)
  have HBL : Hid (b < w1.heap.size) := hcs.lt
  have HSC := Lib.hid (caseSchema_calls b c w1 hcs)
  clear hcs hb1 HN hbs
  go_wp2_with fail
  refine HSC.out.mono ?_
  rintro e w2 ⟨ver, tb, cp, n, id, R1, R2, R3, K1, rfl, -, hok, htb, hlaid, hc2, hby2⟩
  have HOK := Lib.hid hok
  obtain ⟨W2, hW2⟩ : ∃ W2, W2 = w2.alloc (.cells #[.int .i64 ver, .slice (some ⟨tb, 0, none⟩) n cp] 25) := ⟨_, rfl⟩
  have HMS : Hid (MS b c W0 W2 w2.heap.size tb n cp ver (tab4 id R1 R2 R3 K1)) := by
    show MS _ _ _ _ _ _ _ _ _ _
    rw [hW2]; exact MS.new HBS.out.1 HBL.out HBS.out.2 htb hlaid hc2 hby2 _
  have HW2 := Lib.hid hW2
  have hn2 := hok.n2
  have hn4 := hok.n4
  clear hok hlaid hc2 hby2 hW2 HSC htb
  have HI := Lib.hid (int_calls b c n (by omega) (by omega) W2 HMS.out.c)
  obtain ⟨sb, hsb⟩ : ∃ sb, w2.heap.size = sb := ⟨_, rfl⟩
  rw [hsb] at HMS
  have HSB := Lib.hid hsb
  clear hsb
  go_upto_region 3 with fail
  rw [← HW2.out]
  rw [HSB.out]
  clear HW2
  obtain ⟨sl, s0, s1⟩ := HMS.out.s
  go_wp2_with fail
  refine HI.out.mono ?_
  rintro e w3 ⟨t', rfl, ht0, ht1, hc3, hby3⟩
  obtain ⟨t, rfl⟩ : ∃ t : Nat, t' = t := ⟨t'.toNat, by omega⟩
  have htn : t < n := by omega
  have HM3 := Lib.hid (HMS.out.case hc3 hby3)
  clear hc3 hby3 HI HMS sl s0 s1
  have HI3 := Lib.hid (int_calls b c 3 (by omega) (by omega) w3 HM3.out.c)
  obtain ⟨ks, hks⟩ : ∃ ks, kindsS (tabs4 n id R1 R2 R3 K1) t = ks := ⟨_, rfl⟩
  have HKS := Lib.hid hks
  have HKO := Lib.hid (kinds4_ok HOK.out t htn)
  rw [hks] at HKO
  obtain ⟨key, hkey⟩ : ∃ key, (tab4 id R1 R2 R3 K1 t).key = key := ⟨_, rfl⟩
  have HKEY := Lib.hid hkey
  clear hks
  go_wp2_with fail
  refine HI3.out.mono ?_
  rintro e w4 ⟨x, rfl, hx0, hx1, hc4, hby4⟩
  have HM4 := Lib.hid (HM3.out.case hc4 hby4)
  obtain ⟨m, hm⟩ : ∃ m : Int, IntKind.i64.wrap (1 + x) = m := ⟨_, rfl⟩
  have HMB : Hid (1 ≤ m ∧ m ≤ 3) := by
    have e : IntKind.i64.wrap (1 + x) = 1 + x := IntWalk.i64_in _ (by omega)
    show _ ∧ _; omega
  clear hc4 hby4 HI3 HM3
  go_upto_region 5 with fail
  clear hm
  refine wp_region_noPanic ?_
  refine wp_region_held (S := fun w' => MS b c W0 w' sb tb n cp ver (tab4 id R1 R2 R3 K1)) mx ?_
  have hHeld : (fun w' => MS b c W0 w' sb tb n cp ver (tab4 id R1 R2 R3 K1)) w4.drew := HM4.out.later ⟨rfl, rfl, rfl, Nat.le_refl _, fun _ _ => rfl⟩
  change wpAnyH _ _ _ _ (fun w' => MS b c W0 w' sb tb n cp ver (tab4 id R1 R2 R3 K1)) _ _ _ w4.drew
  try simp only [Act.put, List.getElem_toArray, List.getElem_cons_succ, List.getElem_cons_zero, List.setIfInBounds_toArray, List.set_cons_zero, List.set_cons_succ]
  refine wpAnyH_take (i := 0) (v := ?_) rfl (by kernel_rfl) (by kernel_rfl) (by kernel_rfl) (fun _ _ _ h => h) (Or.inl ⟨by rfl, ?_⟩) (by assumption) ?_
  rotate_left
  · intro w hSw; clear hSw; go_simp; try with_reducible rfl
  try simp only [Act.put, List.getElem_toArray, List.getElem_cons_succ, List.getElem_cons_zero, List.setIfInBounds_toArray, List.set_cons_zero, List.set_cons_succ]
  refine wpAnyH_take (i := 1) (v := ?_) rfl (by kernel_rfl) (by kernel_rfl) (by kernel_rfl) (fun _ _ _ h => h) (Or.inl ⟨by rfl, ?_⟩) (by assumption) ?_
  rotate_left
  · intro w hSw; obtain ⟨l, c0, c1⟩ := hSw.s; clear hSw; go_simp; try with_reducible rfl
  try simp only [Act.put, List.getElem_toArray, List.getElem_cons_succ, List.getElem_cons_zero, List.setIfInBounds_toArray, List.set_cons_zero, List.set_cons_succ]
  refine wpAnyH_take (i := 2) (v := ?_) rfl (by kernel_rfl) (by kernel_rfl) (by kernel_rfl) (fun _ _ _ h => h) (Or.inl ⟨by rfl, ?_⟩) (by assumption) ?_
  rotate_left
  · intro w hSw; clear hSw; go_simp; try with_reducible rfl
  try simp only [Act.put, List.getElem_toArray, List.getElem_cons_succ, List.getElem_cons_zero, List.setIfInBounds_toArray, List.set_cons_zero, List.set_cons_succ]
  refine wpAnyH_take (i := 4) (v := ?_) rfl (by kernel_rfl) (by kernel_rfl) (by kernel_rfl) (fun _ _ _ h => h) (Or.inl ⟨by rfl, ?_⟩) (by assumption) ?_
  rotate_left
  · intro w hSw; clear hSw; go_simp; try with_reducible rfl
  try simp only [Act.put, List.getElem_toArray, List.getElem_cons_succ, List.getElem_cons_zero, List.setIfInBounds_toArray, List.set_cons_zero, List.set_cons_succ]
  refine wpAnyH_take (i := 5) (v := ?_) rfl (by kernel_rfl) (by kernel_rfl) (by kernel_rfl) (fun _ _ _ h => h) (Or.inl ⟨by rfl, ?_⟩) (by assumption) ?_
  rotate_left
  · intro w hSw; obtain ⟨l, c0, c1⟩ := hSw.s; clear hSw; go_simp; try with_reducible rfl
  try simp only [Act.put, List.getElem_toArray, List.getElem_cons_succ, List.getElem_cons_zero, List.setIfInBounds_toArray, List.set_cons_zero, List.set_cons_succ]
  refine wpAnyH_take (i := 6) (v := ?_) rfl (by kernel_rfl) (by kernel_rfl) (by kernel_rfl) (fun _ _ _ h => h) (Or.inl ⟨by rfl, ?_⟩) (by assumption) ?_
  rotate_left
  · intro w hSw; clear hSw; go_simp; try with_reducible rfl
  try simp only [Act.put, List.getElem_toArray, List.getElem_cons_succ, List.getElem_cons_zero, List.setIfInBounds_toArray, List.set_cons_zero, List.set_cons_succ]
  refine wpAnyH_take (i := 7) (v := ?_) rfl (by kernel_rfl) (by kernel_rfl) (by kernel_rfl) (fun _ _ _ h => h) (Or.inl ⟨by rfl, ?_⟩) (by assumption) ?_
  rotate_left
  · intro w hSw; clear hSw; go_simp; try with_reducible rfl
  try simp only [Act.put, List.getElem_toArray, List.getElem_cons_succ, List.getElem_cons_zero, List.setIfInBounds_toArray, List.set_cons_zero, List.set_cons_succ]
  refine wpAnyH_take (i := 8) (v := ?_) rfl (by kernel_rfl) (by kernel_rfl) (by kernel_rfl) (fun _ _ _ h => h) (Or.inl ⟨by rfl, ?_⟩) (by assumption) ?_
  rotate_left
  · intro w hSw; clear hSw; go_simp; try with_reducible rfl
  try simp only [Act.put, List.getElem_toArray, List.getElem_cons_succ, List.getElem_cons_zero, List.setIfInBounds_toArray, List.set_cons_zero, List.set_cons_succ]
  refine wpAnyH_take (i := 9) (v := ?_) rfl (by kernel_rfl) (by kernel_rfl) (by kernel_rfl) (fun _ _ _ h => h) (Or.inl ⟨by rfl, ?_⟩) (by assumption) ?_
  rotate_left
  · intro w hSw; obtain ⟨ca, cc, ra, rn, rc, ka, kn, kc, tcell, -⟩ := hSw.l.at_ t (by omega); have tk := tcell.key; simp only [Nat.zero_add] at tk; clear tcell; clear hSw; go_simp; try with_reducible rfl
  try simp only [Act.put, List.getElem_toArray, List.getElem_cons_succ, List.getElem_cons_zero, List.setIfInBounds_toArray, List.set_cons_zero, List.set_cons_succ]
  refine wpAnyH_take (i := 10) (v := ?_) rfl (by kernel_rfl) (by kernel_rfl) (by kernel_rfl) (fun _ _ _ h => h) (Or.inl ⟨by rfl, ?_⟩) (by assumption) ?_
  rotate_left
  · intro w hSw; clear hSw; go_simp; try with_reducible rfl
  try simp only [Act.put, List.getElem_toArray, List.getElem_cons_succ, List.getElem_cons_zero, List.setIfInBounds_toArray, List.set_cons_zero, List.set_cons_succ]
  refine wpAnyH_ready (rs := [3]) (by kernel_rfl) (by simp) ?_
  refine AllReadyH.cons rfl (fun K hK => ?_) AllReadyH.nil
  have HM5 := Lib.hid hHeld
  clear hHeld
  go_simp
  go_at_call 18
  refine (refKinds_new true 3 (fun g => g = tb) _ ver _ (tabs4 n id R1 R2 R3 K1) t _ (HM5.out.tabs hn4)).mono ?_
  rintro e wk ⟨vk, rfl, hik, hbk⟩
  have HMK := Lib.hid (HM5.out.later hbk)
  have HIK : Hid (IntsAt (fun g => b < g) wk vk ks) := by
    show IntsAt _ _ _ _
    rw [← HKS.out]
    exact hik.mono fun g _ hg => by have := HM5.out.l.lt; have := HM5.out.ht; omega
  obtain ⟨va, vc, rfl, -⟩ := HIK.out.slice
  clear hik hbk
  refine hK.out _ _ HMK.out (fun hHeld => ?_)
  clear hK K
  try simp only [Act.put, List.getElem_toArray, List.getElem_cons_succ, List.getElem_cons_zero, List.setIfInBounds_toArray, List.set_cons_zero, List.set_cons_succ]
  refine wpAnyH_ready (rs := [11]) (by kernel_rfl) (by simp) ?_
  refine AllReadyH.cons rfl (fun K hK => ?_) AllReadyH.nil
  clear hHeld
  go_simp
  try rw [hkey]
  go_at_call 25
  refine (caseRowM_calls (fun g => b < g) b (by omega) c _ ks HKO.out.1 key m wk HMK.out.c HIK.out (by have := HKO.out.2; omega)).mono ?_
  rintro e w6 ⟨v, r, rfl, hrl, hrc, hra, hro, hcr, hbr⟩
  have HM6 := Lib.hid (HMK.out.case hcr hbr)
  have HRA : Hid (RowAt w6 v r) := RowAt.of_owned hro (by have := HKO.out.2; omega)
  have HRL : Hid (r.length = ks.length) := hrl
  have HRO : Hid (w6.ownsRow wk.heap.size 56 3 v r.length (flat r)) := hro
  have HBK : Hid (b < wk.heap.size) := HMK.out.c.lt
  have HFIT : Hid (fitsS (tabs4 n id R1 R2 R3 K1) t m r = true) := by
    have e : tabOf (tabs4 n id R1 R2 R3 K1) t = tab4 id R1 R2 R3 K1 t := by rw [tabOf_nat (by rw [tabs4_length]; exact htn), tabs4_get]
    have hk2 : ks = (tab4 id R1 R2 R3 K1 t).cols.map Col.k := by rw [← HKS.out]; unfold kindsS kindsT; rw [e]
    show fitsS _ _ _ _ = true
    unfold fitsS
    rw [e, fits_of_cells HMB.out (by rw [hrl, hk2, List.length_map]) (by rw [← hk2, HKEY.out]; exact hrc) hra, (modeB_iff m).2 HMB.out]
    simp [inTabs, tabs4_length, htn]
  have HNOF : Hid (∀ m' y, y.length = r.length + 1 → fitsS (tabs4 n id R1 R2 R3 K1) t m' y = false) := fun m' y hy => by
    have e : tabOf (tabs4 n id R1 R2 R3 K1) t = tab4 id R1 R2 R3 K1 t := by rw [tabOf_nat (by rw [tabs4_length]; exact htn), tabs4_get]
    have hk2 : ks = (tab4 id R1 R2 R3 K1 t).cols.map Col.k := by rw [← HKS.out]; unfold kindsS kindsT; rw [e]
    refine fitsS_no (.inr (.inr ?_))
    rw [e, hy, hrl, hk2, List.length_map]; omega
  obtain ⟨sa, sn, sc, rfl⟩ := HRA.out.slice
  clear hrl hrc hra hro hcr hbr
  refine hK.out _ _ HM6.out (fun hHeld => ?_)
  clear hK K
  try simp only [Act.put, List.getElem_toArray, List.getElem_cons_succ, List.getElem_cons_zero, List.setIfInBounds_toArray, List.set_cons_zero, List.set_cons_succ]
  refine wpAnyH_take (i := 12) (v := ?_) rfl (by kernel_rfl) (by kernel_rfl) (by kernel_rfl) (fun _ _ _ h => h) (Or.inl ⟨by rfl, ?_⟩) (by assumption) ?_
  rotate_left
  · intro w hSw; clear hSw; go_simp; try with_reducible rfl
  try simp only [Act.put, List.getElem_toArray, List.getElem_cons_succ, List.getElem_cons_zero, List.setIfInBounds_toArray, List.set_cons_zero, List.set_cons_succ]
  refine wpAnyH_done (by kernel_rfl) ?_ _
  refine NoPanic.normal ?_
  clear hHeld
  have HCP := Lib.hid (rowCopy_calls _ r w6 HRA.out)
  have HL1 : Hid (1 ≤ r.length ∧ r.length ≤ 4) := ⟨by have := HRL.out; have := HKO.out.2; omega, by have := HRL.out; have := HKO.out.2; omega⟩
  have hkl : sn = r.length := by obtain ⟨a1, c1, h, -⟩ := HRA.out; simp only [Value.slice.injEq] at h; exact h.2.1
  subst hkl
  go_upto_region 6 with fail
  go_wp2_with fail
  refine HCP.out.mono ?_
  rintro e w7 ⟨vx, rfl, hox, hb7⟩
  obtain ⟨gx, cx, rfl⟩ : ∃ gx cx, vx = .slice (some ⟨gx, 0, none⟩) r.length cx := by
    obtain ⟨-, ⟨rfl, hn⟩ | ⟨g, cap, cur, hv, -⟩⟩ := hox
    · have := HL1.out; omega
    · exact ⟨g, cap, hv⟩
  have hgx : w6.heap.size ≤ gx := (hox.lt gx rfl).1
  have HOX := Lib.hid hox
  have HB7 := Lib.hid hb7
  have HM7 := Lib.hid (HM6.out.later hb7)
  have hb6 : b < w6.heap.size := HM6.out.c.lt
  have HIX := Lib.hid (int_calls b c r.length (by have := HL1.out; omega) (by have := HL1.out; omega) w7 HM7.out.c)
  have HGX := Lib.hid hgx
  have HB6 := Lib.hid hb6
  clear hox hb7 hgx hb6
  go_wp2_with fail
  refine HIX.out.mono ?_
  rintro e w8 ⟨i', rfl, hi0, hi1, hc8, hby8⟩
  obtain ⟨i, rfl⟩ : ∃ i : Nat, i' = i := ⟨i'.toNat, by omega⟩
  have hir : i < r.length := by omega
  have HIR := Lib.hid hir
  have HB8 := Lib.hid hby8
  have HM8 := Lib.hid (HM7.out.case hc8 hby8)
  have HAX := Lib.hid (any_calls b c w8 HM8.out.c)
  clear hc8 hby8 HIX HM7 hi0 hi1
  go_wp2_with fail
  refine HAX.out.mono ?_
  rintro e w9 ⟨vv, rfl, -, -, hc9, hby9⟩
  have HM9 := Lib.hid (HM8.out.case hc9 hby9)
  have HB9 : Hid (w7.grownBy w9 (some b)) := by_trans HB8.out hby9
  have hox9 : w9.ownsRow w6.heap.size 56 3 (.slice (some ⟨gx, 0, none⟩) r.length cx) r.length (flat r) := HOX.out.kept HB9.out (own_far HOX.out HB6.out)
  have hq0 := hox9.cellAt (i * 3) (by omega)
  have hq1 := hox9.cellAt (i * 3 + 1) (by omega)
  have hq2 := hox9.cellAt (i * 3 + 2) (by omega)
  rw [(flat_at r i hir).1] at hq0
  rw [(flat_at r i hir).2.1] at hq1
  rw [(flat_at r i hir).2.2] at hq2
  have fz0 := hox9.frozenAt (i * 3)
  have fz1 := hox9.frozenAt (i * 3 + 1)
  have fz2 := hox9.frozenAt (i * 3 + 2)
  have HOX9 := Lib.hid (row_set7 hox9 i hir vv)
  generalize r[i] = old at hq0 hq1 hq2
  obtain ⟨vk, vn, vt⟩ := vv
  obtain ⟨W10, hW10⟩ : ∃ W10, W10 = (((w9.setCell ⟨gx, i * 3, none⟩ (.int .i64 vk)).setCell ⟨gx, i * 3 + 1, none⟩ (.int .i64 vn)).setCell ⟨gx, i * 3 + 2, none⟩ (.string vt)) := ⟨_, rfl⟩
  have hby10 : w6.grownBy W10 (some b) := by rw [hW10]; exact store3_by (by_trans (by_below7 HB7.out) HB9.out) HGX.out _ _ _ _ _ _
  have hc10 : CaseAt W10 b c := by rw [hW10]; exact store3_case HM6.out.c HM9.out.c HGX.out _ _ _ _ _ _
  have HM10 := Lib.hid (HM6.out.case hc10 hby10)
  have HOX10 : Hid (W10.ownsRow w6.heap.size 56 3 (.slice (some ⟨gx, 0, none⟩) r.length cx) r.length (flat (r.set i ⟨vk, vn, vt⟩))) := by rw [hW10]; exact HOX9.out.1
  have HRO10 := Lib.hid (HRO.out.kept hby10 (own_far HRO.out HBK.out))
  have HCP10 := Lib.hid (rowCopy_calls _ r W10 (RowAt.of_owned HRO10.out (by have := HL1.out; omega)))
  have HW10 := Lib.hid hW10
  have hge : decide ((r.length : Int) ≤ (i : Int)) = false := by simp; omega
  have hge' : ¬ ((r.length : Int) ≤ (i : Int)) := by omega
  have hmI : (i : Int) < (r.length : Int) := by omega
  have h0m : (0 : Int) ≤ (i : Int) := by omega
  clear hox9 hby10 hc10 hby9 hc9 hW10
  go_upto_region 8 with fail
  rw [← HW10.out]
  clear HW10 hq0 hq1 hq2 fz0 fz1 fz2 hge hge' hmI h0m hir
  go_wp2_with fail
  refine HCP10.out.mono ?_
  rintro e w11 ⟨vy, rfl, hoy, hb11⟩
  have HM11 := Lib.hid (HM10.out.later hb11)
  have HOY := Lib.hid hoy
  have HB11 := Lib.hid hb11
  have HAX := Lib.hid (any_calls b c w11 HM11.out.c)
  have HB10 : Hid (b < W10.heap.size) := HM10.out.c.lt
  obtain ⟨inf, hinf, hz, hsz, hby⟩ := info_parts info24
  have HINF := Lib.hid (And.intro hinf (And.intro hz (And.intro hsz hby)))
  clear hoy hb11 HCP10 hinf hz hsz hby
  go_wp2_with fail
  refine HAX.out.mono ?_
  rintro e w12 ⟨vv, rfl, -, -, hc12, hby12⟩
  have HM12 := Lib.hid (HM11.out.case hc12 hby12)
  have HB12 : Hid (W10.grownBy w12 (some b)) := by_trans (by_below7 HB11.out) hby12
  have HOY12 : Hid (w12.ownsRow W10.heap.size 56 3 vy r.length (flat r)) := HOY.out.kept hby12 (own_far HOY.out HB10.out)
  obtain ⟨uk, un, ut⟩ := vv
  have hln : r.length + 1 ≤ 4398046511104 := by have := HL1.out; omega
  have hbase : W10.heap.size ≤ w12.heap.size := HB12.out.size
  clear hc12 hby12 HAX
  go_wp2_with (at_builtin; go_must (refine wpList_append_own _ rfl _ _ 43 rfl W10.heap.size 56 inf (V.val ⟨0, 0, ⟨#[]⟩⟩) 3 32 Tryd.underlying43 HINF.out.1 HINF.out.2.1 HINF.out.2.2.1 HINF.out.2.2.2 rfl (by decide) _ r.length (flat r) rfl (World.ownsRow.alloc HOY12.out _) ⟨w12.heap.size, 0, none⟩ 1 1 [.int .i64 uk, .int .i64 un, .string ut] rfl rfl (cell_three_new _ _ _ _ _) (by intro x hx; simp at hx; rcases hx with rfl | rfl | rfl <;> rfl) (by unfold maxLen; omega) (by omega) (by simp; omega) ?_))
  intro vy' w14 hown' hgrow hnil
  have HSN := Lib.hid (row_snoc (x := ⟨uk, un, ut⟩) HM10.out.c HM12.out.c HB12.out HOY12.out hown' hgrow)
  have HM14 := Lib.hid (HM10.out.case HSN.out.2.1 HSN.out.2.2)
  have hl14 := HL1.out
  have HRR : Hid (RowAt w14 (.slice sa r.length sc) r) := RowAt.of_owned (HRO10.out.kept HSN.out.2.2 (own_far HRO10.out HBK.out)) (by omega)
  have HRX : Hid (RowAt w14 (.slice (some ⟨gx, 0, none⟩) r.length cx) (r.set i ⟨vk, vn, vt⟩)) := by
    have h := HOX10.out.kept HSN.out.2.2 (own_far HOX10.out HB6.out)
    exact RowAt.of_owned (by rw [List.length_set]; exact h) (by rw [List.length_set]; omega)
  have HRY : Hid (RowAt w14 vy' (r ++ [⟨uk, un, ut⟩])) := RowAt.of_owned HSN.out.1 (by rw [List.length_append]; simp; omega)
  obtain ⟨xr, hxr⟩ : ∃ xr, r.set i ⟨vk, vn, vt⟩ = xr := ⟨_, rfl⟩
  have HYF : Hid (∀ m', fitsS (tabs4 n id R1 R2 R3 K1) t m' (r ++ [⟨uk, un, ut⟩]) = false) := fun m' => HNOF.out m' _ (by simp)
  obtain ⟨yr, hyr⟩ : ∃ yr, r ++ [⟨uk, un, ut⟩] = yr := ⟨_, rfl⟩
  rw [hxr] at HRX
  rw [hyr] at HRY HYF
  obtain ⟨ya, yn, yc, rfl⟩ := HRY.out.slice
  clear hown' hgrow hnil hln hbase hl14 hxr hyr HSN
  go_wp2_with fail
  go_loopw [18] (fun y wr => ∃ j : Nat, j ≤ 5 ∧ y = .int .i64 j ∧ Gro w14 wr) (fun y _ => 5 - (intOf y).toNat)
  case atStart => exact ⟨0, by omega, rfl, Gro.refl _⟩
  case round =>
    obtain ⟨j, hj, rfl, hgr⟩ := hrel
    have HGR := Lib.hid hgr
    have hwk := step_i j (by omega)
    have HMJ := Lib.hid (HM14.out.later hgr.below)
    by_cases hlt : j < 5
    · have hlt' : decide ((j : Int) < 5) = true := by simp; omega
      have hltI : (j : Int) < 5 := by omega
      obtain ⟨sl, s0, s1⟩ := HMJ.out.s
      obtain ⟨q1, hq1⟩ : ∃ q, fitsS (tabs4 n id R1 R2 R3 K1) t j xr = q := ⟨_, rfl⟩
      obtain ⟨q2, hq2⟩ : ∃ q, fitsS (tabs4 n id R1 R2 R3 K1) t j r = q := ⟨_, rfl⟩
      have HT : Hid (∀ w', Gro wr w' → TabsAt true 3 (fun g => g = tb) (fun g => b < g ∧ g ≠ tb) w' (.slice (some ⟨tb, 0, none⟩) n cp) (tabs4 n id R1 R2 R3 K1)) := fun w' h => (HMJ.out.later h.below).tabs hn4
      have hF : ∀ (va : Value) (rr : List V) (q : Bool), RowAt w14 va rr → fitsS (tabs4 n id R1 R2 R3 K1) t j rr = q → ∀ w', Gro wr w' → Calls Tryd.prog 28 #[.agg #[.int .i64 ver, .slice (some ⟨tb, 0, none⟩) n cp], .int .i64 t, va, .int .i64 j] w' (fun e w'' => e = .returned (.bool q) ∧ Gro w' w'') := fun va rr q hra hq w' h => by
        rw [← hq]; exact fits_calls true 3 _ _ ver _ _ t j _ rr w' (HT.out w' h) (hra.later (hgr.trans h).below)
      have hG : ∀ (va : Value) (rr : List V) (q : Bool), RowAt w14 va rr → fitsS (tabs4 n id R1 R2 R3 K1) t j rr = q → ∀ w', Gro wr w' → Calls Tryd.prog 29 #[.agg #[.int .i64 ver, .slice (some ⟨tb, 0, none⟩) n cp], .int .i64 t, va, .int .i64 j] w' (fun e w'' => e = .returned (.bool q) ∧ Gro w' w'') := fun va rr q hra hq w' h => by
        rw [← hq]; exact refFits_calls true 3 _ _ ver _ _ t j _ rr w' (HT.out w' h) (hra.later (hgr.trans h).below)
      have HF1 := Lib.hid (hF _ _ _ HRX.out hq1)
      have HG1 := Lib.hid (hG _ _ _ HRX.out hq1)
      have HF2 := Lib.hid (hF _ _ _ HRR.out hq2)
      have HG2 := Lib.hid (hG _ _ _ HRR.out hq2)
      have HF3 := Lib.hid (hF _ _ _ HRY.out (HYF.out j))
      have e1 : (q1 != q1) = false := by simp
      have e2 : (q2 != q2) = false := by simp
      clear hgr hq1 hq2 hF hG HT
      go_upto_region 12 with fail
      go_quiet_grown (first | (go_at_call 28; with_reducible refine gro_calls (HF1.out _ ((Gro.refl wr).grown _ _))) | (go_at_call 28; with_reducible refine gro_calls (HF2.out _ ((Gro.refl wr).grown _ _))) | (go_at_call 28; with_reducible refine gro_calls (HF3.out _ ((Gro.refl wr).grown _ _))) | (go_at_call 29; with_reducible refine gro_calls (HG1.out _ ((Gro.refl wr).grown _ _))) | (go_at_call 29; with_reducible refine gro_calls (HG2.out _ ((Gro.refl wr).grown _ _))))
      clear sl s0 s1
      go_wp2_with fail
      generalize wrap64 ((j : Int) + 1) = z at hwk ⊢
      subst hwk
      go_roundw
      case rel => exact ⟨j + 1, by omega, by go_num, HGR.out.trans ((Gro.refl wr).grown _ _)⟩
      case measure => simp [intOf]; omega
    · have hlt' : decide ((j : Int) < 5) = false := by simp; omega
      clear hgr hwk
      obtain ⟨w15, rfl⟩ : ∃ wz : World, wz = wr := ⟨_, rfl⟩
      have HM15 := Lib.hid (HM14.out.later HGR.out.below)
      obtain ⟨sl, s0, s1⟩ := HM15.out.s
      obtain ⟨xl, x0, x1⟩ := HX0.out.later HM15.out.g
      have HBE : Hid (∀ w', Gro w15 w' → Calls Tryd.prog 11 #[] w' fun e w'' => e = .returned (.bool true) ∧ Gro w' w'') := fun w' h => begun7_calls w' (HS.out.later (HM15.out.later h.below).g)
      have hT : ∀ w', Gro w15 w' → TabsAt true 3 (fun g => g = tb) (fun g => b < g ∧ g ≠ tb) w' (.slice (some ⟨tb, 0, none⟩) n cp) (tabs4 n id R1 R2 R3 K1) := fun w' h => (HM15.out.later h.below).tabs hn4
      have hTR : ∀ w', Gro w15 w' → TabsAt false 0 (fun _ => True) (fun _ => True) w' (.slice ra0 RN rc0) RT := fun w' h => HRAW.out.later (HM15.out.later h.below).g
      have hR : ∀ w', Gro w15 w' → RowAt w' (.slice sa r.length sc) r := fun w' h => HRR.out.later (HGR.out.trans h).below
      have hR0 : ∀ w', Gro w15 w' → RowAt w' (.slice va0 vn0 vc0) row := fun w' h => HROW.out.later (HM15.out.later h.below).g
      have HF1 : Hid (∀ w', Gro w15 w' → Calls Tryd.prog 28 #[.agg #[.int .i64 ver, .slice (some ⟨tb, 0, none⟩) n cp], .int .i64 t, .slice sa r.length sc, .int .i64 m] w' (fun e w'' => e = .returned (.bool true) ∧ Gro w' w'')) := fun w' h => by
        rw [← HFIT.out]; exact fits_calls true 3 _ _ ver _ _ t m _ r w' (hT w' h) (hR w' h)
      obtain ⟨qa, hqa⟩ : ∃ q, fitsS (tabs4 n id R1 R2 R3 K1) i2 i3 r = q := ⟨_, rfl⟩
      obtain ⟨qb, hqb⟩ : ∃ q, fitsS RT i2 i3 row = q := ⟨_, rfl⟩
      obtain ⟨qc, hqc⟩ : ∃ q, fitsS (tabs4 n id R1 R2 R3 K1) t i3 row = q := ⟨_, rfl⟩
      have HFA : Hid (∀ w', Gro w15 w' → Calls Tryd.prog 28 #[.agg #[.int .i64 ver, .slice (some ⟨tb, 0, none⟩) n cp], .int .i64 i2, .slice sa r.length sc, .int .i64 i3] w' (fun e w'' => e = .returned (.bool qa) ∧ Gro w' w'')) := fun w' h => by
        rw [← hqa]; exact fits_calls true 3 _ _ ver _ _ i2 i3 _ r w' (hT w' h) (hR w' h)
      have HGA : Hid (∀ w', Gro w15 w' → Calls Tryd.prog 29 #[.agg #[.int .i64 ver, .slice (some ⟨tb, 0, none⟩) n cp], .int .i64 i2, .slice sa r.length sc, .int .i64 i3] w' (fun e w'' => e = .returned (.bool qa) ∧ Gro w' w'')) := fun w' h => by
        rw [← hqa]; exact refFits_calls true 3 _ _ ver _ _ i2 i3 _ r w' (hT w' h) (hR w' h)
      have HFB : Hid (∀ w', Gro w15 w' → Calls Tryd.prog 28 #[.agg #[.int .i64 rver, .slice ra0 RN rc0], .int .i64 i2, .slice va0 vn0 vc0, .int .i64 i3] w' (fun e w'' => e = .returned (.bool qb) ∧ Gro w' w'')) := fun w' h => by
        rw [← hqb]; exact fits_calls false 0 _ _ rver _ _ i2 i3 _ row w' (hTR w' h) (hR0 w' h)
      have HGB : Hid (∀ w', Gro w15 w' → Calls Tryd.prog 29 #[.agg #[.int .i64 rver, .slice ra0 RN rc0], .int .i64 i2, .slice va0 vn0 vc0, .int .i64 i3] w' (fun e w'' => e = .returned (.bool qb) ∧ Gro w' w'')) := fun w' h => by
        rw [← hqb]; exact refFits_calls false 0 _ _ rver _ _ i2 i3 _ row w' (hTR w' h) (hR0 w' h)
      have HFC : Hid (∀ w', Gro w15 w' → Calls Tryd.prog 28 #[.agg #[.int .i64 ver, .slice (some ⟨tb, 0, none⟩) n cp], .int .i64 t, .slice va0 vn0 vc0, .int .i64 i3] w' (fun e w'' => e = .returned (.bool qc) ∧ Gro w' w'')) := fun w' h => by
        rw [← hqc]; exact fits_calls true 3 _ _ ver _ _ t i3 _ row w' (hT w' h) (hR0 w' h)
      have HGC : Hid (∀ w', Gro w15 w' → Calls Tryd.prog 29 #[.agg #[.int .i64 ver, .slice (some ⟨tb, 0, none⟩) n cp], .int .i64 t, .slice va0 vn0 vc0, .int .i64 i3] w' (fun e w'' => e = .returned (.bool qc) ∧ Gro w' w'')) := fun w' h => by
        rw [← hqc]; exact refFits_calls true 3 _ _ ver _ _ t i3 _ row w' (hT w' h) (hR0 w' h)
      have ea : (qa == qa) = true := by simp
      have eb : (qb == qb) = true := by simp
      have ec : (qc == qc) = true := by simp
      have HGF : Hid (∀ nn os, Below w.heap.size w (Sort.grow (w15.drewN nn) os)) := fun nn os => HB0.out.trans ((HM15.out.later ((Gro.refl w15).grown nn os).below).g.mono HB0.out.size)
      clear hT hTR hR hR0 hqa hqb hqc
      go_upto_region 14 with fail
      go_quiet_grown (first | (go_at_call 11; with_reducible refine gro_calls (HBE.out _ ((Gro.refl w15).grown _ _))) | (go_at_call 28; with_reducible refine gro_calls (HF1.out _ ((Gro.refl w15).grown _ _))) | (go_at_call 28; with_reducible refine gro_calls (HFA.out _ ((Gro.refl w15).grown _ _))) | (go_at_call 28; with_reducible refine gro_calls (HFB.out _ ((Gro.refl w15).grown _ _))) | (go_at_call 28; with_reducible refine gro_calls (HFC.out _ ((Gro.refl w15).grown _ _))) | (go_at_call 29; with_reducible refine gro_calls (HGA.out _ ((Gro.refl w15).grown _ _))) | (go_at_call 29; with_reducible refine gro_calls (HGB.out _ ((Gro.refl w15).grown _ _))) | (go_at_call 29; with_reducible refine gro_calls (HGC.out _ ((Gro.refl w15).grown _ _))))
      clear sl s0 s1 xl x0 x1
      go_wp2_with fail
      go_ret
      exact ⟨rfl, HGF.out _ _⟩
set_option maxRecDepth 100000 in
theorem lifted (os : Os) (started : os.Started) (H : Type) (enc : TypeId × Value → H) :
    ReturnsInHanded {} Tryd.checked os 5 .any (fun w args => (Rows.schemaFitsSpec.pre enc Tryd.prog Tryd.f5 [] false w args ∧ laidMetH Tryd.prog laid1 w) ∧ sizedMet enc Tryd.prog Tryd.f5 (OpenSpec.ofChange Rows.schemaFitsSpec) false w args) (Rows.schemaFitsSpec.post enc Tryd.prog Tryd.f5 false true false false) := by
  refine returnsInHanded_of_change_and (C := Tryd.checked) (X := fun w _ => laidMetH Tryd.prog laid1 w) (fun _ _ _ hh h => h.of_heap hh) own started (by kernel_rfl) Tryd.func5
    (ChangeSpec.witness_shaped (enc := enc) (C := Tryd.checked) (os := os) (X := fun w _ => laidMetH Tryd.prog laid1 w) false (World.doorLaid Tryd.prog 400 os) #[.slice none 0 0, .agg #[.int .i64 0, .slice none 0 0], .int .i64 0, .int .i64 0, .slice none 0 0] 8 rfl (World.shaped_of_RefB (by kernel_rfl) (by kernel_rfl)) (by kernel_rfl) (by kernel_rfl) (by kernel_rfl) (door_met os _)) ?_
  intro W base args ds gs before hval0 hW hcnd hsz0 hL hlast
  have hS : Shapes W := shapes_of_laid hL
  have hval : ∀ (j : Nat) t v, Tryd.f5.params[j]? = some t → args[j]? = some v → Value.okWide Tryd.prog W .any base t v := hval0
  have hW' := hW
  obtain ⟨p, q, hA0, hV, rfl, hfz, hnd⟩ := hW
  have hA : DataW.TrodAll enc Tryd.prog W 0 (fun _ => true) true Tryd.f5.params.toList args.toList ds p := hA0
  have hsz : (DataW.weightsEach Tryd.prog (Tryd.f5.params.toList ++ Rows.schemaFitsSpec.plain.varTypes Tryd.prog) (ds ++ gs)).all (· ≤ reachBytes) = true := hsz0
  rw [Tryd.params5] at hA hval hsz
  obtain ⟨v0, vs0, d0, ds0, p0, q0, hargs, rfl, rfl, h0, r0⟩ := trodAll_cons hA
  obtain ⟨v1, vs1, d1, ds1, p1, q1, rfl, rfl, rfl, h1, r1⟩ := trodAll_cons r0
  obtain ⟨v2, vs2, d2, ds2, p2, q2, rfl, rfl, rfl, h2, r2⟩ := trodAll_cons r1
  obtain ⟨v3, vs3, d3, ds3, p3, q3, rfl, rfl, rfl, h3, r3⟩ := trodAll_cons r2
  obtain ⟨v4, vs4, d4, ds4, p4, q4, rfl, rfl, rfl, h4, r4⟩ := trodAll_cons r3
  obtain ⟨rfl, rfl, rfl⟩ := trodAll_nil r4
  obtain rfl : args = #[v0, v1, v2, v3, v4] := by cases args; simp_all
  obtain ⟨rfl, rfl⟩ := trodVars_none hV
  have lt0 : ∀ x ∈ p0, x.block < W.heap.size := by obtain ⟨m, hm⟩ := h0; exact DataW.trod_lt m _ _ _ hm
  obtain ⟨a0, len0, cap0, z0, rfl, w0⟩ := open_codes (hval 0 22 v0 rfl rfl) h0
  have lt1 : ∀ x ∈ p1, x.block < W.heap.size := by obtain ⟨m, hm⟩ := h1; exact DataW.trod_lt m _ _ _ hm
  obtain ⟨e1, s1, x1, rfl, w1⟩ := open_Schema (hval 1 25 v1 rfl rfl) h1 (fun n hn => by have hq := List.all_eq_true.1 hsz n (DataW.weights_mem_each (j := 1) (t := 25) rfl rfl n hn); simpa using hq)
  have lt2 : ∀ x ∈ p2, x.block < W.heap.size := by obtain ⟨m, hm⟩ := h2; exact DataW.trod_lt m _ _ _ hm
  obtain ⟨x2, rfl⟩ := open_int7 (hval 2 3 v2 rfl rfl) h2
  have lt3 : ∀ x ∈ p3, x.block < W.heap.size := by obtain ⟨m, hm⟩ := h3; exact DataW.trod_lt m _ _ _ hm
  obtain ⟨x3, rfl⟩ := open_int7 (hval 3 3 v3 rfl rfl) h3
  have lt4 : ∀ x ∈ p4, x.block < W.heap.size := by obtain ⟨m, hm⟩ := h4; exact DataW.trod_lt m _ _ _ hm
  obtain ⟨x4, w4⟩ := open_Row (hval 4 43 v4 rfl rfl) h4 (fun es sp he => by have hq := sized_slice (j := 4) (e := 56) hsz rfl (by rw [he]; rfl) Tryd.underlying43; rwa [bytes24] at hq)
  clear hA0 hval0
  refine (walk a0 len0 cap0 z0 e1 s1 x1 x2 x3 v4 x4 W w0 w1 w4 hS).mono fun e W' ⟨he, bel⟩ => ?_
  subst he
  exact ⟨_, rfl, _, _, _, [], _, [], hW', trodAll_mk1 (shut_bool Tryd.underlying4 _), (trodAll_cons_mk (Below.trod laidOut (by kernel_rfl) (of_decide_eq_true (by kernel_rfl)) h0 bel lt0) (trodAll_cons_mk (Below.trod laidOut (by kernel_rfl) (of_decide_eq_true (by kernel_rfl)) h1 bel lt1) (trodAll_cons_mk (Below.trod laidOut (by kernel_rfl) (of_decide_eq_true (by kernel_rfl)) h2 bel lt2) (trodAll_cons_mk (Below.trod laidOut (by kernel_rfl) (of_decide_eq_true (by kernel_rfl)) h3 bel lt3) (trodAll_cons_mk (Below.trod laidOut (by kernel_rfl) (of_decide_eq_true (by kernel_rfl)) h4 bel lt4) trodAll_mk0))))), rfl, bel.frame _, fun h => by cases h⟩

theorem over : Rows.schemaFitsRow.holds Tryd.pinned (OpenSpec.ofChange Rows.schemaFitsSpec) :=
  OpenClaim.holds_of_wide 5 Tryd.f5 rfl rfl rfl rfl rfl rfl rfl ⟨rfl, rfl, rfl, rfl, rfl⟩ rfl rfl rfl rfl rfl (by kernel_rfl) Tryd.func5 (by kernel_rfl)
    (of_decide_eq_true (by kernel_rfl)) (by unfold Func.isWrapper; first | (rw [if_pos (by decide +kernel)]; kernel_rfl) | (rw [if_neg (by decide +kernel)]; exact ⟨rfl, rfl⟩))
    (fun os started H enc _ => lifted os started H enc)
theorem proved : Rows.SchemaFitsCardSaid :=
  Claim7.holds_tied_plain_at .later [] [.data] true (true, "8557f04bab906c1f0e989062b3ce7dd8f480b1e042db6bf49772a294d4c16312") false
    over (fun _ h => by cases h) (by kernel_rfl) (fun _ h => by cases h) schemaFits_row_tie rfl ⟨rfl, rfl⟩ (by kernel_rfl) rfl
    (fun f fn hf hfn => by
      obtain rfl : f = 5 := Option.some.inj ((show Tryd.prog.funcNamed "partsync/partsynclaw07.SchemaFits" = some 5 by kernel_rfl).symm.trans hf) |>.symm
      obtain rfl : fn = Tryd.f5 := (Option.some.inj (Tryd.func5.symm.trans hfn)).symm
      exact ⟨by kernel_rfl, fun j t ht => by
        rw [Tryd.params5] at ht
        have hm : t ∈ [22, 25, 3, 3, 43] := by simpa using Array.mem_of_getElem? ht
        have hall : ([22, 25, 3, 3, 43].all fun u => !Tryd.prog.wantsStandIn u) = true := by kernel_rfl
        exact (show Tryd.prog.wantsStandIn t = false by simpa using List.all_eq_true.1 hall t hm)⟩)
    (by kernel_rfl)
end SFits
end Go.Proofs.YtlchcakmcikjnaaDoor
