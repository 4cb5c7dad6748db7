/- The law CodecValues returns true for all codes, bytes, values and rows, without conditions. -/
import Derived.Test.YtllakifmflploaaYd
import Derived.Test.YtllakifmflploaaKa
import Derived.Deep.RegionHeld3
set_option linter.unusedSimpArgs false
set_option linter.unusedVariables false
namespace Go.Proofs.Ytllakifmflploaa
open Go.ChangeShapes Go.WideShapes Go.ChangeAt Go.RowKit Go.Joins

namespace Values
open Go.Lib (byteCells uvarint zigzag)
theorem drew_by (w : World) : w.grownBy w.drew none := ⟨rfl, rfl, rfl, Nat.le_refl _, fun _ _ _ => rfl⟩
theorem same_gro {w : World} {va vb : Value} {l : List UInt8} (ha : BytesAt w va l) (hb : BytesAt w vb l) : Calls Try.prog 24 #[va, vb] w fun e w' => e = .returned (.bool true) ∧ Gro w w' :=
  (same_bytes va vb l l w ha hb).mono fun e w' ⟨h1, h2⟩ => by subst h2; rw [decide_eq_true rfl] at h1; exact ⟨h1, Gro.refl _⟩
theorem below_grown' {w w' : World} (h : Below w.heap.size w w') : w.grownBy w' none := ⟨h.os, h.tape, h.output, h.size, fun k hk _ => h.block k hk⟩
/-- Rows in a block of the law's own. -/
structure RowsIn' (w : World) (b : Nat) (rows : List (List V)) : Prop where
  blk : b < w.heap.size
  at_ : ∀ i (h : i < rows.length), ∃ u, w.cell? ⟨b, i, none⟩ = some u ∧ RowAt w u rows[i]
theorem RowsIn'.later {w w' : World} {b : Nat} {rows : List (List V)} (h : RowsIn' w b rows) (hw : Below w.heap.size w w') : RowsIn' w' b rows :=
  ⟨Nat.lt_of_lt_of_le h.blk hw.size, fun i hi => let ⟨u, h1, h2⟩ := h.at_ i hi; ⟨u, (hw.cell (p := ⟨b, i, none⟩) h.blk).trans h1, h2.later hw⟩⟩
set_option maxHeartbeats 4000000 in
set_option maxRecDepth 100000 in
theorem walk (a : Option Addr) (len cap : Nat) (zs : List Int) (a1 : Option Addr) (len1 cap1 : Nat) (zs1 : List Int) (x : V) (vr : Value) (r : List V) (w : World) (hr : IsRow .u8 w a len cap zs) (hr1 : IsRow .u8 w a1 len1 cap1 zs1) (hx : isI64 x.n) (hrow : RowAt w vr r) (hrn : ∀ y ∈ r, isI64 y.n) :
    Calls Try.prog 4 #[.slice a len cap, .slice a1 len1 cap1, x.val, vr] w fun e w' => e = .returned (.bool true) ∧ Below w.heap.size w w' := by
  have mx := mixed
  obtain ⟨xk, xn, xt⟩ := x
  obtain ⟨bs0, hb0⟩ := bytes_of_row hr1
  obtain ⟨ra, rca, rfl, -, -⟩ := id hrow
  obtain ⟨W0, hW0⟩ : ∃ W0, W0 = w.alloc (.cells #[.int .i64 xk, .int .i64 xn, .string xt] 35) := ⟨_, rfl⟩
  have hw0 : Below w.heap.size w W0 := by rw [hW0]; exact (Below.refl _ _).alloc (Nat.le_refl _) _
  have hs0 : w.heap.size + 1 = W0.heap.size := by rw [hW0]; simp
  have HN := Lib.hid (new_calls a len cap zs W0 (hr.later hw0))
  have HD0 := Lib.hid hb0
  have HD := Lib.hid (hb0.later hw0)
  have HR := Lib.hid (hrow.later hw0)
  have HR0 := Lib.hid hrow
  have HRN := Lib.hid hrn
  have HX := Lib.hid hx
  have HW0 := Lib.hid hw0
  have HS0 := Lib.hid hs0
  have c0 : W0.cell? ⟨w.heap.size, 0, none⟩ = some (.int .i64 xk) := by rw [hW0]; go_simp
  have c1 : W0.cell? ⟨w.heap.size, 1, none⟩ = some (.int .i64 xn) := by rw [hW0]; go_simp
  have c2 : W0.cell? ⟨w.heap.size, 2, none⟩ = some (.string xt) := by rw [hW0]; go_simp
  have HWE := Lib.hid hW0
  clear hr hr1 hb0 hrow hrn hx hw0 hs0 hW0
  go_enter Try.func4, Try.ntmps4
  go_wp2_with fail
  rw [← HWE.out]
  refine HN.out.mono ?_
  rintro e w1 ⟨cb, c, rfl, hbs, hcs, hb1⟩
  have hlt : w.heap.size < W0.heap.size := by have := HS0.out; omega
  have d0 : w1.cell? ⟨w.heap.size, 0, none⟩ = some (.int .i64 xk) := (hb1.cell (p := ⟨w.heap.size, 0, none⟩) hlt).trans c0
  have d1 : w1.cell? ⟨w.heap.size, 1, none⟩ = some (.int .i64 xn) := (hb1.cell (p := ⟨w.heap.size, 1, none⟩) hlt).trans c1
  have d2 : w1.cell? ⟨w.heap.size, 2, none⟩ = some (.string xt) := (hb1.cell (p := ⟨w.heap.size, 2, none⟩) hlt).trans c2
  have hne : w.heap.size ≠ cb := by omega
  have hcb : w.heap.size ≤ cb := by omega
  have HCB := Lib.hid hcb
  have HB1 := Lib.hid (HW0.out.trans (hb1.mono HW0.out.size))
  have HP := Lib.hid (part_stays _ bs0 w1 (HD.out.later hb1))
  have HR1 := Lib.hid (HR.out.later hb1)
  have l1 : w.heap.size < w1.heap.size := Nat.lt_of_lt_of_le hlt hb1.size
  clear HN hbs hb1 c0 c1 c2 hcb hlt HR HD
  go_wp2_with fail
  refine HP.out.mono ?_
  rintro e w2 ⟨v2, rfl, hst, rfl⟩
  have hat := hst w HD0.out
  have hl200 : (bs0.take 200).length ≤ 200 := by simp; omega
  generalize bs0.take 200 = B at hat hl200
  have HAT0 := Lib.hid hat
  have HL := Lib.hid hl200
  clear hat hst HP HD0 hl200
  go_wp2_with fail
  go_region_held3 (fun w' => w'.cell? ⟨w.heap.size, 0, none⟩ = some (.int .i64 xk) ∧ w'.cell? ⟨w.heap.size, 1, none⟩ = some (.int .i64 xn) ∧ w'.cell? ⟨w.heap.size, 2, none⟩ = some (.string xt)) (go_keep)
    (first
      | (go_at_call 21; refine (any_calls cb c _ (hcs.grown (drew_by _))).mono ?_; rintro e w2 ⟨⟨k2, n2, t2⟩, rfl, hval2, hnum2, hcs2, hby2⟩; have p0 : w2.cell? ⟨w.heap.size, 0, none⟩ = some (.int .i64 xk) := hby2.cell (by go_simp) (by simp; omega); have p1 : w2.cell? ⟨w.heap.size, 1, none⟩ = some (.int .i64 xn) := hby2.cell (by go_simp) (by simp; omega); have p2 : w2.cell? ⟨w.heap.size, 2, none⟩ = some (.string xt) := hby2.cell (by go_simp) (by simp; omega); have HBY2 := Lib.hid hby2; have HNM2 := Lib.hid hnum2; have HCS2 := Lib.hid hcs2; clear hby2 hval2 hnum2 hcs2))
  obtain ⟨W, hW⟩ : ∃ W, W = w2.alloc (.cells #[.int .i64 xk, .int .i64 xn, .string xt, .int .i64 k2, .int .i64 n2, .string t2] 35) := ⟨_, rfl⟩
  have hby : w1.grownBy w2 (some cb) := by_trans (by_some (drew_by w1) _) ⟨HBY2.out.os, HBY2.out.tape, HBY2.out.output, HBY2.out.size, HBY2.out.block⟩
  have hb2 : Below w.heap.size w w2 := HB1.out.grown hby HB1.out.size (fun k hk => by cases hk; exact HCB.out)
  have hbW : Below w.heap.size w W := by rw [hW]; exact hb2.alloc hb2.size _
  have hcW : CaseAt W cb c := by rw [hW]; exact HCS2.out.grown (World.grownBy_alloc w2 _ none)
  have hvs : ∃ vs : List V, vs.length = 2 ∧ RowIn W w2.heap.size 0 vs ∧ ∀ y ∈ vs, isI64 y.n := by
    refine ⟨[⟨xk, xn, xt⟩, ⟨k2, n2, t2⟩], rfl, ⟨by rw [hW]; simp, fun i hi => ?_⟩, fun y hy => ?_⟩
    · obtain rfl | rfl : i = 0 ∨ i = 1 := by simp at hi; omega
      all_goals (rw [hW]; exact ⟨by go_simp; try rfl, by go_simp; try rfl, by go_simp; try rfl⟩)
    · simp at hy
      rcases hy with rfl | rfl
      · exact HX.out
      · exact HNM2.out
  obtain ⟨vs, hvl, hvr, hvn⟩ := hvs
  have HVL := Lib.hid hvl
  have HVR := Lib.hid hvr
  have HVN := Lib.hid hvn
  have HBW := Lib.hid hbW
  have HCW := Lib.hid hcW
  have HATW := Lib.hid (HAT0.out.later hbW)
  have HRW := Lib.hid (HR0.out.later hbW)
  clear hby hb2 hbW hcW hvl hvr hvn HBY2 HNM2 HCS2 HB1 HR1 HX HWE HS0 HW0 d0 d1 d2 p0 p1 p2 hcs hne l1
  go_wp2_with fail
  rw [← hW]
  generalize w2.heap.size = g at HVR ⊢
  clear hW
  have he := eql_V
  go_loopw [32] (fun i wr => ∃ k : Nat, k ≤ 2 ∧ i = .int .i64 k ∧ Below W.heap.size W wr) (fun i _ => 2 - (intOf i).toNat)
  case atStart => exact ⟨0, by omega, rfl, Below.refl _ _⟩
  case round =>
    obtain ⟨k, hk, rfl, hbr⟩ := hrel
    have HB := Lib.hid hbr
    by_cases hlt : k < 2
    · have hkl : k < vs.length := by rw [HVL.out]; exact hlt
      obtain ⟨e0, e1, e2⟩ := (HVR.out.later hbr).at_ k hkl
      have hgl := (HVR.out.later hbr).blk
      rw [Nat.zero_add] at e0 e1 e2
      have hpn := HVN.out vs[k] (List.getElem_mem hkl)
      generalize vs[k] = P at e0 e1 e2 hpn
      obtain ⟨pk, pn, pT⟩ := P
      simp only at e0 e1 e2
      have HPN := Lib.hid hpn
      have hlt' : decide ((k : Int) < 2) = true := by simp; omega
      obtain ⟨wo, rfl⟩ : ∃ wo : World, wo = wr := ⟨_, rfl⟩
      clear hbr hpn
      go_wp2_with fail
      obtain ⟨Wm, hWm⟩ : ∃ Wm, Wm = wo.alloc (.cells #[.int .i64 pk, .int .i64 pn, .string pT] 35) := ⟨_, rfl⟩
      rw [← hWm]
      have HPm : Box Wm wo.heap.size ⟨pk, pn, pT⟩ := by rw [hWm]; exact Box.new wo ⟨pk, pn, pT⟩ _
      have hbm : Below W.heap.size W Wm := by rw [hWm]; exact HB.out.alloc HB.out.size _
      generalize wo.heap.size = gp at HPm ⊢
      obtain ⟨lp, f0, f1, f2⟩ := HPm.cells
      have HBm := Lib.hid hbm
      have HA := Lib.hid (AppendValue_calls v2 B ⟨pk, pn, pT⟩ Wm (HATW.out.later hbm) (by have := HL.out; omega) HPN.out)
      have HPM := Lib.hid HPm
      clear hWm hbm e0 e1 e2 hgl HPm
      go_wp2_with fail
      refine HA.out.mono ?_
      intro e w3 ho
      obtain ⟨p3, rfl, hat3, hb3⟩ := valOut_is ho
      have HAT3 := Lib.hid hat3
      have hP3 := HPM.out.later hb3
      obtain ⟨lp3, g0, g1, g2⟩ := hP3.cells
      have HPM3 := Lib.hid hP3
      have HBm3 := Lib.hid (HBm.out.trans (hb3.mono HBm.out.size))
      have HA2 := Lib.hid (refAppendValue_calls v2 B ⟨pk, pn, pT⟩ w3 (HATW.out.later HBm3.out) (by have := HL.out; omega) HPN.out)
      obtain ⟨ER, hER⟩ : ∃ ER, valErr ⟨pk, pn, pT⟩ = ER := ⟨_, rfl⟩
      rw [hER]
      have HER := Lib.hid hER
      clear ho hat3 hb3 hP3 HA lp f0 f1 f2 hER
      go_wp2_with fail
      refine HA2.out.mono ?_
      intro e w4 ho
      obtain ⟨p4, rfl, hat4, hb4⟩ := valOut_is ho
      rw [HER.out]
      have HAT4 := Lib.hid hat4
      have HAT34 := Lib.hid (HAT3.out.later hb4)
      have hP4 := HPM3.out.later hb4
      obtain ⟨lp4, q0, q1, q2⟩ := hP4.cells
      have HB4 := Lib.hid (HBm3.out.trans (hb4.mono HBm3.out.size))
      obtain ⟨SZ, hSZ⟩ : ∃ SZ, vsize ⟨pk, pn, pT⟩ = SZ := ⟨_, rfl⟩
      have hs1 : ∀ w', Calls Try.prog 25 #[V.val ⟨pk, pn, pT⟩] w' fun e w'' => e = .returned (.int .i64 SZ) ∧ Below w'.heap.size w' w'' := fun w' => by rw [← hSZ]; exact Size_calls _ HPN.out w'
      have hs2 : ∀ w', Calls Try.prog 26 #[V.val ⟨pk, pn, pT⟩] w' fun e w'' => e = .returned (.int .i64 SZ) ∧ Below w'.heap.size w' w'' := fun w' => by rw [← hSZ]; exact refSize_calls _ HPN.out w'
      have HS1 := Lib.hid hs1
      have HS2 := Lib.hid hs2
      have hen : (ER != ER) = false := by simp
      have hee : (ER == ER) = true := by simp
      have hsn : (SZ != SZ) = false := by simp
      have hse : (SZ == SZ) = true := by simp
      clear ho hat4 hb4 hP4 HA2 lp3 g0 g1 g2 hSZ hs1 hs2 he HPM HPM3 HBm HBm3 HAT3 HER
      go_wp2_with fail
      refine wp_region_quiet_loose mx (by kernel_rfl) ?_
      repeat (quiet_step ((first | (go_at_call 24; refine gro_loose (same_gro (HAT34.out.later (below_loose _ _ _)) (HAT4.out.later (below_loose _ _ _)))) | (go_at_call 25; refine loose_calls (HS1.out _)) | (go_at_call 26; refine loose_calls (HS2.out _)))))
      refine wpQuiet_nil ?_
      intro x1 hw'
      obtain ⟨⟨nq, osq⟩, hw''⟩ := hw'
      subst hw''
      go_wp2
      exact ⟨⟨k + 1, by omega, by go_num, HB4.out.trans ((below_loose _ _ _).mono HB4.out.size)⟩, by simp [intOf]; omega⟩
    · have hlt' : decide ((k : Int) < 2) = false := by simp; omega
      have hcs : CaseAt wr cb c := HCW.out.grown (below_grown' hbr)
      have HBw : Hid (Below w.heap.size w wr) := HBW.out.trans (hbr.mono HBW.out.size)
      have HI := Lib.hid (int_calls cb c 14 (by omega) (by omega) wr hcs)
      have HATr := Lib.hid (HATW.out.later hbr)
      have HRr := Lib.hid (HRW.out.later hbr)
      clear hcs hbr HB HATW HRW HBW HCW HVR HVL HVN
      go_wp2_with fail
      refine HI.out.mono ?_
      rintro e w5 ⟨x0, rfl, hx0, hx1, hcs5, hby5⟩
      obtain ⟨m, rfl⟩ : ∃ m : Nat, x0 = m := ⟨x0.toNat, by omega⟩
      have HC := Lib.hid (cellsv_calls cb c m (by omega) w5 hcs5)
      have hb5 : Below w.heap.size w w5 := HBw.out.grown hby5 HBw.out.size (fun k hk => by cases hk; exact HCB.out)
      have HB5 := Lib.hid hb5
      have HM : Hid (m ≤ 13) := by show _ ≤ _; omega
      clear HI hcs5 hby5 hx0 hx1 hb5
      go_wp2_with fail
      refine HC.out.mono ?_
      rintro e w6 ⟨vc, rc, rfl, hrl, hown, hcs6, hby6, hall⟩
      have hb6 : Below w.heap.size w w6 := HB5.out.grown hby6 HB5.out.size (fun k hk => by cases hk; exact HCB.out)
      have hrc : RowAt w6 vc rc := .of_owned hown (by have := HM.out; omega)
      obtain ⟨rb, rcb, rfl, -, -⟩ := id hrc
      obtain ⟨W6, hW6⟩ : ∃ W6, W6 = w6.alloc (.cells #[.slice ra r.length rca, .slice rb rc.length rcb] 25) := ⟨_, rfl⟩
      have hb6a : Below w6.heap.size w6 W6 := by rw [hW6]; exact (Below.refl _ _).alloc (Nat.le_refl _) _
      have hbW6 : Below w.heap.size w W6 := hb6.trans (hb6a.mono hb6.size)
      have hrows : ∃ rs : List (List V), rs.length = 2 ∧ RowsIn' W6 w6.heap.size rs ∧ ∀ l ∈ rs, ∀ y ∈ l, isI64 y.n := by
        refine ⟨[r, rc], rfl, ⟨by rw [hW6]; simp, fun i hi => ?_⟩, fun l hl => ?_⟩
        · obtain rfl | rfl : i = 0 ∨ i = 1 := by simp at hi; omega
          · exact ⟨.slice ra r.length rca, by rw [hW6]; go_simp; try rfl, HR0.out.later hbW6⟩
          · exact ⟨.slice rb rc.length rcb, by rw [hW6]; go_simp; try rfl, hrc.later hb6a⟩
        · simp at hl
          rcases hl with rfl | rfl
          · exact HRN.out
          · exact fun y hy => (hall y hy).2
      obtain ⟨rs, hsl, hsr, hsn⟩ := hrows
      have HSL := Lib.hid hsl
      have HSR := Lib.hid hsr
      have HSN := Lib.hid hsn
      have HBW6 := Lib.hid hbW6
      have HAT6 := Lib.hid (HAT0.out.later hbW6)
      clear HC hrl hown hcs6 hby6 hall hb6 hrc hb6a hbW6 hsl hsr hsn HB5 HM HBw HATr HRr HR0 HAT0 HRN HCB
      go_wp2_with fail
      rw [← hW6]
      generalize w6.heap.size = g6 at HSR ⊢
      clear hW6
      go_loopw [72] (fun i wr => ∃ k : Nat, k ≤ 2 ∧ i = .int .i64 k ∧ Below W6.heap.size W6 wr) (fun i _ => 2 - (intOf i).toNat)
      case atStart => exact ⟨0, by omega, rfl, Below.refl _ _⟩
      case round =>
        obtain ⟨k, hk, rfl, hbr⟩ := hrel
        have HB := Lib.hid hbr
        by_cases hlt : k < 2
        · have hkl : k < rs.length := by rw [HSL.out]; exact hlt
          obtain ⟨u, e0, hu⟩ := (HSR.out.later hbr).at_ k hkl
          have hgl := (HSR.out.later hbr).blk
          have hpn := HSN.out rs[k] (List.getElem_mem hkl)
          generalize rs[k] = P at hu hpn
          have HPN := Lib.hid hpn
          have HU := Lib.hid hu
          have hlt' : decide ((k : Int) < 2) = true := by simp; omega
          have HA := Lib.hid (AppendRow_calls v2 u B P wr (HAT6.out.later hbr) (by have := HL.out; omega) hu hpn)
          clear hbr hpn hu
          obtain ⟨wo, rfl⟩ : ∃ wo : World, wo = wr := ⟨_, rfl⟩
          go_wp2_with fail
          refine HA.out.mono ?_
          intro e w3 ho
          obtain ⟨p3, rfl, hat3, hb3⟩ := rowOut_is ho
          have HAT3 := Lib.hid hat3
          have HU3 := Lib.hid (HU.out.later hb3)
          have HBm3 := Lib.hid (HB.out.trans (hb3.mono HB.out.size))
          have HA2 := Lib.hid (refAppendRow_calls v2 u B P w3 (HAT6.out.later HBm3.out) (by have := HL.out; omega) HU3.out HPN.out)
          obtain ⟨ER, hER⟩ : ∃ ER, rowErr P = ER := ⟨_, rfl⟩
          rw [hER]
          have HER := Lib.hid hER
          clear ho hat3 hb3 HA hER e0 hgl
          go_wp2_with fail
          refine HA2.out.mono ?_
          intro e w4 ho
          obtain ⟨p4, rfl, hat4, hb4⟩ := rowOut_is ho
          rw [HER.out]
          have HAT4 := Lib.hid hat4
          have HAT34 := Lib.hid (HAT3.out.later hb4)
          have HU4 := Lib.hid (HU3.out.later hb4)
          have HB4 := Lib.hid (HBm3.out.trans (hb4.mono HBm3.out.size))
          obtain ⟨SZ, hSZ⟩ : ∃ SZ, rsize P = SZ := ⟨_, rfl⟩
          have hs1 : ∀ w', Below w4.heap.size w4 w' → Calls Try.prog 31 #[u] w' fun e w'' => e = .returned (.int .i64 SZ) ∧ Below w'.heap.size w' w'' := fun w' hb => by rw [← hSZ]; exact RowSize_calls u P w' (HU4.out.later hb) HPN.out
          have hs2 : ∀ w', Below w4.heap.size w4 w' → Calls Try.prog 32 #[u] w' fun e w'' => e = .returned (.int .i64 SZ) ∧ Below w'.heap.size w' w'' := fun w' hb => by rw [← hSZ]; exact refRowSize_calls u P w' (HU4.out.later hb) HPN.out
          have HS1 := Lib.hid hs1
          have HS2 := Lib.hid hs2
          have hen : (ER != ER) = false := by simp
          have hee : (ER == ER) = true := by simp
          have hsn : (SZ != SZ) = false := by simp
          have hse : (SZ == SZ) = true := by simp
          clear ho hat4 hb4 HA2 hSZ hs1 hs2 HBm3 HAT3 HER HU3 HU
          go_wp2_with (first | (go_at_call 24; refine (same_bytes _ _ _ _ _ HAT34.out HAT4.out).mono ?_; rw [decide_eq_true rfl]; rintro e w' ⟨rfl, rfl⟩) | (go_at_call 31; refine (HS1.out _ (Below.refl _ _)).mono ?_; rintro e w7 ⟨rfl, hb7⟩; have HB7 := Lib.hid hb7; clear hb7) | (go_at_call 32; refine (HS2.out _ HB7.out).mono ?_; rintro e w8 ⟨rfl, hb8⟩; have HB8 := Lib.hid hb8; clear hb8))
          exact ⟨⟨k + 1, by omega, by go_num, (HB4.out.trans (HB7.out.mono HB4.out.size)).trans (HB8.out.mono (HB4.out.trans (HB7.out.mono HB4.out.size)).size)⟩, by simp [intOf]; omega⟩
        · have hlt' : decide ((k : Int) < 2) = false := by simp; omega
          have HBr := Lib.hid (HBW6.out.trans (hbr.mono HBW6.out.size))
          clear hbr HB
          go_wp2_with fail
          refine (begun2_calls _).mono ?_
          rintro e w9 ⟨rfl, hb9⟩
          have HB9 := Lib.hid hb9
          clear hb9
          go_wp2
          go_ret
          exact ⟨rfl, HBr.out.trans (HB9.out.mono HBr.out.size)⟩
set_option maxRecDepth 100000 in
theorem lifted (os : Os) (started : os.Started) (H : Type) (enc : TypeId × Value → H) :
    ReturnsInHanded {} Try.checked os 4 .any (Rows.codecValuesSpec.pre6 enc Try.prog Try.f4 Rows.codecValuesRow.domain false) (Rows.codecValuesSpec.post enc Try.prog Try.f4 false true false false) := by
  refine returnsInHanded_of_change_sized (C := Try.checked) own started (by kernel_rfl) Try.func4
    (ChangeSpec.witness6 (enc := enc) (C := Try.checked) false ⟨#[], #[.slice none 0 0, .slice none 0 0, .agg #[.int .i64 0, .int .i64 0, .string ByteArray.empty], .slice none 0 0], []⟩ 8 (by kernel_rfl) (by kernel_rfl) (by kernel_rfl) (by kernel_rfl)) ?_
  intro W base args ds gs before hval0 hW hcnd hsz0 hsizes
  have hval : ∀ (j : Nat) t v, Try.f4.params[j]? = some t → args[j]? = some v → Value.okWide Try.prog W .any base t v := hval0
  have hW' := hW
  obtain ⟨p, q, hA0, hV, rfl, hfz, hnd⟩ := hW
  have hA : DataW.TrodAll enc Try.prog W 0 (fun _ => true) true Try.f4.params.toList args.toList ds p := hA0
  have hsz : (DataW.weightsEach Try.prog (Try.f4.params.toList ++ Rows.codecValuesSpec.plain.varTypes Try.prog) (ds ++ gs)).all (· ≤ reachBytes) = true := hsz0
  rw [Try.params4] at hA hval hsz
  obtain ⟨v0, vs0, d0, ds0, p0, q0, hargs, rfl, rfl, h0, r0⟩ := trodAll_cons hA
  obtain ⟨v1, vs1, d1, ds1, p1, q1, rfl, rfl, rfl, h1, r1⟩ := trodAll_cons r0
  obtain ⟨v2, vs2, d2, ds2, p2, q2, rfl, rfl, rfl, h2, r2⟩ := trodAll_cons r1
  obtain ⟨v3, vs3, d3, ds3, p3, q3, rfl, rfl, rfl, h3, r3⟩ := trodAll_cons r2
  obtain ⟨rfl, rfl, rfl⟩ := trodAll_nil r3
  obtain rfl : args = #[v0, v1, v2, v3] := by cases args; simp_all
  obtain ⟨rfl, rfl⟩ := trodVars_none hV
  have lt0 : ∀ x ∈ p0, x.block < W.heap.size := by obtain ⟨m, hm⟩ := h0; exact DataW.trod_lt m _ _ _ hm
  obtain ⟨a0, len0, cap0, z0, rfl, w0⟩ := open_codes (hval 0 22 v0 rfl rfl) h0
  have lt1 : ∀ x ∈ p1, x.block < W.heap.size := by obtain ⟨m, hm⟩ := h1; exact DataW.trod_lt m _ _ _ hm
  obtain ⟨a1, len1, cap1, z1, rfl, w1⟩ := open_codes (hval 1 22 v1 rfl rfl) h1
  have lt2 : ∀ x ∈ p2, x.block < W.heap.size := by obtain ⟨m, hm⟩ := h2; exact DataW.trod_lt m _ _ _ hm
  obtain ⟨x2, rfl, b2⟩ := open_Vn (hval 2 35 v2 rfl rfl) h2
  have lt3 : ∀ x ∈ p3, x.block < W.heap.size := by obtain ⟨m, hm⟩ := h3; exact DataW.trod_lt m _ _ _ hm
  obtain ⟨x3, w3, n3⟩ := open_Rown (hval 3 25 v3 rfl rfl) h3 (fun es sp he => by have hq := sized_slice (j := 3) (e := 35) hsz rfl (by rw [he]; rfl) Try.underlying25; rwa [bytes24] at hq)
  clear hA0 hval0
  refine (walk a0 len0 cap0 z0 a1 len1 cap1 z1 x2 v3 x3 W w0 w1 b2 w3 n3).mono fun e W' ⟨he, bel⟩ => ?_
  subst he
  exact ⟨_, rfl, _, _, _, [], _, [], hW', trodAll_mk1 (shut_bool Try.underlying4 _), (trodAll_cons_mk (Below.trod laidOut (by kernel_rfl) (of_decide_eq_true (by kernel_rfl)) h0 bel lt0) (trodAll_cons_mk (Below.trod laidOut (by kernel_rfl) (of_decide_eq_true (by kernel_rfl)) h1 bel lt1) (trodAll_cons_mk (Below.trod laidOut (by kernel_rfl) (of_decide_eq_true (by kernel_rfl)) h2 bel lt2) (trodAll_cons_mk (Below.trod laidOut (by kernel_rfl) (of_decide_eq_true (by kernel_rfl)) h3 bel lt3) trodAll_mk0)))), rfl, bel.frame _, fun h => by cases h⟩

theorem over : Rows.codecValuesRow.holds Try.pinned (OpenSpec.ofChange Rows.codecValuesSpec) :=
  OpenClaim.holds_of_wide 4 Try.f4 rfl rfl rfl rfl rfl rfl rfl ⟨rfl, rfl, rfl, rfl, rfl⟩ rfl rfl rfl rfl rfl (by kernel_rfl) Try.func4 (by kernel_rfl)
    (of_decide_eq_true (by kernel_rfl)) (by unfold Func.isWrapper; first | (rw [if_pos (by decide +kernel)]; kernel_rfl) | (rw [if_neg (by decide +kernel)]; exact ⟨rfl, rfl⟩))
    (fun os started H enc _ => lifted os started H enc)
theorem proved : Rows.CodecValuesSaid := over
end Values
end Go.Proofs.Ytllakifmflploaa
