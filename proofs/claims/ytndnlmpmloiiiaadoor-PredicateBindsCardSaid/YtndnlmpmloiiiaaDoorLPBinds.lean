/- The law PredicateBinds returns true for all codes, every predicate that can be read as data and all lists of values, where the package's table of shapes holds what start-up has laid. -/
import Derived.Test.YtndnlmpmloiiiaaDoorPy
import Derived.Test.YtndnlmpmloiiiaaDoorQf
import Derived.Test.YtndnlmpmloiiiaaDoorQa
import Derived.Test.YtndnlmpmloiiiaaDoorPna
import Derived.Test.YtndnlmpmloiiiaaDoorPi
import Derived.Test.YtndnlmpmloiiiaaDoorPfr
import Derived.Test.YtndnlmpmloiiiaaDoorQu
import Derived.Test.YtndnlmpmloiiiaaDoorQo
import Derived.Test.YtndnlmpmloiiiaaDoorTie
import Derived.Test.YtndnlmpmloiiiaaDoorCards
import Derived.SevenTiedAt
set_option linter.unusedSimpArgs false
set_option linter.unusedVariables false
namespace Go.Proofs.YtndnlmpmloiiiaaDoor
open Go.RowKit

open Go.ChangeShapes Go.WideShapes Go.ChangeAt Go.RowKit
namespace Binds
theorem vals_of {ks : List Int} {r : List V} (hk : KindsOk ks) (h : r.map V.k = ks) (hv : AllV r) : ValsOf ks r := by
  have hl : r.length = ks.length := by rw [← h, List.length_map]
  refine ⟨hl, fun i hi hi' => ?_⟩
  have e : r[i].k = ks[i] := by
    have : (r.map V.k)[i]'(by rw [List.length_map]; exact hi) = ks[i] := by simp only [h]
    simpa using this
  refine ⟨?_, e⟩
  unfold realB
  rw [(hv _ (List.getElem_mem hi)).1, e, decide_eq_true (hk _ (List.getElem_mem hi')).1]; rfl
set_option maxHeartbeats 40000000 in
set_option maxRecDepth 100000 in
theorem walk (a : Option Addr) (len cap : Nat) (zs : List Int) (kr : Nat) (raw : Pr) (sr : Value) (va : Value) (par : List V) (vo : Value) (oth : List V) (w : World) (hr : IsRow .u8 w a len cap zs)
    (hraw : PrIn (fun _ => True) w kr sr raw.args ∧ fitP raw) (hpar : RowAt w va par) (hoth : RowAt w vo oth) (hs : Shapes w) :
    Calls Tryd.prog 5 #[.slice a len cap, raw.val sr, va, vo] w fun e w' => e = .returned (.bool true) ∧ Below w.heap.size w w' := by
  have mx := mixed
  obtain ⟨ra, rc, rfl, -⟩ := hraw.1.shape
  obtain ⟨pa, pn, pc, rfl⟩ := RowAt.slice hpar
  obtain ⟨oa, on, oc, rfl⟩ := RowAt.slice hoth
  obtain ⟨W0, hW0⟩ : ∃ W0, W0 = w.alloc (pBlock raw (.slice ra raw.args.length rc) 29) := ⟨_, rfl⟩
  have hg0 : Below w.heap.size w W0 := by rw [hW0]; exact (Below.refl _ _).alloc (Nat.le_refl _) _
  have hx0 : PBox W0 w.heap.size raw (.slice ra raw.args.length rc) := by rw [hW0]; exact PBox.new w raw _ _
  have HX0 := Lib.hid hx0
  have HN := Lib.hid (new160_calls a len cap zs W0 (hr.later hg0))
  have HS : Hid (∀ w', Below w.heap.size w w' → Shapes w') := fun w' h => hs.later h
  have HRAW : Hid (∀ w', Below w.heap.size w w' → PrIn (fun _ => True) w' kr (.slice ra raw.args.length rc) raw.args) := fun w' h => hraw.1.later h
  have HFIT := Lib.hid hraw.2
  have HPAR : Hid (∀ w', Below w.heap.size w w' → RowAt w' (.slice pa pn pc) par) := fun w' h => hpar.later h
  have HOTH : Hid (∀ w', Below w.heap.size w w' → RowAt w' (.slice oa on oc) oth) := fun w' h => hoth.later h
  have HB0 := Lib.hid hg0
  have HW0 := Lib.hid hW0
  have HS0 : Hid (W0.heap.size = w.heap.size + 1) := by show _ = _; rw [hW0]; simp
  clear hr hs hraw hpar hoth hg0 hx0 hW0
  show Calls _ _ #[.slice a len cap, .agg #[.int .i64 raw.op, .int .i64 raw.cmp, .int .i64 raw.l.k, .int .i64 raw.l.i, .int .i64 raw.l.v.k, .int .i64 raw.l.v.n, .string raw.l.v.t, .int .i64 raw.r.k, .int .i64 raw.r.i, .int .i64 raw.r.v.k, .int .i64 raw.r.v.n, .string raw.r.v.t, (.slice ra raw.args.length rc)], .slice pa pn pc, .slice oa on oc] _ _
  go_enter Tryd.func5, Tryd.ntmps5
  go_wp2_with fail
  have hW0 := HW0.out
  simp only [pBlock, pObj] at hW0
  rw [← hW0]
  clear hW0 HW0
  refine HN.out.mono ?_
  rintro e w1 ⟨b, c, rfl, hbs, hcs, hb1⟩
  have HBS := Lib.hid hbs
  have HBW : Hid (w.heap.size ≤ b) := by have := HS0.out; show _ ≤ _; omega
  have HB1 : Hid (Below w.heap.size w w1) := HB0.out.trans (hb1.mono HB0.out.size)
  have HX1 : Hid (PBox w1 w.heap.size raw (.slice ra raw.args.length rc)) := HX0.out.later hb1
  have HNE : Hid (w.heap.size ≠ b) := by have := HS0.out; show _ ≠ _; omega
  have HK := Lib.hid (kinds_calls b c 4 (by omega) w1 hcs)
  have HBL : Hid (b < w1.heap.size) := hcs.lt
  clear hcs hb1 HN hbs HX0
  generalize w.heap.size = gr at HX1 HNE ⊢
  go_wp2_with fail
  refine HK.out.mono ?_
  rintro e w2 ⟨vk, ks, rfl, hkl, hok, hown, hcs2, hby2⟩
  have HOK := Lib.hid (And.intro hkl hok)
  have hi2 : IntsAt (fun g => g ≠ b) w2 vk ks := hown.ints (by omega) (fun g hg => by have := HBL.out; omega)
  have HI2 := Lib.hid hi2
  have HBY2 := Lib.hid hby2
  have HM := Lib.hid (kinds_calls b c 3 (by omega) w2 hcs2)
  obtain ⟨ka, kc, rfl, -⟩ := hi2.slice
  clear hkl hok hown hcs2 hby2 hi2 HK
  go_wp2_with fail
  refine HM.out.mono ?_
  rintro e w3 ⟨vm, ms, rfl, hml, hmk, hown, hcs3, hby3⟩
  have HMK := Lib.hid (And.intro hml hmk)
  have HI3 : Hid (IntsAt (fun g => g ≠ b) w3 (.slice ka ks.length kc) ks) := HI2.out.kept (kept_by hby3 fun g hg => by cases hg; simp)
  have hm3 : IntsAt (fun g => g ≠ b) w3 vm ms := hown.ints (by omega) (fun g hg => by have := HBL.out; have := HBY2.out.size; omega)
  obtain ⟨ma, mc, rfl, -⟩ := hm3.slice
  have HM3 := Lib.hid hm3
  have HBY3 := Lib.hid (by_trans HBY2.out hby3)
  have HP := Lib.hid (casePredicate_calls (fun g => g ≠ b) b (by simp) c (.slice ka ks.length kc) (.slice ma ms.length mc) ks ms HOK.out.2 hmk (by have := HOK.out.1; omega) (by omega) 3 (by omega) w3 hcs3 HI3.out hm3)
  clear hml hmk hown hcs3 hby3 hm3 HM HI2 HBY2
  go_wp2_with fail
  refine HP.out.mono ?_
  rintro e w4 ⟨p, s, rfl, hps, hck, hdp, hcs4, hby4⟩
  obtain ⟨sa, sc, rfl, -⟩ := hps.shape
  have HCK := Lib.hid hck
  obtain ⟨W4, hW4⟩ : ∃ W4, W4 = w4.alloc (pBlock p (.slice sa p.args.length sc) 29) := ⟨_, rfl⟩
  have hal4 : ∀ r, w4.grownBy W4 r := fun r => by rw [hW4]; exact World.grownBy_alloc _ _ _
  have HX4 : Hid (PBx W4 w4.heap.size p (.slice sa p.args.length sc)) := by rw [hW4]; exact PBx.new w4 p _ _
  have HG4 : Hid (w4.heap.size ≠ b ∧ b < W4.heap.size) := ⟨by have := hcs4.lt; omega, (hcs4.grown (hal4 none)).lt⟩
  have HBY4 : Hid (w1.grownBy W4 (some b)) := by_trans (by_trans HBY3.out hby4) (hal4 _)
  have HPS4 : Hid (PrIn (fun g => g ≠ b) W4 4 (.slice sa p.args.length sc) p.args) := (hps.mono fun g _ hg => by have := HBL.out; have := HBY3.out.size; omega).kept (kept_by (hal4 none) fun g hg => by cases hg)
  have HI4 : Hid (IntsAt (fun g => g ≠ b) W4 (.slice ka ks.length kc) ks) := HI3.out.kept (kept_by (by_trans hby4 (hal4 _)) fun g hg => by cases hg; simp)
  have HM4 : Hid (IntsAt (fun g => g ≠ b) W4 (.slice ma ms.length mc) ms) := HM3.out.kept (kept_by (by_trans hby4 (hal4 _)) fun g hg => by cases hg; simp)
  have HR := Lib.hid (caseRow_calls (fun g => g ≠ b) b (by simp) c (.slice ka ks.length kc) ks HOK.out.2 W4 (hcs4.grown (hal4 none)) HI4.out)
  have HW4 := Lib.hid hW4
  clear hps hck hdp hcs4 hby4 hW4 hal4 HP HI3 HM3 HBY3
  go_wp2_with fail
  have hW4 := HW4.out
  simp only [pBlock, pObj] at hW4
  rw [← hW4]
  clear hW4 HW4
  generalize w4.heap.size = gp at HX4 HG4 ⊢
  refine HR.out.mono ?_
  rintro e w5 ⟨vr, r, rfl, hrl, hrc, hrv, hro, hcs5, hby5⟩
  have HRO := Lib.hid hro
  have HRL : Hid (r.length ≤ 4) := by have := HOK.out.1; show _ ≤ _; omega
  have HBY5 := Lib.hid hby5
  have HM5 : Hid (IntsAt (fun g => g ≠ b) w5 (.slice ma ms.length mc) ms) := HM4.out.kept (kept_by hby5 fun g hg => by cases hg; simp)
  have HV := Lib.hid (values_calls (fun g => g ≠ b) b (by simp) c (.slice ma ms.length mc) ms HMK.out.2 w5 hcs5 HM5.out)
  obtain ⟨va', vn', vc', rfl⟩ := (RowAt.of_owned hro (by have := HOK.out.1; omega)).slice
  clear hrl hrc hrv hro hcs5 hby5 HR HM4
  go_wp2_with fail
  refine HV.out.mono ?_
  rintro e w6 ⟨vv, v, rfl, hvk, hvv, hvo, hcs6, hby6⟩
  have HVO : Hid (ValsOf ms v) := vals_of HMK.out.2 hvk hvv
  have HBY6 := Lib.hid (by_trans HBY5.out hby6)
  have HVR : Hid (RowAt w6 vv v) := RowAt.of_owned hvo (by have := HVO.out.1; have := HMK.out.1; omega)
  have HRR : Hid (RowAt w6 (.slice va' vn' vc') r) := RowAt.of_owned (World.ownsRow.kept HRO.out hby6 (own_far HRO.out HG4.out.2)) (by have := HRL.out; omega)
  obtain ⟨ua, un, uc, rfl⟩ := HVR.out.slice
  have HX6 : Hid (PBx w6 gp p (.slice sa p.args.length sc)) := HX4.out.by_ HBY6.out (by have := HG4.out.1; simp; omega)
  have HPS6 : Hid (PrIn (fun g => g ≠ b) w6 4 (.slice sa p.args.length sc) p.args) := HPS4.out.kept (kept_by HBY6.out fun g hg => by cases hg; simp)
  have HI6 : Hid (IntsAt (fun g => g ≠ b) w6 (.slice ka ks.length kc) ks) := HI4.out.kept (kept_by HBY6.out fun g hg => by cases hg; simp)
  have hby16 := by_trans HBY4.out HBY6.out
  have HB6 : Hid (Below w.heap.size w w6) := HB1.out.grown hby16 HB1.out.size (fun k hk => by cases hk; exact HBW.out)
  have HXR6 : Hid (PBox w6 gr raw (.slice ra raw.args.length rc)) := by
    have hb : w6.heap[gr]? = w1.heap[gr]? := hby16.block gr HX1.out.l (by have := HNE.out; simp; omega)
    have hc : ∀ o, w6.cell? ⟨gr, o, none⟩ = w1.cell? ⟨gr, o, none⟩ := fun o => World.cell?_of_block hb
    exact ⟨Nat.lt_of_lt_of_le HX1.out.l hby16.size, (hc _).trans HX1.out.c0, (hc _).trans HX1.out.c1, (hc _).trans HX1.out.c2, (hc _).trans HX1.out.c3, (hc _).trans HX1.out.c4, (hc _).trans HX1.out.c5, (hc _).trans HX1.out.c6, (hc _).trans HX1.out.c7, (hc _).trans HX1.out.c8, (hc _).trans HX1.out.c9, (hc _).trans HX1.out.c10, (hc _).trans HX1.out.c11, (hc _).trans HX1.out.c12⟩
  have HFP : Hid (fitP p) := fit_count p (by
    have h := HCK.out
    unfold checkE at h
    split at h
    · cases h
    · split at h
      · cases h
      · rename_i h2; omega)
  have HBIND := Lib.hid (BindAt_all (fun g => g ≠ b) (.slice ua un uc) v 4 p (.slice sa p.args.length sc) w6 HFP.out HVR.out HPS6.out)
  obtain ⟨bp, hbp⟩ : ∃ bp, bindP v p = bp := ⟨_, rfl⟩
  have HBP := Lib.hid hbp
  have hbc := bind_check HVO.out HCK.out
  rw [hbp] at hbc
  have HBC := Lib.hid hbc
  replace HBIND : Hid (Calls Tryd.prog 19 #[.agg #[.int .i64 p.op, .int .i64 p.cmp, .int .i64 p.l.k, .int .i64 p.l.i, .int .i64 p.l.v.k, .int .i64 p.l.v.n, .string p.l.v.t, .int .i64 p.r.k, .int .i64 p.r.i, .int .i64 p.r.v.k, .int .i64 p.r.v.n, .string p.r.v.t, (.slice sa p.args.length sc)], .slice ua un uc] w6 (fun e w' => ∃ t, e = .returned (bp.val t) ∧ PrIn (fun g => w6.heap.size ≤ g) w' 4 t bp.args ∧ w6.grownBy w' none)) := by rw [← HBP.out]; exact HBIND.out
  obtain ⟨⟨l6, c0, c1, c2, c3, c4, c5, c6, c7, c8, c9, c10, c11, c12⟩, f6⟩ := HX6.out
  clear hvk hvv hvo hcs6 hby6 hbp hbc hby16 HV HRO HX4 HPS4 HI4 HM5 HBY4 HBY5 HX1 HB1
  go_wp2_with fail
  refine HBIND.out.mono ?_
  rintro e w7 ⟨t, rfl, hpt, hby7⟩
  obtain ⟨ba, bc, rfl, -⟩ := hpt.shape
  obtain ⟨W7, hW7⟩ : ∃ W7, W7 = w7.alloc (pBlock bp (.slice ba bp.args.length bc) 29) := ⟨_, rfl⟩
  have hal7 : w7.grownBy W7 none := by rw [hW7]; exact World.grownBy_alloc _ _ _
  have hb67 : Below w6.heap.size w6 W7 := by_below (by_trans hby7 hal7)
  have HXB : Hid (PBox W7 w7.heap.size bp (.slice ba bp.args.length bc)) := by rw [hW7]; exact PBox.new w7 bp _ _
  have HXP : Hid (PBox W7 gp p (.slice sa p.args.length sc)) := HX6.out.b.later hb67
  have HXR : Hid (PBox W7 gr raw (.slice ra raw.args.length rc)) := HXR6.out.later hb67
  have HB7 : Hid (Below w.heap.size w W7) := HB6.out.trans (hb67.mono HB6.out.size)
  have HPP : Hid (∀ w', Below W7.heap.size W7 w' → PrIn (fun g => g ≠ b) w' 4 (.slice sa p.args.length sc) p.args) := fun w' h => (HPS6.out.later hb67).later h
  have HPB : Hid (∀ w', Below W7.heap.size W7 w' → PrIn (fun _ => True) w' 4 (.slice ba bp.args.length bc) bp.args) := fun w' h => ((hpt.later (by_below hal7)).mono fun _ _ _ => trivial).later h
  have HRW : Hid (∀ w', Below W7.heap.size W7 w' → RowAt w' (.slice va' vn' vc') r) := fun w' h => (HRR.out.later hb67).later h
  have HVW : Hid (∀ w', Below W7.heap.size W7 w' → RowAt w' (.slice ua un uc) v) := fun w' h => (HVR.out.later hb67).later h
  have HIW : Hid (∀ w', Below W7.heap.size W7 w' → IntsAt (fun g => g ≠ b) w' (.slice ka ks.length kc) ks) := fun w' h => (HI6.out.later hb67).later h
  have HWW : Hid (∀ w', Below W7.heap.size W7 w' → Below w.heap.size w w') := fun w' h => HB7.out.trans (h.mono HB7.out.size)
  have HW7 := Lib.hid hW7
  clear hpt hby7 hal7 hb67 hW7 HBIND l6 c0 c1 c2 c3 c4 c5 c6 c7 c8 c9 c10 c11 c12 f6 HX6 HXR6 HPS6 HRR HVR HI6 HB6
  go_wp2_with fail
  have hW7 := HW7.out
  simp only [pBlock, pObj] at hW7
  rw [← hW7]
  clear hW7 HW7
  generalize w7.heap.size = gb at HXB ⊢
  have HX : Hid (∀ w', Below W7.heap.size W7 w' → PBox w' gr raw (.slice ra raw.args.length rc) ∧ PBox w' gp p (.slice sa p.args.length sc) ∧ PBox w' gb bp (.slice ba bp.args.length bc)) := fun w' h => ⟨HXR.out.later h, HXP.out.later h, HXB.out.later h⟩
  have hdw : Below W7.heap.size W7 W7.drew := (Below.refl _ _).drew
  have HDW := Lib.hid hdw
  clear HXR HXP HXB hdw
  refine wp_region_noPanic ?_
  refine wp_region_X (fun w' => PBox w' gr raw (.slice ra raw.args.length rc) ∧ PBox w' gp p (.slice sa p.args.length sc) ∧ PBox w' gb bp (.slice ba bp.args.length bc)) 34 (by kernel_rfl) (HX.out _ HDW.out) (fun hHeld => ?_)
  try simp only [Act.put, List.setIfInBounds_toArray, List.set_cons_zero, List.set_cons_succ]
  refine wpX_one 0 (by kernel_rfl) rfl (fun K hK => ?_)
  clear hHeld
  go_simp
  go_at_call 12
  refine (begun_calls _ (HS.out _ (HWW.out _ HDW.out))).mono ?_
  rintro e x0 ⟨rfl, hx0⟩
  have Hx0 : Hid (Below W7.heap.size W7 x0) := HDW.out.trans (hx0.mono HDW.out.size)
  clear hx0
  refine hK.out _ _ (HX.out _ Hx0.out) (fun hHeld => ?_)
  clear hK K
  try simp only [Act.put, List.setIfInBounds_toArray, List.set_cons_zero, List.set_cons_succ]
  try simp only [Act.put, List.setIfInBounds_toArray, List.set_cons_zero, List.set_cons_succ]
  refine wpX_take 1 (v := ?_) rfl (by kernel_rfl) (by kernel_rfl) (by kernel_rfl) (by kernel_rfl) (by kernel_rfl) (fun _ _ _ h => h) (Or.inl ⟨by rfl, ?_⟩) (by assumption) ?_
  rotate_left
  · intro w hSw; clear hSw; go_simp; try with_reducible rfl
  try simp only [Act.put, List.setIfInBounds_toArray, List.set_cons_zero, List.set_cons_succ]
  refine wpX_take 2 (v := ?_) rfl (by kernel_rfl) (by kernel_rfl) (by kernel_rfl) (by kernel_rfl) (by kernel_rfl) (fun _ _ _ h => h) (Or.inl ⟨by rfl, ?_⟩) (by assumption) ?_
  rotate_left
  · intro w hSw; clear hSw; go_simp; try with_reducible rfl
  try simp only [Act.put, List.setIfInBounds_toArray, List.set_cons_zero, List.set_cons_succ]
  refine wpX_take 3 (v := ?_) rfl (by kernel_rfl) (by kernel_rfl) (by kernel_rfl) (by kernel_rfl) (by kernel_rfl) (fun _ _ _ h => h) (Or.inl ⟨by rfl, ?_⟩) (by assumption) ?_
  rotate_left
  · intro w hSw; obtain ⟨l, b0, b1, b2, b3, b4, b5, b6, b7, b8, b9, b10, b11, b12⟩ := hSw.2.2; clear hSw; go_simp; try with_reducible rfl
  try simp only [Act.put, List.setIfInBounds_toArray, List.set_cons_zero, List.set_cons_succ]
  refine wpX_one 4 (by kernel_rfl) rfl (fun K hK => ?_)
  clear hHeld
  go_simp
  go_at_call 13
  refine (show Calls Tryd.prog 13 #[.slice ka ks.length kc, .slice none 0 0, bp.val (.slice ba bp.args.length bc)] x0 (fun e w' => e = .returned (.int .i64 (checkE ks [] bp)) ∧ Gro x0 w') from check_calls (fun _ => True) (fun g => g ≠ b) (fun g => g ≠ b) (.slice ka ks.length kc) (.slice none 0 0) ks [] 4 bp (.slice ba bp.args.length bc) x0 (HS.out _ (HWW.out _ Hx0.out)) (HIW.out _ Hx0.out) (IntsAt.nil none 0) (HPB.out _ Hx0.out)).mono ?_
  rintro e x1 ⟨rfl, hx1⟩
  rw [HBC.out.1]
  have Hx1 : Hid (Below W7.heap.size W7 x1) := Hx0.out.trans (hx1.below.mono Hx0.out.size)
  clear hx1
  refine hK.out _ _ (HX.out _ Hx1.out) (fun hHeld => ?_)
  clear hK K
  try simp only [Act.put, List.setIfInBounds_toArray, List.set_cons_zero, List.set_cons_succ]
  try simp only [Act.put, List.setIfInBounds_toArray, List.set_cons_zero, List.set_cons_succ]
  refine wpX_take 5 (v := ?_) rfl (by kernel_rfl) (by kernel_rfl) (by kernel_rfl) (by kernel_rfl) (by kernel_rfl) (fun _ _ _ h => h) (Or.inl ⟨by rfl, ?_⟩) (by assumption) ?_
  rotate_left
  · intro w hSw; clear hSw; go_simp; try with_reducible rfl
  try simp only [Act.put, List.setIfInBounds_toArray, List.set_cons_zero, List.set_cons_succ]
  refine wpX_take 6 (v := ?_) rfl (by kernel_rfl) (by kernel_rfl) (by kernel_rfl) (by kernel_rfl) (by kernel_rfl) (fun _ _ _ h => h) (Or.inl ⟨by rfl, ?_⟩) (by assumption) ?_
  rotate_left
  · intro w hSw; clear hSw; go_simp; try with_reducible rfl
  try simp only [Act.put, List.setIfInBounds_toArray, List.set_cons_zero, List.set_cons_succ]
  refine wpX_take 7 (v := ?_) rfl (by kernel_rfl) (by kernel_rfl) (by kernel_rfl) (by kernel_rfl) (by kernel_rfl) (fun _ _ _ h => h) (Or.inl ⟨by rfl, ?_⟩) (by assumption) ?_
  rotate_left
  · intro w hSw; clear hSw; go_simp; try with_reducible rfl
  try simp only [Act.put, List.setIfInBounds_toArray, List.set_cons_zero, List.set_cons_succ]
  refine wpX_take 8 (v := ?_) rfl (by kernel_rfl) (by kernel_rfl) (by kernel_rfl) (by kernel_rfl) (by kernel_rfl) (fun _ _ _ h => h) (Or.inl ⟨by rfl, ?_⟩) (by assumption) ?_
  rotate_left
  · intro w hSw; obtain ⟨l, b0, b1, b2, b3, b4, b5, b6, b7, b8, b9, b10, b11, b12⟩ := hSw.2.2; clear hSw; go_simp; try with_reducible rfl
  try simp only [Act.put, List.setIfInBounds_toArray, List.set_cons_zero, List.set_cons_succ]
  refine wpX_take 9 (v := ?_) rfl (by kernel_rfl) (by kernel_rfl) (by kernel_rfl) (by kernel_rfl) (by kernel_rfl) (fun _ _ _ h => h) (Or.inl ⟨by rfl, ?_⟩) (by assumption) ?_
  rotate_left
  · intro w hSw; clear hSw; go_simp; try with_reducible rfl
  try simp only [Act.put, List.setIfInBounds_toArray, List.set_cons_zero, List.set_cons_succ]
  refine wpX_take 10 (v := ?_) rfl (by kernel_rfl) (by kernel_rfl) (by kernel_rfl) (by kernel_rfl) (by kernel_rfl) (fun _ _ _ h => h) (Or.inl ⟨by rfl, ?_⟩) (by assumption) ?_
  rotate_left
  · intro w hSw; clear hSw; go_simp; try with_reducible rfl
  try simp only [Act.put, List.setIfInBounds_toArray, List.set_cons_zero, List.set_cons_succ]
  refine wpX_take 12 (v := ?_) rfl (by kernel_rfl) (by kernel_rfl) (by kernel_rfl) (by kernel_rfl) (by kernel_rfl) (fun _ _ _ h => h) (Or.inl ⟨by rfl, ?_⟩) (by assumption) ?_
  rotate_left
  · intro w hSw; obtain ⟨l, b0, b1, b2, b3, b4, b5, b6, b7, b8, b9, b10, b11, b12⟩ := hSw.2.1; clear hSw; go_simp; try with_reducible rfl
  try simp only [Act.put, List.setIfInBounds_toArray, List.set_cons_zero, List.set_cons_succ]
  refine wpX_take 13 (v := ?_) rfl (by kernel_rfl) (by kernel_rfl) (by kernel_rfl) (by kernel_rfl) (by kernel_rfl) (fun _ _ _ h => h) (Or.inl ⟨by rfl, ?_⟩) (by assumption) ?_
  rotate_left
  · intro w hSw; clear hSw; go_simp; try with_reducible rfl
  try simp only [Act.put, List.setIfInBounds_toArray, List.set_cons_zero, List.set_cons_succ]
  refine wpX_take 14 (v := ?_) rfl (by kernel_rfl) (by kernel_rfl) (by kernel_rfl) (by kernel_rfl) (by kernel_rfl) (fun _ _ _ h => h) (Or.inl ⟨by rfl, ?_⟩) (by assumption) ?_
  rotate_left
  · intro w hSw; clear hSw; go_simp; try with_reducible rfl
  obtain ⟨hq, hhq⟩ : ∃ hq, holdsP r v p = hq := ⟨_, rfl⟩
  have HQ1 : Hid (holdsP r oth bp = hq) := by show _ = _; rw [HBC.out.2, hhq]
  have HQ2 := Lib.hid hhq
  clear hhq
  try simp only [Act.put, List.setIfInBounds_toArray, List.set_cons_zero, List.set_cons_succ]
  refine wpX_one 11 (by kernel_rfl) rfl (fun K hK => ?_)
  clear hHeld
  go_simp
  go_at_call 17
  refine (show Calls Tryd.prog 17 #[bp.val (.slice ba bp.args.length bc), .slice va' vn' vc', .slice oa on oc] x1 (fun e w' => e = .returned (.bool (holdsP r oth bp)) ∧ Gro x1 w') from holds_at (fun _ => True) _ _ r oth 4 bp (.slice ba bp.args.length bc) x1 (HRW.out _ Hx1.out) (HOTH.out _ (HWW.out _ Hx1.out)) (HPB.out _ Hx1.out)).mono ?_
  rintro e x2 ⟨rfl, hx2⟩
  rw [HQ1.out]
  have Hx2 : Hid (Below W7.heap.size W7 x2) := Hx1.out.trans (hx2.below.mono Hx1.out.size)
  clear hx2
  refine hK.out _ _ (HX.out _ Hx2.out) (fun hHeld => ?_)
  clear hK K
  try simp only [Act.put, List.setIfInBounds_toArray, List.set_cons_zero, List.set_cons_succ]
  try simp only [Act.put, List.setIfInBounds_toArray, List.set_cons_zero, List.set_cons_succ]
  refine wpX_one 15 (by kernel_rfl) rfl (fun K hK => ?_)
  clear hHeld
  go_simp
  go_at_call 17
  refine (show Calls Tryd.prog 17 #[p.val (.slice sa p.args.length sc), .slice va' vn' vc', .slice ua un uc] x2 (fun e w' => e = .returned (.bool (holdsP r v p)) ∧ Gro x2 w') from holds_at (fun g => g ≠ b) _ _ r v 4 p (.slice sa p.args.length sc) x2 (HRW.out _ Hx2.out) (HVW.out _ Hx2.out) (HPP.out _ Hx2.out)).mono ?_
  rintro e x3 ⟨rfl, hx3⟩
  rw [HQ2.out]
  have Hx3 : Hid (Below W7.heap.size W7 x3) := Hx2.out.trans (hx3.below.mono Hx2.out.size)
  clear hx3
  refine hK.out _ _ (HX.out _ Hx3.out) (fun hHeld => ?_)
  clear hK K
  try simp only [Act.put, List.setIfInBounds_toArray, List.set_cons_zero, List.set_cons_succ]
  try simp only [Act.put, List.setIfInBounds_toArray, List.set_cons_zero, List.set_cons_succ]
  refine wpX_take 16 (v := ?_) rfl (by kernel_rfl) (by kernel_rfl) (by kernel_rfl) (by kernel_rfl) (by kernel_rfl) (fun _ _ _ h => h) (Or.inl ⟨by rfl, ?_⟩) (by assumption) ?_
  rotate_left
  · intro w hSw; clear hSw; go_simp; try with_reducible rfl
  try simp only [Act.put, List.setIfInBounds_toArray, List.set_cons_zero, List.set_cons_succ]
  refine wpX_take 17 (v := ?_) rfl (by kernel_rfl) (by kernel_rfl) (by kernel_rfl) (by kernel_rfl) (by kernel_rfl) (fun _ _ _ h => h) (Or.inl ⟨by rfl, ?_⟩) (by assumption) ?_
  rotate_left
  · intro w hSw; clear hSw; go_simp; try with_reducible rfl
  try simp only [Act.put, List.setIfInBounds_toArray, List.set_cons_zero, List.set_cons_succ]
  refine wpX_take 18 (v := ?_) rfl (by kernel_rfl) (by kernel_rfl) (by kernel_rfl) (by kernel_rfl) (by kernel_rfl) (fun _ _ _ h => h) (Or.inl ⟨by rfl, ?_⟩) (by assumption) ?_
  rotate_left
  · intro w hSw; clear hSw; go_simp; try with_reducible rfl
  try simp only [Act.put, List.setIfInBounds_toArray, List.set_cons_zero, List.set_cons_succ]
  refine wpX_take 19 (v := ?_) rfl (by kernel_rfl) (by kernel_rfl) (by kernel_rfl) (by kernel_rfl) (by kernel_rfl) (fun _ _ _ h => h) (Or.inl ⟨by rfl, ?_⟩) (by assumption) ?_
  rotate_left
  · intro w hSw; obtain ⟨l, b0, b1, b2, b3, b4, b5, b6, b7, b8, b9, b10, b11, b12⟩ := hSw.1; clear hSw; go_simp; try with_reducible rfl
  try simp only [Act.put, List.setIfInBounds_toArray, List.set_cons_zero, List.set_cons_succ]
  refine wpX_take 20 (v := ?_) rfl (by kernel_rfl) (by kernel_rfl) (by kernel_rfl) (by kernel_rfl) (by kernel_rfl) (fun _ _ _ h => h) (Or.inl ⟨by rfl, ?_⟩) (by assumption) ?_
  rotate_left
  · intro w hSw; clear hSw; go_simp; try with_reducible rfl
  try simp only [Act.put, List.setIfInBounds_toArray, List.set_cons_zero, List.set_cons_succ]
  refine wpX_take 22 (v := ?_) rfl (by kernel_rfl) (by kernel_rfl) (by kernel_rfl) (by kernel_rfl) (by kernel_rfl) (fun _ _ _ h => h) (Or.inl ⟨by rfl, ?_⟩) (by assumption) ?_
  rotate_left
  · intro w hSw; obtain ⟨l, b0, b1, b2, b3, b4, b5, b6, b7, b8, b9, b10, b11, b12⟩ := hSw.1; clear hSw; go_simp; try with_reducible rfl
  try simp only [Act.put, List.setIfInBounds_toArray, List.set_cons_zero, List.set_cons_succ]
  refine wpX_take 23 (v := ?_) rfl (by kernel_rfl) (by kernel_rfl) (by kernel_rfl) (by kernel_rfl) (by kernel_rfl) (fun _ _ _ h => h) (Or.inl ⟨by rfl, ?_⟩) (by assumption) ?_
  rotate_left
  · intro w hSw; clear hSw; go_simp; try with_reducible rfl
  obtain ⟨br, hbr⟩ : ∃ br, bindP par raw = br := ⟨_, rfl⟩
  have HBR := Lib.hid hbr
  clear hbr
  try simp only [Act.put, List.setIfInBounds_toArray, List.set_cons_zero, List.set_cons_succ]
  refine wpX_one 21 (by kernel_rfl) rfl (fun K hK => ?_)
  clear hHeld
  go_simp
  go_at_call 19
  refine (show Calls Tryd.prog 19 #[raw.val (.slice ra raw.args.length rc), (.slice pa pn pc)] x3 (fun e w' => ∃ t, e = .returned (br.val t) ∧ PrIn (fun g => x3.heap.size ≤ g) w' kr t br.args ∧ x3.grownBy w' none) from (by rw [← HBR.out]; exact BindAt_all (fun _ => True) (.slice pa pn pc) par kr raw (.slice ra raw.args.length rc) x3 HFIT.out (HPAR.out _ (HWW.out _ Hx3.out)) (HRAW.out _ (HWW.out _ Hx3.out)))).mono ?_
  rintro e x4 ⟨t1, rfl, hp1, hx4⟩
  obtain ⟨a1, c1, rfl, -⟩ := hp1.shape
  have Hx4 : Hid (Below W7.heap.size W7 x4) := Hx3.out.trans ((by_below hx4).mono Hx3.out.size)
  have HT1 : Hid (PrIn (fun _ => True) x4 kr (.slice a1 br.args.length c1) br.args) := hp1.mono fun _ _ _ => trivial
  clear hx4 hp1
  refine hK.out _ _ (HX.out _ Hx4.out) (fun hHeld => ?_)
  clear hK K
  try simp only [Act.put, List.setIfInBounds_toArray, List.set_cons_zero, List.set_cons_succ]
  try simp only [Act.put, List.setIfInBounds_toArray, List.set_cons_zero, List.set_cons_succ]
  refine wpX_one 24 (by kernel_rfl) rfl (fun K hK => ?_)
  clear hHeld
  go_simp
  go_at_call 21
  refine (show Calls Tryd.prog 21 #[raw.val (.slice ra raw.args.length rc), (.slice pa pn pc)] x4 (fun e w' => ∃ t, e = .returned (br.val t) ∧ PrIn (fun g => x4.heap.size ≤ g) w' kr t br.args ∧ x4.grownBy w' none) from (by rw [← HBR.out]; exact RBindAt_all (fun _ => True) (.slice pa pn pc) par kr raw (.slice ra raw.args.length rc) x4 HFIT.out (HPAR.out _ (HWW.out _ Hx4.out)) (HRAW.out _ (HWW.out _ Hx4.out)))).mono ?_
  rintro e x5 ⟨t2, rfl, hp2, hx5⟩
  obtain ⟨a2, c2, rfl, -⟩ := hp2.shape
  have Hx5 : Hid (Below W7.heap.size W7 x5) := Hx4.out.trans ((by_below hx5).mono Hx4.out.size)
  have HT2 : Hid (PrIn (fun _ => True) x5 kr (.slice a2 br.args.length c2) br.args) := hp2.mono fun _ _ _ => trivial
  have HT1b : Hid (PrIn (fun _ => True) x5 kr (.slice a1 br.args.length c1) br.args) := HT1.out.later (by_below hx5)
  clear hx5 hp2
  refine hK.out _ _ (HX.out _ Hx5.out) (fun hHeld => ?_)
  clear hK K
  try simp only [Act.put, List.setIfInBounds_toArray, List.set_cons_zero, List.set_cons_succ]
  try simp only [Act.put, List.setIfInBounds_toArray, List.set_cons_zero, List.set_cons_succ]
  refine wpX_one 25 (by kernel_rfl) rfl (fun K hK => ?_)
  clear hHeld
  go_simp
  go_at_call 20
  refine (show Calls Tryd.prog 20 #[br.val (.slice a1 br.args.length c1), br.val (.slice a2 br.args.length c2)] x5 (fun e w' => e = .returned (.bool (eqP br br)) ∧ Gro x5 w') from REqAt_all (fun _ => True) (fun _ => True) kr br br (.slice a1 br.args.length c1) (.slice a2 br.args.length c2) x5 (HT1b.out) (HT2.out)).mono ?_
  rintro e x6 ⟨rfl, hx6⟩
  rw [eqP_self]
  have Hx6 : Hid (Below W7.heap.size W7 x6) := Hx5.out.trans (hx6.below.mono Hx5.out.size)
  clear hx6
  refine hK.out _ _ (HX.out _ Hx6.out) (fun hHeld => ?_)
  clear hK K
  try simp only [Act.put, List.setIfInBounds_toArray, List.set_cons_zero, List.set_cons_succ]
  try simp only [Act.put, List.setIfInBounds_toArray, List.set_cons_zero, List.set_cons_succ]
  refine wpX_take 26 (v := ?_) rfl (by kernel_rfl) (by kernel_rfl) (by kernel_rfl) (by kernel_rfl) (by kernel_rfl) (fun _ _ _ h => h) (Or.inl ⟨by rfl, ?_⟩) (by assumption) ?_
  rotate_left
  · intro w hSw; clear hSw; go_simp; try with_reducible rfl
  try simp only [Act.put, List.setIfInBounds_toArray, List.set_cons_zero, List.set_cons_succ]
  refine wpX_take 27 (v := ?_) rfl (by kernel_rfl) (by kernel_rfl) (by kernel_rfl) (by kernel_rfl) (by kernel_rfl) (fun _ _ _ h => h) (Or.inl ⟨by rfl, ?_⟩) (by assumption) ?_
  rotate_left
  · intro w hSw; clear hSw; go_simp; try with_reducible rfl
  try simp only [Act.put, List.setIfInBounds_toArray, List.set_cons_zero, List.set_cons_succ]
  refine wpX_take 28 (v := ?_) rfl (by kernel_rfl) (by kernel_rfl) (by kernel_rfl) (by kernel_rfl) (by kernel_rfl) (fun _ _ _ h => h) (Or.inl ⟨by rfl, ?_⟩) (by assumption) ?_
  rotate_left
  · intro w hSw; obtain ⟨l, b0, b1, b2, b3, b4, b5, b6, b7, b8, b9, b10, b11, b12⟩ := hSw.2.2; clear hSw; go_simp; try with_reducible rfl
  try simp only [Act.put, List.setIfInBounds_toArray, List.set_cons_zero, List.set_cons_succ]
  refine wpX_take 29 (v := ?_) rfl (by kernel_rfl) (by kernel_rfl) (by kernel_rfl) (by kernel_rfl) (by kernel_rfl) (fun _ _ _ h => h) (Or.inl ⟨by rfl, ?_⟩) (by assumption) ?_
  rotate_left
  · intro w hSw; obtain ⟨l, b0, b1, b2, b3, b4, b5, b6, b7, b8, b9, b10, b11, b12⟩ := hSw.2.1; clear hSw; go_simp; try with_reducible rfl
  try simp only [Act.put, List.setIfInBounds_toArray, List.set_cons_zero, List.set_cons_succ]
  refine wpX_take 30 (v := ?_) rfl (by kernel_rfl) (by kernel_rfl) (by kernel_rfl) (by kernel_rfl) (by kernel_rfl) (fun _ _ _ h => h) (Or.inl ⟨by rfl, ?_⟩) (by assumption) ?_
  rotate_left
  · intro w hSw; clear hSw; go_simp; try with_reducible rfl
  try simp only [Act.put, List.setIfInBounds_toArray, List.set_cons_zero, List.set_cons_succ]
  refine wpX_one 31 (by kernel_rfl) rfl (fun K hK => ?_)
  clear hHeld
  go_simp
  go_at_call 21
  refine (show Calls Tryd.prog 21 #[p.val (.slice sa p.args.length sc), (.slice ua un uc)] x6 (fun e w' => ∃ t, e = .returned (bp.val t) ∧ PrIn (fun g => x6.heap.size ≤ g) w' 4 t bp.args ∧ x6.grownBy w' none) from (by rw [← HBP.out]; exact RBindAt_all (fun g => g ≠ b) (.slice ua un uc) v 4 p (.slice sa p.args.length sc) x6 HFP.out (HVW.out _ Hx6.out) (HPP.out _ Hx6.out))).mono ?_
  rintro e x7 ⟨t3, rfl, hp3, hx7⟩
  obtain ⟨a3, c3, rfl, -⟩ := hp3.shape
  have Hx7 : Hid (Below W7.heap.size W7 x7) := Hx6.out.trans ((by_below hx7).mono Hx6.out.size)
  have HT3 : Hid (PrIn (fun _ => True) x7 4 (.slice a3 bp.args.length c3) bp.args) := hp3.mono fun _ _ _ => trivial
  clear hx7 hp3
  refine hK.out _ _ (HX.out _ Hx7.out) (fun hHeld => ?_)
  clear hK K
  try simp only [Act.put, List.setIfInBounds_toArray, List.set_cons_zero, List.set_cons_succ]
  try simp only [Act.put, List.setIfInBounds_toArray, List.set_cons_zero, List.set_cons_succ]
  refine wpX_one 32 (by kernel_rfl) rfl (fun K hK => ?_)
  clear hHeld
  go_simp
  go_at_call 20
  refine (show Calls Tryd.prog 20 #[bp.val (.slice ba bp.args.length bc), bp.val (.slice a3 bp.args.length c3)] x7 (fun e w' => e = .returned (.bool (eqP bp bp)) ∧ Gro x7 w') from REqAt_all (fun _ => True) (fun _ => True) 4 bp bp (.slice ba bp.args.length bc) (.slice a3 bp.args.length c3) x7 (HPB.out _ Hx7.out) (HT3.out)).mono ?_
  rintro e x8 ⟨rfl, hx8⟩
  rw [eqP_self]
  have Hx8 : Hid (Below W7.heap.size W7 x8) := Hx7.out.trans (hx8.below.mono Hx7.out.size)
  clear hx8
  refine hK.out _ _ (HX.out _ Hx8.out) (fun hHeld => ?_)
  clear hK K
  try simp only [Act.put, List.setIfInBounds_toArray, List.set_cons_zero, List.set_cons_succ]
  try simp only [Act.put, List.setIfInBounds_toArray, List.set_cons_zero, List.set_cons_succ]
  refine wpX_take 33 (v := ?_) rfl (by kernel_rfl) (by kernel_rfl) (by kernel_rfl) (by kernel_rfl) (by kernel_rfl) (fun _ _ _ h => h) (Or.inl ⟨by rfl, ?_⟩) (by assumption) ?_
  rotate_left
  · intro w hSw; clear hSw; go_simp; try with_reducible rfl
  try simp only [Act.put, List.setIfInBounds_toArray, List.set_cons_zero, List.set_cons_succ]
  refine wpX_last 34 (by kernel_rfl) rfl rfl (by kernel_rfl) (fun K hK => ?_)
  go_simp
  refine hK.out _ _ ?_
  clear hK K
  refine NoPanic.normal ?_
  cases hq <;>
    (go_wp2
     go_ret
     exact ⟨rfl, HWW.out _ Hx8.out⟩)
set_option maxRecDepth 100000 in
theorem lifted (os : Os) (started : os.Started) (H : Type) (enc : TypeId × Value → H) :
    ReturnsInHanded {} Tryd.checked os 5 .any (fun w args => (Rows.predicateBindsSpec.pre enc Tryd.prog Tryd.f5 [] false w args ∧ laidMetH Tryd.prog laid1 w) ∧ sizedMet enc Tryd.prog Tryd.f5 (OpenSpec.ofChange Rows.predicateBindsSpec) false w args) (Rows.predicateBindsSpec.post enc Tryd.prog Tryd.f5 false true false false) := by
  refine returnsInHanded_of_change_and (C := Tryd.checked) (X := fun w _ => laidMetH Tryd.prog laid1 w) (fun _ _ _ hh h => h.of_heap hh) own started (by kernel_rfl) Tryd.func5
    (ChangeSpec.witness_shaped (enc := enc) (C := Tryd.checked) (os := os) (X := fun w _ => laidMetH Tryd.prog laid1 w) false (World.doorLaid Tryd.prog 400 os) #[.slice none 0 0, .agg #[.int .i64 0, .int .i64 0, .int .i64 0, .int .i64 0, .int .i64 0, .int .i64 0, .string ByteArray.empty, .int .i64 0, .int .i64 0, .int .i64 0, .int .i64 0, .string ByteArray.empty, .slice none 0 0], .slice none 0 0, .slice none 0 0] 8 rfl (World.shaped_of_RefB (by kernel_rfl) (by kernel_rfl)) (by kernel_rfl) (by kernel_rfl) (by kernel_rfl) (door_met os _)) ?_
  intro W base args ds gs before hval0 hW hcnd hsz0 hL hlast
  have hS : Shapes W := shapes_of_laid hL
  have hval : ∀ (j : Nat) t v, Tryd.f5.params[j]? = some t → args[j]? = some v → Value.okWide Tryd.prog W .any base t v := hval0
  have hW' := hW
  obtain ⟨p, q, hA0, hV, rfl, hfz, hnd⟩ := hW
  have hA : DataW.TrodAll enc Tryd.prog W 0 (fun _ => true) true Tryd.f5.params.toList args.toList ds p := hA0
  have hsz : (DataW.weightsEach Tryd.prog (Tryd.f5.params.toList ++ Rows.predicateBindsSpec.plain.varTypes Tryd.prog) (ds ++ gs)).all (· ≤ reachBytes) = true := hsz0
  rw [Tryd.params5] at hA hval hsz
  obtain ⟨v0, vs0, d0, ds0, p0, q0, hargs, rfl, rfl, h0, r0⟩ := trodAll_cons hA
  obtain ⟨v1, vs1, d1, ds1, p1, q1, rfl, rfl, rfl, h1, r1⟩ := trodAll_cons r0
  obtain ⟨v2, vs2, d2, ds2, p2, q2, rfl, rfl, rfl, h2, r2⟩ := trodAll_cons r1
  obtain ⟨v3, vs3, d3, ds3, p3, q3, rfl, rfl, rfl, h3, r3⟩ := trodAll_cons r2
  obtain ⟨rfl, rfl, rfl⟩ := trodAll_nil r3
  obtain rfl : args = #[v0, v1, v2, v3] := by cases args; simp_all
  obtain ⟨rfl, rfl⟩ := trodVars_none hV
  have lt0 : ∀ x ∈ p0, x.block < W.heap.size := by obtain ⟨m, hm⟩ := h0; exact DataW.trod_lt m _ _ _ hm
  obtain ⟨a0, len0, cap0, z0, rfl, w0⟩ := open_codes (hval 0 22 v0 rfl rfl) h0
  have lt1 : ∀ x ∈ p1, x.block < W.heap.size := by obtain ⟨m, hm⟩ := h1; exact DataW.trod_lt m _ _ _ hm
  obtain ⟨k1, x1, s1, rfl, w1⟩ := open_Pr (hval 1 29 v1 rfl rfl) h1 (fun n hn => by have hq := List.all_eq_true.1 hsz n (DataW.weights_mem_each (j := 1) (t := 29) rfl rfl n hn); simpa using hq)
  have lt2 : ∀ x ∈ p2, x.block < W.heap.size := by obtain ⟨m, hm⟩ := h2; exact DataW.trod_lt m _ _ _ hm
  obtain ⟨x2, w2⟩ := open_Vs (hval 2 40 v2 rfl rfl) h2 (fun es sp he => by have hq := sized_slice (j := 2) (e := 24) hsz rfl (by rw [he]; rfl) Tryd.underlying40; rwa [bytes24] at hq)
  have lt3 : ∀ x ∈ p3, x.block < W.heap.size := by obtain ⟨m, hm⟩ := h3; exact DataW.trod_lt m _ _ _ hm
  obtain ⟨x3, w3⟩ := open_Vs (hval 3 40 v3 rfl rfl) h3 (fun es sp he => by have hq := sized_slice (j := 3) (e := 24) hsz rfl (by rw [he]; rfl) Tryd.underlying40; rwa [bytes24] at hq)
  clear hA0 hval0
  refine (walk a0 len0 cap0 z0 k1 x1 s1 v2 x2 v3 x3 W w0 w1 w2 w3 hS).mono fun e W' ⟨he, bel⟩ => ?_
  subst he
  exact ⟨_, rfl, _, _, _, [], _, [], hW', trodAll_mk1 (shut_bool Tryd.underlying4 _), (trodAll_cons_mk (Below.trod laidOut (by kernel_rfl) (of_decide_eq_true (by kernel_rfl)) h0 bel lt0) (trodAll_cons_mk (Below.trod laidOut (by kernel_rfl) (of_decide_eq_true (by kernel_rfl)) h1 bel lt1) (trodAll_cons_mk (Below.trod laidOut (by kernel_rfl) (of_decide_eq_true (by kernel_rfl)) h2 bel lt2) (trodAll_cons_mk (Below.trod laidOut (by kernel_rfl) (of_decide_eq_true (by kernel_rfl)) h3 bel lt3) trodAll_mk0)))), rfl, bel.frame _, fun h => by cases h⟩

theorem over : Rows.predicateBindsRow.holds Tryd.pinned (OpenSpec.ofChange Rows.predicateBindsSpec) :=
  OpenClaim.holds_of_wide 5 Tryd.f5 rfl rfl rfl rfl rfl rfl rfl ⟨rfl, rfl, rfl, rfl, rfl⟩ rfl rfl rfl rfl rfl (by kernel_rfl) Tryd.func5 (by kernel_rfl)
    (of_decide_eq_true (by kernel_rfl)) (by unfold Func.isWrapper; first | (rw [if_pos (by decide +kernel)]; kernel_rfl) | (rw [if_neg (by decide +kernel)]; exact ⟨rfl, rfl⟩))
    (fun os started H enc _ => lifted os started H enc)
theorem proved : Rows.PredicateBindsCardSaid :=
  Claim7.holds_tied_plain_at .later [] [.data] true (true, "62304b6054be119b6ae2d039ac867110b2739c12822506048046d376c491136a") false
    over (fun _ h => by cases h) (by kernel_rfl) (fun _ h => by cases h) predicateBinds_row_tie rfl ⟨rfl, rfl⟩ (by kernel_rfl) rfl
    (fun f fn hf hfn => by
      obtain rfl : f = 5 := Option.some.inj ((show Tryd.prog.funcNamed "partsync/partsynclaw05.PredicateBinds" = some 5 by kernel_rfl).symm.trans hf) |>.symm
      obtain rfl : fn = Tryd.f5 := (Option.some.inj (Tryd.func5.symm.trans hfn)).symm
      exact ⟨by kernel_rfl, fun j t ht => by
        rw [Tryd.params5] at ht
        have hm : t ∈ [22, 29, 40, 40] := by simpa using Array.mem_of_getElem? ht
        have hall : ([22, 29, 40, 40].all fun u => !Tryd.prog.wantsStandIn u) = true := by kernel_rfl
        exact (show Tryd.prog.wantsStandIn t = false by simpa using List.all_eq_true.1 hall t hm)⟩)
    (by kernel_rfl)

end Binds
end Go.Proofs.YtndnlmpmloiiiaaDoor
