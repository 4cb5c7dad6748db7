/- The law PredicateChecks returns true for all codes, every predicate that can be read as data and every list of numbers, where the package's table of shapes holds what start-up has laid. -/
import Derived.Test.YtndnlmpmloiiiaaDoorPy
import Derived.Test.YtndnlmpmloiiiaaDoorQf
import Derived.Test.YtndnlmpmloiiiaaDoorQw
import Derived.Test.YtndnlmpmloiiiaaDoorVu
import Derived.Test.YtndnlmpmloiiiaaDoorPfr
import Derived.Test.YtndnlmpmloiiiaaDoorPv
import Derived.Test.YtndnlmpmloiiiaaDoorQi
import Derived.Test.YtndnlmpmloiiiaaDoorTie
import Derived.Test.YtndnlmpmloiiiaaDoorCards
import Derived.SevenTiedAt
set_option linter.unusedSimpArgs false
set_option linter.unusedVariables false
namespace Go.Proofs.YtndnlmpmloiiiaaDoor
open Go.RowKit

open Go.ChangeShapes Go.WideShapes Go.ChangeAt Go.RowKit
namespace Checks
set_option maxHeartbeats 40000000 in
set_option maxRecDepth 100000 in
theorem walk (a : Option Addr) (len cap : Nat) (zs : List Int) (kr : Nat) (raw : Pr) (sr : Value) (vo : Value) (odd : List Int) (w : World) (hr : IsRow .u8 w a len cap zs)
    (hraw : PrIn (fun _ => True) w kr sr raw.args ∧ fitP raw) (hodd : IntsAt (fun _ => True) w vo odd) (hs : Shapes w) :
    Calls Tryd.prog 3 #[.slice a len cap, raw.val sr, vo] w fun e w' => e = .returned (.bool true) ∧ Below w.heap.size w w' := by
  have mx := mixed
  obtain ⟨ra, rc, rfl, -⟩ := hraw.1.shape
  obtain ⟨oa, oc, rfl, -⟩ := hodd.slice
  obtain ⟨W0, hW0⟩ : ∃ W0, W0 = w.alloc (pBlock raw (.slice ra raw.args.length rc) 29) := ⟨_, rfl⟩
  have hg0 : Below w.heap.size w W0 := by rw [hW0]; exact (Below.refl _ _).alloc (Nat.le_refl _) _
  have hx0 : PBx W0 w.heap.size raw (.slice ra raw.args.length rc) := by rw [hW0]; exact PBx.new w raw _ _
  have HX0 := Lib.hid hx0
  have HN := Lib.hid (new120_calls a len cap zs W0 (hr.later hg0))
  have HS : Hid (∀ w', Below w.heap.size w w' → Shapes w') := fun w' h => hs.later h
  have HRAW : Hid (∀ w', Below w.heap.size w w' → PrIn (fun _ => True) w' kr (.slice ra raw.args.length rc) raw.args) := fun w' h => hraw.1.later h
  have HODD : Hid (∀ w', Below w.heap.size w w' → IntsAt (fun _ => True) w' (.slice oa odd.length oc) odd) := fun w' h => hodd.later h
  have HB0 := Lib.hid hg0
  have HW0 := Lib.hid hW0
  have HS0 : Hid (W0.heap.size = w.heap.size + 1) := by show _ = _; rw [hW0]; simp
  clear hr hs hraw hodd hg0 hx0 hW0
  show Calls _ _ #[.slice a len cap, .agg #[.int .i64 raw.op, .int .i64 raw.cmp, .int .i64 raw.l.k, .int .i64 raw.l.i, .int .i64 raw.l.v.k, .int .i64 raw.l.v.n, .string raw.l.v.t, .int .i64 raw.r.k, .int .i64 raw.r.i, .int .i64 raw.r.v.k, .int .i64 raw.r.v.n, .string raw.r.v.t, (.slice ra raw.args.length rc)], (.slice oa odd.length oc)] _ _
  go_enter Tryd.func3, Tryd.ntmps3
  go_wp2_with fail
  have hW0 := HW0.out
  simp only [pBlock, pObj] at hW0
  rw [← hW0]
  clear hW0 HW0
  refine HN.out.mono ?_
  rintro e w1 ⟨b, c, rfl, hbs, hcs, hb1⟩
  have HBW : Hid (w.heap.size ≤ b) := by have := HS0.out; show _ ≤ _; omega
  have HB1 : Hid (Below w.heap.size w w1) := HB0.out.trans (hb1.mono HB0.out.size)
  have HX1 : Hid (PBx w1 w.heap.size raw (.slice ra raw.args.length rc)) := HX0.out.by_ (r := none) ⟨hb1.os, hb1.tape, hb1.output, hb1.size, fun k hk _ => hb1.block k hk⟩ (by simp)
  have HNE : Hid (w.heap.size ≠ b) := by have := HS0.out; show _ ≠ _; omega
  have HK := Lib.hid (kinds_calls b c 4 (by omega) w1 hcs)
  have HBL : Hid (b < w1.heap.size) := hcs.lt
  clear hcs hb1 HN hbs HX0
  generalize w.heap.size = gr at HX1 HNE ⊢
  go_wp2_with fail
  refine HK.out.mono ?_
  rintro e w2 ⟨vk, ks, rfl, hkl, hok, hown, hcs2, hby2⟩
  have HOK := Lib.hid (And.intro hkl hok)
  have hi2 : IntsAt (fun g => g ≠ b) w2 vk ks := hown.ints (by omega) (fun g hg => by have := HBL.out; omega)
  have HI2 := Lib.hid hi2
  have HBY2 := Lib.hid hby2
  have HM := Lib.hid (kinds_calls b c 2 (by omega) w2 hcs2)
  obtain ⟨ka, kc, rfl, -⟩ := hi2.slice
  clear hkl hok hown hcs2 hby2 hi2 HK
  go_wp2_with fail
  refine HM.out.mono ?_
  rintro e w3 ⟨vm, ms, rfl, hml, hmk, hown, hcs3, hby3⟩
  have HI3 : Hid (IntsAt (fun g => g ≠ b) w3 (.slice ka ks.length kc) ks) := HI2.out.kept (kept_by hby3 fun g hg => by cases hg; simp)
  have hm3 : IntsAt (fun g => g ≠ b) w3 vm ms := hown.ints (by omega) (fun g hg => by have := HBL.out; have := HBY2.out.size; omega)
  obtain ⟨ma, mc, rfl, -⟩ := hm3.slice
  have HM3 := Lib.hid hm3
  have HBY3 := Lib.hid (by_trans HBY2.out hby3)
  have HP := Lib.hid (casePredicate_calls (fun g => g ≠ b) b (by simp) c (.slice ka ks.length kc) (.slice ma ms.length mc) ks ms HOK.out.2 hmk (by have := HOK.out.1; omega) (by omega) 3 (by omega) w3 hcs3 HI3.out hm3)
  clear hml hmk hown hcs3 hby3 hm3 HM HI2 HBY2
  go_wp2_with fail
  refine HP.out.mono ?_
  rintro e w4 ⟨p, s, rfl, hps, hck, hdp, hcs4, hby4⟩
  obtain ⟨sa, sc, rfl, -⟩ := hps.shape
  have HCK := Lib.hid hck
  have HCP : Hid (countP p ≤ 24) := by
    have h := hck
    unfold checkE at h
    show _ ≤ _
    split at h
    · cases h
    · split at h
      · cases h
      · rename_i h2; omega
  obtain ⟨W4, hW4⟩ : ∃ W4, W4 = w4.alloc (pBlock p (.slice sa p.args.length sc) 29) := ⟨_, rfl⟩
  have hal4 : ∀ r, w4.grownBy W4 r := fun r => by rw [hW4]; exact World.grownBy_alloc _ _ _
  have HX4 : Hid (PBx W4 w4.heap.size p (.slice sa p.args.length sc)) := by rw [hW4]; exact PBx.new w4 p _ _
  have HG4 : Hid (w4.heap.size ≠ b) := by have := hcs4.lt; show _ ≠ _; omega
  have HBY4 : Hid (w1.grownBy W4 (some b)) := by_trans (by_trans HBY3.out hby4) (hal4 _)
  have HPS4 : Hid (PrIn (fun g => g ≠ b) W4 4 (.slice sa p.args.length sc) p.args) := (hps.mono fun g _ hg => by have := HBL.out; have := HBY3.out.size; omega).kept (kept_by (hal4 none) fun g hg => by cases hg)
  have HI4 : Hid (IntsAt (fun g => g ≠ b) W4 (.slice ka ks.length kc) ks) := HI3.out.kept (kept_by (by_trans hby4 (hal4 _)) fun g hg => by cases hg; simp)
  have HM4 : Hid (IntsAt (fun g => g ≠ b) W4 (.slice ma ms.length mc) ms) := HM3.out.kept (kept_by (by_trans hby4 (hal4 _)) fun g hg => by cases hg; simp)
  have HSP : Hid (Calls Tryd.prog 11 #[.pointer (some ⟨b, 0, none⟩), .agg #[.int .i64 p.op, .int .i64 p.cmp, .int .i64 p.l.k, .int .i64 p.l.i, .int .i64 p.l.v.k, .int .i64 p.l.v.n, .string p.l.v.t, .int .i64 p.r.k, .int .i64 p.r.i, .int .i64 p.r.v.k, .int .i64 p.r.v.n, .string p.r.v.t, (.slice sa p.args.length sc)]] W4 (GotSpoil (fun g => g ≠ b) b c W4)) := spoil_all b c 4 p (fun g => g ≠ b) (.slice sa p.args.length sc) W4 (by simp) (by have := HCP.out; omega) (hcs4.grown (hal4 none)) HPS4.out
  have HW4 := Lib.hid hW4
  obtain ⟨⟨l3, c0, c1, c2, c3, c4, c5, c6, c7, c8, c9, c10, c11, c12⟩, f3⟩ := HX4.out
  clear hps hck hdp hcs4 hby4 hal4 HP HI3 HM3 HBY3
  subst hW4
  go_wp2_with fail
  generalize hWW : w4.alloc (pBlock p (.slice sa p.args.length sc) 29) = W4 at *
  simp only [pBlock, pObj] at hWW
  try rw [hWW]
  clear HW4 hWW l3 c0 c1 c2 c3 c4 c5 c6 c7 c8 c9 c10 c11 c12 f3
  generalize w4.heap.size = gp at HX4 HG4 ⊢
  refine HSP.out.mono ?_
  rintro e w5 ⟨q, t, kq, rfl, hpq, hcs5, hby5⟩
  obtain ⟨qa, qc, rfl, -⟩ := hpq.shape
  obtain ⟨W5, hW5⟩ : ∃ W5, W5 = w5.alloc (pBlock q (.slice qa q.args.length qc) 29) := ⟨_, rfl⟩
  have hal5 : w5.grownBy W5 none := by rw [hW5]; exact World.grownBy_alloc _ _ _
  have hby15 : w1.grownBy W5 (some b) := by_trans (by_trans HBY4.out hby5) (by_some hal5 _)
  have hby45 : ∀ g, (fun g => g ≠ b) g → g ≠ b := fun g h => h
  have HXQ : Hid (PBox W5 w5.heap.size q (.slice qa q.args.length qc)) := by rw [hW5]; exact PBox.new w5 q _ _
  have HXP : Hid (PBox W5 gp p (.slice sa p.args.length sc)) := ((HX4.out.by_ hby5 (by have := HG4.out; simp; omega)).by_ hal5 (by simp)).b
  have HXR : Hid (PBox W5 gr raw (.slice ra raw.args.length rc)) := (HX1.out.by_ hby15 (by have := HNE.out; simp; omega)).b
  have HB5 : Hid (Below w.heap.size w W5) := HB1.out.grown hby15 HB1.out.size (fun k hk => by cases hk; exact HBW.out)
  have HPP : Hid (∀ w', Below W5.heap.size W5 w' → PrIn (fun _ => True) w' 4 (.slice sa p.args.length sc) p.args) := fun w' h => ((((HPS4.out.kept (kept_by hby5 fun g hg => by cases hg; simp)).kept (kept_by hal5 fun g hg => by cases hg)).mono fun _ _ _ => trivial)).later h
  have HPQ : Hid (∀ w', Below W5.heap.size W5 w' → PrIn (fun _ => True) w' kq (.slice qa q.args.length qc) q.args) := fun w' h => ((hpq.later (by_below hal5)).mono fun _ _ _ => trivial).later h
  have HIW : Hid (∀ w', Below W5.heap.size W5 w' → IntsAt (fun g => g ≠ b) w' (.slice ka ks.length kc) ks) := fun w' h => ((HI4.out.kept (kept_by hby5 fun g hg => by cases hg; simp)).kept (kept_by hal5 fun g hg => by cases hg)).later h
  have HMW : Hid (∀ w', Below W5.heap.size W5 w' → IntsAt (fun g => g ≠ b) w' (.slice ma ms.length mc) ms) := fun w' h => ((HM4.out.kept (kept_by hby5 fun g hg => by cases hg; simp)).kept (kept_by hal5 fun g hg => by cases hg)).later h
  have HWW : Hid (∀ w', Below W5.heap.size W5 w' → Below w.heap.size w w') := fun w' h => HB5.out.trans (h.mono HB5.out.size)
  have HW5 := Lib.hid hW5
  clear hpq hcs5 hby5 hal5 hby15 hby45 hW5 HSP HX4 HX1 HB1 HB5 HPS4 HBY4 HI4 HM4
  go_wp2_with fail
  have hW5 := HW5.out
  simp only [pBlock, pObj] at hW5
  rw [← hW5]
  clear hW5 HW5
  generalize w5.heap.size = gq at HXQ ⊢
  have HX : Hid (∀ w', Below W5.heap.size W5 w' → PBox w' gr raw (.slice ra raw.args.length rc) ∧ PBox w' gp p (.slice sa p.args.length sc) ∧ PBox w' gq q (.slice qa q.args.length qc)) := fun w' h => ⟨HXR.out.later h, HXP.out.later h, HXQ.out.later h⟩
  have hdw : Below W5.heap.size W5 W5.drew := (Below.refl _ _).drew
  have HDW := Lib.hid hdw
  clear HXR HXP HXQ hdw
  refine wp_region_noPanic ?_
  refine wp_region_X (fun w' => PBox w' gr raw (.slice ra raw.args.length rc) ∧ PBox w' gp p (.slice sa p.args.length sc) ∧ PBox w' gq q (.slice qa q.args.length qc)) 61 (by kernel_rfl) (HX.out _ HDW.out) (fun hHeld => ?_)
  try simp only [Act.put, List.getElem_toArray, List.getElem_cons_succ, List.getElem_cons_zero, List.setIfInBounds_toArray, List.set_cons_zero, List.set_cons_succ]
  refine wpX_one 0 (by kernel_rfl) rfl (fun K hK => ?_)
  clear hHeld
  go_simp
  go_at_call 12
  refine (begun_calls _ (HS.out _ (HWW.out _ HDW.out))).mono ?_
  rintro e x0 ⟨rfl, hx0⟩
  have Hx0 : Hid (Below W5.heap.size W5 x0) := HDW.out.trans (hx0.mono HDW.out.size)
  clear hx0
  refine hK.out _ _ (HX.out _ Hx0.out) (fun hHeld => ?_)
  clear hK K
  try simp only [Act.put, List.getElem_toArray, List.getElem_cons_succ, List.getElem_cons_zero, List.setIfInBounds_toArray, List.set_cons_zero, List.set_cons_succ]
  try simp only [Act.put, List.getElem_toArray, List.getElem_cons_succ, List.getElem_cons_zero, List.setIfInBounds_toArray, List.set_cons_zero, List.set_cons_succ]
  refine wpX_take 1 (v := ?_) rfl (by kernel_rfl) (by kernel_rfl) (by kernel_rfl) (by kernel_rfl) (by kernel_rfl) (fun _ _ _ h => h) (Or.inl ⟨by rfl, ?_⟩) (by assumption) ?_
  rotate_left
  · intro w hSw; clear hSw; go_simp; try with_reducible rfl
  try simp only [Act.put, List.getElem_toArray, List.getElem_cons_succ, List.getElem_cons_zero, List.setIfInBounds_toArray, List.set_cons_zero, List.set_cons_succ]
  refine wpX_take 2 (v := ?_) rfl (by kernel_rfl) (by kernel_rfl) (by kernel_rfl) (by kernel_rfl) (by kernel_rfl) (fun _ _ _ h => h) (Or.inl ⟨by rfl, ?_⟩) (by assumption) ?_
  rotate_left
  · intro w hSw; clear hSw; go_simp; try with_reducible rfl
  try simp only [Act.put, List.getElem_toArray, List.getElem_cons_succ, List.getElem_cons_zero, List.setIfInBounds_toArray, List.set_cons_zero, List.set_cons_succ]
  refine wpX_take 3 (v := ?_) rfl (by kernel_rfl) (by kernel_rfl) (by kernel_rfl) (by kernel_rfl) (by kernel_rfl) (fun _ _ _ h => h) (Or.inl ⟨by rfl, ?_⟩) (by assumption) ?_
  rotate_left
  · intro w hSw; clear hSw; go_simp; try with_reducible rfl
  try simp only [Act.put, List.getElem_toArray, List.getElem_cons_succ, List.getElem_cons_zero, List.setIfInBounds_toArray, List.set_cons_zero, List.set_cons_succ]
  refine wpX_take 4 (v := ?_) rfl (by kernel_rfl) (by kernel_rfl) (by kernel_rfl) (by kernel_rfl) (by kernel_rfl) (fun _ _ _ h => h) (Or.inl ⟨by rfl, ?_⟩) (by assumption) ?_
  rotate_left
  · intro w hSw; obtain ⟨l, b0, b1, b2, b3, b4, b5, b6, b7, b8, b9, b10, b11, b12⟩ := hSw.2.1; clear hSw; go_simp; try with_reducible rfl
  try simp only [Act.put, List.getElem_toArray, List.getElem_cons_succ, List.getElem_cons_zero, List.setIfInBounds_toArray, List.set_cons_zero, List.set_cons_succ]
  refine wpX_one 5 (by kernel_rfl) rfl (fun K hK => ?_)
  clear hHeld
  go_simp
  go_at_call 13
  refine (show Calls Tryd.prog 13 #[(.slice ka ks.length kc), (.slice ma ms.length mc), p.val (.slice sa p.args.length sc)] x0 (fun e w' => e = .returned (.int .i64 0) ∧ Gro x0 w') from (by rw [← HCK.out]; exact check_calls (fun _ => True) (fun g => g ≠ b) (fun g => g ≠ b) (.slice ka ks.length kc) (.slice ma ms.length mc) ks ms 4 p (.slice sa p.args.length sc) x0 (HS.out _ (HWW.out _ Hx0.out)) (HIW.out _ Hx0.out) (HMW.out _ Hx0.out) (HPP.out _ Hx0.out))).mono ?_
  rintro e x1 ⟨rfl, hx1⟩
  have Hx1 : Hid (Below W5.heap.size W5 x1) := Hx0.out.trans (hx1.below.mono Hx0.out.size)
  clear hx1
  refine hK.out _ _ (HX.out _ Hx1.out) (fun hHeld => ?_)
  clear hK K
  try simp only [Act.put, List.getElem_toArray, List.getElem_cons_succ, List.getElem_cons_zero, List.setIfInBounds_toArray, List.set_cons_zero, List.set_cons_succ]
  try simp only [Act.put, List.getElem_toArray, List.getElem_cons_succ, List.getElem_cons_zero, List.setIfInBounds_toArray, List.set_cons_zero, List.set_cons_succ]
  refine wpX_take 6 (v := ?_) rfl (by kernel_rfl) (by kernel_rfl) (by kernel_rfl) (by kernel_rfl) (by kernel_rfl) (fun _ _ _ h => h) (Or.inl ⟨by rfl, ?_⟩) (by assumption) ?_
  rotate_left
  · intro w hSw; clear hSw; go_simp; try with_reducible rfl
  try simp only [Act.put, List.getElem_toArray, List.getElem_cons_succ, List.getElem_cons_zero, List.setIfInBounds_toArray, List.set_cons_zero, List.set_cons_succ]
  refine wpX_take 7 (v := ?_) rfl (by kernel_rfl) (by kernel_rfl) (by kernel_rfl) (by kernel_rfl) (by kernel_rfl) (fun _ _ _ h => h) (Or.inl ⟨by rfl, ?_⟩) (by assumption) ?_
  rotate_left
  · intro w hSw; clear hSw; go_simp; try with_reducible rfl
  try simp only [Act.put, List.getElem_toArray, List.getElem_cons_succ, List.getElem_cons_zero, List.setIfInBounds_toArray, List.set_cons_zero, List.set_cons_succ]
  refine wpX_take 8 (v := ?_) rfl (by kernel_rfl) (by kernel_rfl) (by kernel_rfl) (by kernel_rfl) (by kernel_rfl) (fun _ _ _ h => h) (Or.inl ⟨by rfl, ?_⟩) (by assumption) ?_
  rotate_left
  · intro w hSw; clear hSw; go_simp; try with_reducible rfl
  obtain ⟨e1, he1⟩ : ∃ e, checkE ks ms q = e := ⟨_, rfl⟩
  have HE1 := Lib.hid he1
  clear he1
  try simp only [Act.put, List.getElem_toArray, List.getElem_cons_succ, List.getElem_cons_zero, List.setIfInBounds_toArray, List.set_cons_zero, List.set_cons_succ]
  refine wpX_take 9 (v := ?_) rfl (by kernel_rfl) (by kernel_rfl) (by kernel_rfl) (by kernel_rfl) (by kernel_rfl) (fun _ _ _ h => h) (Or.inl ⟨by rfl, ?_⟩) (by assumption) ?_
  rotate_left
  · intro w hSw; clear hSw; go_simp; try with_reducible rfl
  try simp only [Act.put, List.getElem_toArray, List.getElem_cons_succ, List.getElem_cons_zero, List.setIfInBounds_toArray, List.set_cons_zero, List.set_cons_succ]
  refine wpX_take 10 (v := ?_) rfl (by kernel_rfl) (by kernel_rfl) (by kernel_rfl) (by kernel_rfl) (by kernel_rfl) (fun _ _ _ h => h) (Or.inl ⟨by rfl, ?_⟩) (by assumption) ?_
  rotate_left
  · intro w hSw; clear hSw; go_simp; try with_reducible rfl
  try simp only [Act.put, List.getElem_toArray, List.getElem_cons_succ, List.getElem_cons_zero, List.setIfInBounds_toArray, List.set_cons_zero, List.set_cons_succ]
  refine wpX_take 11 (v := ?_) rfl (by kernel_rfl) (by kernel_rfl) (by kernel_rfl) (by kernel_rfl) (by kernel_rfl) (fun _ _ _ h => h) (Or.inl ⟨by rfl, ?_⟩) (by assumption) ?_
  rotate_left
  · intro w hSw; obtain ⟨l, b0, b1, b2, b3, b4, b5, b6, b7, b8, b9, b10, b11, b12⟩ := hSw.2.2; clear hSw; go_simp; try with_reducible rfl
  try simp only [Act.put, List.getElem_toArray, List.getElem_cons_succ, List.getElem_cons_zero, List.setIfInBounds_toArray, List.set_cons_zero, List.set_cons_succ]
  refine wpX_take 13 (v := ?_) rfl (by kernel_rfl) (by kernel_rfl) (by kernel_rfl) (by kernel_rfl) (by kernel_rfl) (fun _ _ _ h => h) (Or.inl ⟨by rfl, ?_⟩) (by assumption) ?_
  rotate_left
  · intro w hSw; clear hSw; go_simp; try with_reducible rfl
  try simp only [Act.put, List.getElem_toArray, List.getElem_cons_succ, List.getElem_cons_zero, List.setIfInBounds_toArray, List.set_cons_zero, List.set_cons_succ]
  refine wpX_take 14 (v := ?_) rfl (by kernel_rfl) (by kernel_rfl) (by kernel_rfl) (by kernel_rfl) (by kernel_rfl) (fun _ _ _ h => h) (Or.inl ⟨by rfl, ?_⟩) (by assumption) ?_
  rotate_left
  · intro w hSw; clear hSw; go_simp; try with_reducible rfl
  try simp only [Act.put, List.getElem_toArray, List.getElem_cons_succ, List.getElem_cons_zero, List.setIfInBounds_toArray, List.set_cons_zero, List.set_cons_succ]
  refine wpX_take 15 (v := ?_) rfl (by kernel_rfl) (by kernel_rfl) (by kernel_rfl) (by kernel_rfl) (by kernel_rfl) (fun _ _ _ h => h) (Or.inl ⟨by rfl, ?_⟩) (by assumption) ?_
  rotate_left
  · intro w hSw; obtain ⟨l, b0, b1, b2, b3, b4, b5, b6, b7, b8, b9, b10, b11, b12⟩ := hSw.2.2; clear hSw; go_simp; try with_reducible rfl
  try simp only [Act.put, List.getElem_toArray, List.getElem_cons_succ, List.getElem_cons_zero, List.setIfInBounds_toArray, List.set_cons_zero, List.set_cons_succ]
  refine wpX_one 12 (by kernel_rfl) rfl (fun K hK => ?_)
  clear hHeld
  go_simp
  go_at_call 13
  refine (show Calls Tryd.prog 13 #[(.slice ka ks.length kc), (.slice ma ms.length mc), q.val (.slice qa q.args.length qc)] x1 (fun e w' => e = .returned (.int .i64 e1) ∧ Gro x1 w') from (by rw [← HE1.out]; exact check_calls (fun _ => True) (fun g => g ≠ b) (fun g => g ≠ b) (.slice ka ks.length kc) (.slice ma ms.length mc) ks ms kq q (.slice qa q.args.length qc) x1 (HS.out _ (HWW.out _ Hx1.out)) (HIW.out _ Hx1.out) (HMW.out _ Hx1.out) (HPQ.out _ Hx1.out))).mono ?_
  rintro e x2 ⟨rfl, hx2⟩
  have Hx2 : Hid (Below W5.heap.size W5 x2) := Hx1.out.trans (hx2.below.mono Hx1.out.size)
  clear hx2
  refine hK.out _ _ (HX.out _ Hx2.out) (fun hHeld => ?_)
  clear hK K
  try simp only [Act.put, List.getElem_toArray, List.getElem_cons_succ, List.getElem_cons_zero, List.setIfInBounds_toArray, List.set_cons_zero, List.set_cons_succ]
  try simp only [Act.put, List.getElem_toArray, List.getElem_cons_succ, List.getElem_cons_zero, List.setIfInBounds_toArray, List.set_cons_zero, List.set_cons_succ]
  refine wpX_one 16 (by kernel_rfl) rfl (fun K hK => ?_)
  clear hHeld
  go_simp
  go_at_call 14
  refine (show Calls Tryd.prog 14 #[(.slice ka ks.length kc), (.slice ma ms.length mc), q.val (.slice qa q.args.length qc)] x2 (fun e w' => e = .returned (.int .i64 e1) ∧ Gro x2 w') from (by rw [← HE1.out]; exact refCheck_calls (fun _ => True) (fun g => g ≠ b) (fun g => g ≠ b) (.slice ka ks.length kc) (.slice ma ms.length mc) ks ms kq q (.slice qa q.args.length qc) x2 (HIW.out _ Hx2.out) (HMW.out _ Hx2.out) (HPQ.out _ Hx2.out))).mono ?_
  rintro e x3 ⟨rfl, hx3⟩
  have Hx3 : Hid (Below W5.heap.size W5 x3) := Hx2.out.trans (hx3.below.mono Hx2.out.size)
  clear hx3
  refine hK.out _ _ (HX.out _ Hx3.out) (fun hHeld => ?_)
  clear hK K
  try simp only [Act.put, List.getElem_toArray, List.getElem_cons_succ, List.getElem_cons_zero, List.setIfInBounds_toArray, List.set_cons_zero, List.set_cons_succ]
  try simp only [Act.put, List.getElem_toArray, List.getElem_cons_succ, List.getElem_cons_zero, List.setIfInBounds_toArray, List.set_cons_zero, List.set_cons_succ]
  refine wpX_take 17 (v := ?_) rfl (by kernel_rfl) (by kernel_rfl) (by kernel_rfl) (by kernel_rfl) (by kernel_rfl) (fun _ _ _ h => h) (Or.inl ⟨by rfl, ?_⟩) (by assumption) ?_
  rotate_left
  · intro w hSw; clear hSw; go_simp; try with_reducible rfl
  try simp only [Act.put, List.getElem_toArray, List.getElem_cons_succ, List.getElem_cons_zero, List.setIfInBounds_toArray, List.set_cons_zero, List.set_cons_succ]
  refine wpX_take 18 (v := ?_) rfl (by kernel_rfl) (by kernel_rfl) (by kernel_rfl) (by kernel_rfl) (by kernel_rfl) (fun _ _ _ h => h) (Or.inl ⟨by rfl, ?_⟩) (by assumption) ?_
  rotate_left
  · intro w hSw; clear hSw; go_simp; try with_reducible rfl
  try simp only [Act.put, List.getElem_toArray, List.getElem_cons_succ, List.getElem_cons_zero, List.setIfInBounds_toArray, List.set_cons_zero, List.set_cons_succ]
  refine wpX_take 19 (v := ?_) rfl (by kernel_rfl) (by kernel_rfl) (by kernel_rfl) (by kernel_rfl) (by kernel_rfl) (fun _ _ _ h => h) (Or.inl ⟨by rfl, ?_⟩) (by assumption) ?_
  rotate_left
  · intro w hSw; clear hSw; go_simp; try with_reducible rfl
  obtain ⟨e2, he2⟩ : ∃ e, checkE ks ms raw = e := ⟨_, rfl⟩
  have HE2 := Lib.hid he2
  clear he2
  try simp only [Act.put, List.getElem_toArray, List.getElem_cons_succ, List.getElem_cons_zero, List.setIfInBounds_toArray, List.set_cons_zero, List.set_cons_succ]
  refine wpX_take 20 (v := ?_) rfl (by kernel_rfl) (by kernel_rfl) (by kernel_rfl) (by kernel_rfl) (by kernel_rfl) (fun _ _ _ h => h) (Or.inl ⟨by rfl, ?_⟩) (by assumption) ?_
  rotate_left
  · intro w hSw; clear hSw; go_simp; try with_reducible rfl
  try simp only [Act.put, List.getElem_toArray, List.getElem_cons_succ, List.getElem_cons_zero, List.setIfInBounds_toArray, List.set_cons_zero, List.set_cons_succ]
  refine wpX_take 21 (v := ?_) rfl (by kernel_rfl) (by kernel_rfl) (by kernel_rfl) (by kernel_rfl) (by kernel_rfl) (fun _ _ _ h => h) (Or.inl ⟨by rfl, ?_⟩) (by assumption) ?_
  rotate_left
  · intro w hSw; clear hSw; go_simp; try with_reducible rfl
  try simp only [Act.put, List.getElem_toArray, List.getElem_cons_succ, List.getElem_cons_zero, List.setIfInBounds_toArray, List.set_cons_zero, List.set_cons_succ]
  refine wpX_take 22 (v := ?_) rfl (by kernel_rfl) (by kernel_rfl) (by kernel_rfl) (by kernel_rfl) (by kernel_rfl) (fun _ _ _ h => h) (Or.inl ⟨by rfl, ?_⟩) (by assumption) ?_
  rotate_left
  · intro w hSw; obtain ⟨l, b0, b1, b2, b3, b4, b5, b6, b7, b8, b9, b10, b11, b12⟩ := hSw.1; clear hSw; go_simp; try with_reducible rfl
  try simp only [Act.put, List.getElem_toArray, List.getElem_cons_succ, List.getElem_cons_zero, List.setIfInBounds_toArray, List.set_cons_zero, List.set_cons_succ]
  refine wpX_take 24 (v := ?_) rfl (by kernel_rfl) (by kernel_rfl) (by kernel_rfl) (by kernel_rfl) (by kernel_rfl) (fun _ _ _ h => h) (Or.inl ⟨by rfl, ?_⟩) (by assumption) ?_
  rotate_left
  · intro w hSw; clear hSw; go_simp; try with_reducible rfl
  try simp only [Act.put, List.getElem_toArray, List.getElem_cons_succ, List.getElem_cons_zero, List.setIfInBounds_toArray, List.set_cons_zero, List.set_cons_succ]
  refine wpX_take 25 (v := ?_) rfl (by kernel_rfl) (by kernel_rfl) (by kernel_rfl) (by kernel_rfl) (by kernel_rfl) (fun _ _ _ h => h) (Or.inl ⟨by rfl, ?_⟩) (by assumption) ?_
  rotate_left
  · intro w hSw; clear hSw; go_simp; try with_reducible rfl
  try simp only [Act.put, List.getElem_toArray, List.getElem_cons_succ, List.getElem_cons_zero, List.setIfInBounds_toArray, List.set_cons_zero, List.set_cons_succ]
  refine wpX_take 26 (v := ?_) rfl (by kernel_rfl) (by kernel_rfl) (by kernel_rfl) (by kernel_rfl) (by kernel_rfl) (fun _ _ _ h => h) (Or.inl ⟨by rfl, ?_⟩) (by assumption) ?_
  rotate_left
  · intro w hSw; obtain ⟨l, b0, b1, b2, b3, b4, b5, b6, b7, b8, b9, b10, b11, b12⟩ := hSw.1; clear hSw; go_simp; try with_reducible rfl
  try simp only [Act.put, List.getElem_toArray, List.getElem_cons_succ, List.getElem_cons_zero, List.setIfInBounds_toArray, List.set_cons_zero, List.set_cons_succ]
  refine wpX_one 23 (by kernel_rfl) rfl (fun K hK => ?_)
  clear hHeld
  go_simp
  go_at_call 13
  refine (show Calls Tryd.prog 13 #[(.slice ka ks.length kc), (.slice ma ms.length mc), raw.val (.slice ra raw.args.length rc)] x3 (fun e w' => e = .returned (.int .i64 e2) ∧ Gro x3 w') from (by rw [← HE2.out]; exact check_calls (fun _ => True) (fun g => g ≠ b) (fun g => g ≠ b) (.slice ka ks.length kc) (.slice ma ms.length mc) ks ms kr raw (.slice ra raw.args.length rc) x3 (HS.out _ (HWW.out _ Hx3.out)) (HIW.out _ Hx3.out) (HMW.out _ Hx3.out) (HRAW.out _ (HWW.out _ Hx3.out)))).mono ?_
  rintro e x4 ⟨rfl, hx4⟩
  have Hx4 : Hid (Below W5.heap.size W5 x4) := Hx3.out.trans (hx4.below.mono Hx3.out.size)
  clear hx4
  refine hK.out _ _ (HX.out _ Hx4.out) (fun hHeld => ?_)
  clear hK K
  try simp only [Act.put, List.getElem_toArray, List.getElem_cons_succ, List.getElem_cons_zero, List.setIfInBounds_toArray, List.set_cons_zero, List.set_cons_succ]
  try simp only [Act.put, List.getElem_toArray, List.getElem_cons_succ, List.getElem_cons_zero, List.setIfInBounds_toArray, List.set_cons_zero, List.set_cons_succ]
  refine wpX_one 27 (by kernel_rfl) rfl (fun K hK => ?_)
  clear hHeld
  go_simp
  go_at_call 14
  refine (show Calls Tryd.prog 14 #[(.slice ka ks.length kc), (.slice ma ms.length mc), raw.val (.slice ra raw.args.length rc)] x4 (fun e w' => e = .returned (.int .i64 e2) ∧ Gro x4 w') from (by rw [← HE2.out]; exact refCheck_calls (fun _ => True) (fun g => g ≠ b) (fun g => g ≠ b) (.slice ka ks.length kc) (.slice ma ms.length mc) ks ms kr raw (.slice ra raw.args.length rc) x4 (HIW.out _ Hx4.out) (HMW.out _ Hx4.out) (HRAW.out _ (HWW.out _ Hx4.out)))).mono ?_
  rintro e x5 ⟨rfl, hx5⟩
  have Hx5 : Hid (Below W5.heap.size W5 x5) := Hx4.out.trans (hx5.below.mono Hx4.out.size)
  clear hx5
  refine hK.out _ _ (HX.out _ Hx5.out) (fun hHeld => ?_)
  clear hK K
  try simp only [Act.put, List.getElem_toArray, List.getElem_cons_succ, List.getElem_cons_zero, List.setIfInBounds_toArray, List.set_cons_zero, List.set_cons_succ]
  try simp only [Act.put, List.getElem_toArray, List.getElem_cons_succ, List.getElem_cons_zero, List.setIfInBounds_toArray, List.set_cons_zero, List.set_cons_succ]
  refine wpX_take 28 (v := ?_) rfl (by kernel_rfl) (by kernel_rfl) (by kernel_rfl) (by kernel_rfl) (by kernel_rfl) (fun _ _ _ h => h) (Or.inl ⟨by rfl, ?_⟩) (by assumption) ?_
  rotate_left
  · intro w hSw; clear hSw; go_simp; try with_reducible rfl
  try simp only [Act.put, List.getElem_toArray, List.getElem_cons_succ, List.getElem_cons_zero, List.setIfInBounds_toArray, List.set_cons_zero, List.set_cons_succ]
  refine wpX_take 29 (v := ?_) rfl (by kernel_rfl) (by kernel_rfl) (by kernel_rfl) (by kernel_rfl) (by kernel_rfl) (fun _ _ _ h => h) (Or.inl ⟨by rfl, ?_⟩) (by assumption) ?_
  rotate_left
  · intro w hSw; clear hSw; go_simp; try with_reducible rfl
  try simp only [Act.put, List.getElem_toArray, List.getElem_cons_succ, List.getElem_cons_zero, List.setIfInBounds_toArray, List.set_cons_zero, List.set_cons_succ]
  refine wpX_take 30 (v := ?_) rfl (by kernel_rfl) (by kernel_rfl) (by kernel_rfl) (by kernel_rfl) (by kernel_rfl) (fun _ _ _ h => h) (Or.inl ⟨by rfl, ?_⟩) (by assumption) ?_
  rotate_left
  · intro w hSw; clear hSw; go_simp; try with_reducible rfl
  obtain ⟨e3, he3⟩ : ∃ e, checkE ks [] p = e := ⟨_, rfl⟩
  have HE3 := Lib.hid he3
  clear he3
  try simp only [Act.put, List.getElem_toArray, List.getElem_cons_succ, List.getElem_cons_zero, List.setIfInBounds_toArray, List.set_cons_zero, List.set_cons_succ]
  refine wpX_take 31 (v := ?_) rfl (by kernel_rfl) (by kernel_rfl) (by kernel_rfl) (by kernel_rfl) (by kernel_rfl) (fun _ _ _ h => h) (Or.inl ⟨by rfl, ?_⟩) (by assumption) ?_
  rotate_left
  · intro w hSw; clear hSw; go_simp; try with_reducible rfl
  try simp only [Act.put, List.getElem_toArray, List.getElem_cons_succ, List.getElem_cons_zero, List.setIfInBounds_toArray, List.set_cons_zero, List.set_cons_succ]
  refine wpX_take 32 (v := ?_) rfl (by kernel_rfl) (by kernel_rfl) (by kernel_rfl) (by kernel_rfl) (by kernel_rfl) (fun _ _ _ h => h) (Or.inl ⟨by rfl, ?_⟩) (by assumption) ?_
  rotate_left
  · intro w hSw; obtain ⟨l, b0, b1, b2, b3, b4, b5, b6, b7, b8, b9, b10, b11, b12⟩ := hSw.2.1; clear hSw; go_simp; try with_reducible rfl
  try simp only [Act.put, List.getElem_toArray, List.getElem_cons_succ, List.getElem_cons_zero, List.setIfInBounds_toArray, List.set_cons_zero, List.set_cons_succ]
  refine wpX_take 34 (v := ?_) rfl (by kernel_rfl) (by kernel_rfl) (by kernel_rfl) (by kernel_rfl) (by kernel_rfl) (fun _ _ _ h => h) (Or.inl ⟨by rfl, ?_⟩) (by assumption) ?_
  rotate_left
  · intro w hSw; clear hSw; go_simp; try with_reducible rfl
  try simp only [Act.put, List.getElem_toArray, List.getElem_cons_succ, List.getElem_cons_zero, List.setIfInBounds_toArray, List.set_cons_zero, List.set_cons_succ]
  refine wpX_take 35 (v := ?_) rfl (by kernel_rfl) (by kernel_rfl) (by kernel_rfl) (by kernel_rfl) (by kernel_rfl) (fun _ _ _ h => h) (Or.inl ⟨by rfl, ?_⟩) (by assumption) ?_
  rotate_left
  · intro w hSw; obtain ⟨l, b0, b1, b2, b3, b4, b5, b6, b7, b8, b9, b10, b11, b12⟩ := hSw.2.1; clear hSw; go_simp; try with_reducible rfl
  try simp only [Act.put, List.getElem_toArray, List.getElem_cons_succ, List.getElem_cons_zero, List.setIfInBounds_toArray, List.set_cons_zero, List.set_cons_succ]
  refine wpX_one 33 (by kernel_rfl) rfl (fun K hK => ?_)
  clear hHeld
  go_simp
  go_at_call 13
  refine (show Calls Tryd.prog 13 #[(.slice ka ks.length kc), (.slice none 0 0), p.val (.slice sa p.args.length sc)] x5 (fun e w' => e = .returned (.int .i64 e3) ∧ Gro x5 w') from (by rw [← HE3.out]; exact check_calls (fun _ => True) (fun g => g ≠ b) (fun g => g ≠ b) (.slice ka ks.length kc) (.slice none 0 0) ks [] 4 p (.slice sa p.args.length sc) x5 (HS.out _ (HWW.out _ Hx5.out)) (HIW.out _ Hx5.out) (IntsAt.nil none 0) (HPP.out _ Hx5.out))).mono ?_
  rintro e x6 ⟨rfl, hx6⟩
  have Hx6 : Hid (Below W5.heap.size W5 x6) := Hx5.out.trans (hx6.below.mono Hx5.out.size)
  clear hx6
  refine hK.out _ _ (HX.out _ Hx6.out) (fun hHeld => ?_)
  clear hK K
  try simp only [Act.put, List.getElem_toArray, List.getElem_cons_succ, List.getElem_cons_zero, List.setIfInBounds_toArray, List.set_cons_zero, List.set_cons_succ]
  try simp only [Act.put, List.getElem_toArray, List.getElem_cons_succ, List.getElem_cons_zero, List.setIfInBounds_toArray, List.set_cons_zero, List.set_cons_succ]
  refine wpX_one 36 (by kernel_rfl) rfl (fun K hK => ?_)
  clear hHeld
  go_simp
  go_at_call 14
  refine (show Calls Tryd.prog 14 #[(.slice ka ks.length kc), (.slice none 0 0), p.val (.slice sa p.args.length sc)] x6 (fun e w' => e = .returned (.int .i64 e3) ∧ Gro x6 w') from (by rw [← HE3.out]; exact refCheck_calls (fun _ => True) (fun g => g ≠ b) (fun g => g ≠ b) (.slice ka ks.length kc) (.slice none 0 0) ks [] 4 p (.slice sa p.args.length sc) x6 (HIW.out _ Hx6.out) (IntsAt.nil none 0) (HPP.out _ Hx6.out))).mono ?_
  rintro e x7 ⟨rfl, hx7⟩
  have Hx7 : Hid (Below W5.heap.size W5 x7) := Hx6.out.trans (hx7.below.mono Hx6.out.size)
  clear hx7
  refine hK.out _ _ (HX.out _ Hx7.out) (fun hHeld => ?_)
  clear hK K
  try simp only [Act.put, List.getElem_toArray, List.getElem_cons_succ, List.getElem_cons_zero, List.setIfInBounds_toArray, List.set_cons_zero, List.set_cons_succ]
  try simp only [Act.put, List.getElem_toArray, List.getElem_cons_succ, List.getElem_cons_zero, List.setIfInBounds_toArray, List.set_cons_zero, List.set_cons_succ]
  refine wpX_take 37 (v := ?_) rfl (by kernel_rfl) (by kernel_rfl) (by kernel_rfl) (by kernel_rfl) (by kernel_rfl) (fun _ _ _ h => h) (Or.inl ⟨by rfl, ?_⟩) (by assumption) ?_
  rotate_left
  · intro w hSw; clear hSw; go_simp; try with_reducible rfl
  try simp only [Act.put, List.getElem_toArray, List.getElem_cons_succ, List.getElem_cons_zero, List.setIfInBounds_toArray, List.set_cons_zero, List.set_cons_succ]
  refine wpX_take 38 (v := ?_) rfl (by kernel_rfl) (by kernel_rfl) (by kernel_rfl) (by kernel_rfl) (by kernel_rfl) (fun _ _ _ h => h) (Or.inl ⟨by rfl, ?_⟩) (by assumption) ?_
  rotate_left
  · intro w hSw; clear hSw; go_simp; try with_reducible rfl
  try simp only [Act.put, List.getElem_toArray, List.getElem_cons_succ, List.getElem_cons_zero, List.setIfInBounds_toArray, List.set_cons_zero, List.set_cons_succ]
  refine wpX_take 39 (v := ?_) rfl (by kernel_rfl) (by kernel_rfl) (by kernel_rfl) (by kernel_rfl) (by kernel_rfl) (fun _ _ _ h => h) (Or.inl ⟨by rfl, ?_⟩) (by assumption) ?_
  rotate_left
  · intro w hSw; clear hSw; go_simp; try with_reducible rfl
  obtain ⟨e4, he4⟩ : ∃ e, checkE odd ms p = e := ⟨_, rfl⟩
  have HE4 := Lib.hid he4
  clear he4
  try simp only [Act.put, List.getElem_toArray, List.getElem_cons_succ, List.getElem_cons_zero, List.setIfInBounds_toArray, List.set_cons_zero, List.set_cons_succ]
  refine wpX_take 40 (v := ?_) rfl (by kernel_rfl) (by kernel_rfl) (by kernel_rfl) (by kernel_rfl) (by kernel_rfl) (fun _ _ _ h => h) (Or.inl ⟨by rfl, ?_⟩) (by assumption) ?_
  rotate_left
  · intro w hSw; clear hSw; go_simp; try with_reducible rfl
  try simp only [Act.put, List.getElem_toArray, List.getElem_cons_succ, List.getElem_cons_zero, List.setIfInBounds_toArray, List.set_cons_zero, List.set_cons_succ]
  refine wpX_take 41 (v := ?_) rfl (by kernel_rfl) (by kernel_rfl) (by kernel_rfl) (by kernel_rfl) (by kernel_rfl) (fun _ _ _ h => h) (Or.inl ⟨by rfl, ?_⟩) (by assumption) ?_
  rotate_left
  · intro w hSw; clear hSw; go_simp; try with_reducible rfl
  try simp only [Act.put, List.getElem_toArray, List.getElem_cons_succ, List.getElem_cons_zero, List.setIfInBounds_toArray, List.set_cons_zero, List.set_cons_succ]
  refine wpX_take 42 (v := ?_) rfl (by kernel_rfl) (by kernel_rfl) (by kernel_rfl) (by kernel_rfl) (by kernel_rfl) (fun _ _ _ h => h) (Or.inl ⟨by rfl, ?_⟩) (by assumption) ?_
  rotate_left
  · intro w hSw; obtain ⟨l, b0, b1, b2, b3, b4, b5, b6, b7, b8, b9, b10, b11, b12⟩ := hSw.2.1; clear hSw; go_simp; try with_reducible rfl
  try simp only [Act.put, List.getElem_toArray, List.getElem_cons_succ, List.getElem_cons_zero, List.setIfInBounds_toArray, List.set_cons_zero, List.set_cons_succ]
  refine wpX_take 44 (v := ?_) rfl (by kernel_rfl) (by kernel_rfl) (by kernel_rfl) (by kernel_rfl) (by kernel_rfl) (fun _ _ _ h => h) (Or.inl ⟨by rfl, ?_⟩) (by assumption) ?_
  rotate_left
  · intro w hSw; clear hSw; go_simp; try with_reducible rfl
  try simp only [Act.put, List.getElem_toArray, List.getElem_cons_succ, List.getElem_cons_zero, List.setIfInBounds_toArray, List.set_cons_zero, List.set_cons_succ]
  refine wpX_take 45 (v := ?_) rfl (by kernel_rfl) (by kernel_rfl) (by kernel_rfl) (by kernel_rfl) (by kernel_rfl) (fun _ _ _ h => h) (Or.inl ⟨by rfl, ?_⟩) (by assumption) ?_
  rotate_left
  · intro w hSw; clear hSw; go_simp; try with_reducible rfl
  try simp only [Act.put, List.getElem_toArray, List.getElem_cons_succ, List.getElem_cons_zero, List.setIfInBounds_toArray, List.set_cons_zero, List.set_cons_succ]
  refine wpX_take 46 (v := ?_) rfl (by kernel_rfl) (by kernel_rfl) (by kernel_rfl) (by kernel_rfl) (by kernel_rfl) (fun _ _ _ h => h) (Or.inl ⟨by rfl, ?_⟩) (by assumption) ?_
  rotate_left
  · intro w hSw; obtain ⟨l, b0, b1, b2, b3, b4, b5, b6, b7, b8, b9, b10, b11, b12⟩ := hSw.2.1; clear hSw; go_simp; try with_reducible rfl
  try simp only [Act.put, List.getElem_toArray, List.getElem_cons_succ, List.getElem_cons_zero, List.setIfInBounds_toArray, List.set_cons_zero, List.set_cons_succ]
  refine wpX_one 43 (by kernel_rfl) rfl (fun K hK => ?_)
  clear hHeld
  go_simp
  go_at_call 13
  refine (show Calls Tryd.prog 13 #[(.slice oa odd.length oc), (.slice ma ms.length mc), p.val (.slice sa p.args.length sc)] x7 (fun e w' => e = .returned (.int .i64 e4) ∧ Gro x7 w') from (by rw [← HE4.out]; exact check_calls (fun _ => True) (fun _ => True) (fun g => g ≠ b) (.slice oa odd.length oc) (.slice ma ms.length mc) odd ms 4 p (.slice sa p.args.length sc) x7 (HS.out _ (HWW.out _ Hx7.out)) (HODD.out _ (HWW.out _ Hx7.out)) (HMW.out _ Hx7.out) (HPP.out _ Hx7.out))).mono ?_
  rintro e x8 ⟨rfl, hx8⟩
  have Hx8 : Hid (Below W5.heap.size W5 x8) := Hx7.out.trans (hx8.below.mono Hx7.out.size)
  clear hx8
  refine hK.out _ _ (HX.out _ Hx8.out) (fun hHeld => ?_)
  clear hK K
  try simp only [Act.put, List.getElem_toArray, List.getElem_cons_succ, List.getElem_cons_zero, List.setIfInBounds_toArray, List.set_cons_zero, List.set_cons_succ]
  try simp only [Act.put, List.getElem_toArray, List.getElem_cons_succ, List.getElem_cons_zero, List.setIfInBounds_toArray, List.set_cons_zero, List.set_cons_succ]
  refine wpX_one 47 (by kernel_rfl) rfl (fun K hK => ?_)
  clear hHeld
  go_simp
  go_at_call 14
  refine (show Calls Tryd.prog 14 #[(.slice oa odd.length oc), (.slice ma ms.length mc), p.val (.slice sa p.args.length sc)] x8 (fun e w' => e = .returned (.int .i64 e4) ∧ Gro x8 w') from (by rw [← HE4.out]; exact refCheck_calls (fun _ => True) (fun _ => True) (fun g => g ≠ b) (.slice oa odd.length oc) (.slice ma ms.length mc) odd ms 4 p (.slice sa p.args.length sc) x8 (HODD.out _ (HWW.out _ Hx8.out)) (HMW.out _ Hx8.out) (HPP.out _ Hx8.out))).mono ?_
  rintro e x9 ⟨rfl, hx9⟩
  have Hx9 : Hid (Below W5.heap.size W5 x9) := Hx8.out.trans (hx9.below.mono Hx8.out.size)
  clear hx9
  refine hK.out _ _ (HX.out _ Hx9.out) (fun hHeld => ?_)
  clear hK K
  try simp only [Act.put, List.getElem_toArray, List.getElem_cons_succ, List.getElem_cons_zero, List.setIfInBounds_toArray, List.set_cons_zero, List.set_cons_succ]
  try simp only [Act.put, List.getElem_toArray, List.getElem_cons_succ, List.getElem_cons_zero, List.setIfInBounds_toArray, List.set_cons_zero, List.set_cons_succ]
  refine wpX_take 48 (v := ?_) rfl (by kernel_rfl) (by kernel_rfl) (by kernel_rfl) (by kernel_rfl) (by kernel_rfl) (fun _ _ _ h => h) (Or.inl ⟨by rfl, ?_⟩) (by assumption) ?_
  rotate_left
  · intro w hSw; clear hSw; go_simp; try with_reducible rfl
  try simp only [Act.put, List.getElem_toArray, List.getElem_cons_succ, List.getElem_cons_zero, List.setIfInBounds_toArray, List.set_cons_zero, List.set_cons_succ]
  refine wpX_take 49 (v := ?_) rfl (by kernel_rfl) (by kernel_rfl) (by kernel_rfl) (by kernel_rfl) (by kernel_rfl) (fun _ _ _ h => h) (Or.inl ⟨by rfl, ?_⟩) (by assumption) ?_
  rotate_left
  · intro w hSw; clear hSw; go_simp; try with_reducible rfl
  try simp only [Act.put, List.getElem_toArray, List.getElem_cons_succ, List.getElem_cons_zero, List.setIfInBounds_toArray, List.set_cons_zero, List.set_cons_succ]
  refine wpX_take 50 (v := ?_) rfl (by kernel_rfl) (by kernel_rfl) (by kernel_rfl) (by kernel_rfl) (by kernel_rfl) (fun _ _ _ h => h) (Or.inl ⟨by rfl, ?_⟩) (by assumption) ?_
  rotate_left
  · intro w hSw; clear hSw; go_simp; try with_reducible rfl
  obtain ⟨e5, he5⟩ : ∃ e, checkE ks odd p = e := ⟨_, rfl⟩
  have HE5 := Lib.hid he5
  clear he5
  try simp only [Act.put, List.getElem_toArray, List.getElem_cons_succ, List.getElem_cons_zero, List.setIfInBounds_toArray, List.set_cons_zero, List.set_cons_succ]
  refine wpX_take 51 (v := ?_) rfl (by kernel_rfl) (by kernel_rfl) (by kernel_rfl) (by kernel_rfl) (by kernel_rfl) (fun _ _ _ h => h) (Or.inl ⟨by rfl, ?_⟩) (by assumption) ?_
  rotate_left
  · intro w hSw; clear hSw; go_simp; try with_reducible rfl
  try simp only [Act.put, List.getElem_toArray, List.getElem_cons_succ, List.getElem_cons_zero, List.setIfInBounds_toArray, List.set_cons_zero, List.set_cons_succ]
  refine wpX_take 52 (v := ?_) rfl (by kernel_rfl) (by kernel_rfl) (by kernel_rfl) (by kernel_rfl) (by kernel_rfl) (fun _ _ _ h => h) (Or.inl ⟨by rfl, ?_⟩) (by assumption) ?_
  rotate_left
  · intro w hSw; clear hSw; go_simp; try with_reducible rfl
  try simp only [Act.put, List.getElem_toArray, List.getElem_cons_succ, List.getElem_cons_zero, List.setIfInBounds_toArray, List.set_cons_zero, List.set_cons_succ]
  refine wpX_take 53 (v := ?_) rfl (by kernel_rfl) (by kernel_rfl) (by kernel_rfl) (by kernel_rfl) (by kernel_rfl) (fun _ _ _ h => h) (Or.inl ⟨by rfl, ?_⟩) (by assumption) ?_
  rotate_left
  · intro w hSw; obtain ⟨l, b0, b1, b2, b3, b4, b5, b6, b7, b8, b9, b10, b11, b12⟩ := hSw.2.1; clear hSw; go_simp; try with_reducible rfl
  try simp only [Act.put, List.getElem_toArray, List.getElem_cons_succ, List.getElem_cons_zero, List.setIfInBounds_toArray, List.set_cons_zero, List.set_cons_succ]
  refine wpX_take 55 (v := ?_) rfl (by kernel_rfl) (by kernel_rfl) (by kernel_rfl) (by kernel_rfl) (by kernel_rfl) (fun _ _ _ h => h) (Or.inl ⟨by rfl, ?_⟩) (by assumption) ?_
  rotate_left
  · intro w hSw; clear hSw; go_simp; try with_reducible rfl
  try simp only [Act.put, List.getElem_toArray, List.getElem_cons_succ, List.getElem_cons_zero, List.setIfInBounds_toArray, List.set_cons_zero, List.set_cons_succ]
  refine wpX_take 56 (v := ?_) rfl (by kernel_rfl) (by kernel_rfl) (by kernel_rfl) (by kernel_rfl) (by kernel_rfl) (fun _ _ _ h => h) (Or.inl ⟨by rfl, ?_⟩) (by assumption) ?_
  rotate_left
  · intro w hSw; clear hSw; go_simp; try with_reducible rfl
  try simp only [Act.put, List.getElem_toArray, List.getElem_cons_succ, List.getElem_cons_zero, List.setIfInBounds_toArray, List.set_cons_zero, List.set_cons_succ]
  refine wpX_take 57 (v := ?_) rfl (by kernel_rfl) (by kernel_rfl) (by kernel_rfl) (by kernel_rfl) (by kernel_rfl) (fun _ _ _ h => h) (Or.inl ⟨by rfl, ?_⟩) (by assumption) ?_
  rotate_left
  · intro w hSw; obtain ⟨l, b0, b1, b2, b3, b4, b5, b6, b7, b8, b9, b10, b11, b12⟩ := hSw.2.1; clear hSw; go_simp; try with_reducible rfl
  try simp only [Act.put, List.getElem_toArray, List.getElem_cons_succ, List.getElem_cons_zero, List.setIfInBounds_toArray, List.set_cons_zero, List.set_cons_succ]
  refine wpX_one 54 (by kernel_rfl) rfl (fun K hK => ?_)
  clear hHeld
  go_simp
  go_at_call 13
  refine (show Calls Tryd.prog 13 #[(.slice ka ks.length kc), (.slice oa odd.length oc), p.val (.slice sa p.args.length sc)] x9 (fun e w' => e = .returned (.int .i64 e5) ∧ Gro x9 w') from (by rw [← HE5.out]; exact check_calls (fun _ => True) (fun g => g ≠ b) (fun _ => True) (.slice ka ks.length kc) (.slice oa odd.length oc) ks odd 4 p (.slice sa p.args.length sc) x9 (HS.out _ (HWW.out _ Hx9.out)) (HIW.out _ Hx9.out) (HODD.out _ (HWW.out _ Hx9.out)) (HPP.out _ Hx9.out))).mono ?_
  rintro e x10 ⟨rfl, hx10⟩
  have Hx10 : Hid (Below W5.heap.size W5 x10) := Hx9.out.trans (hx10.below.mono Hx9.out.size)
  clear hx10
  refine hK.out _ _ (HX.out _ Hx10.out) (fun hHeld => ?_)
  clear hK K
  try simp only [Act.put, List.getElem_toArray, List.getElem_cons_succ, List.getElem_cons_zero, List.setIfInBounds_toArray, List.set_cons_zero, List.set_cons_succ]
  try simp only [Act.put, List.getElem_toArray, List.getElem_cons_succ, List.getElem_cons_zero, List.setIfInBounds_toArray, List.set_cons_zero, List.set_cons_succ]
  refine wpX_one 58 (by kernel_rfl) rfl (fun K hK => ?_)
  clear hHeld
  go_simp
  go_at_call 14
  refine (show Calls Tryd.prog 14 #[(.slice ka ks.length kc), (.slice oa odd.length oc), p.val (.slice sa p.args.length sc)] x10 (fun e w' => e = .returned (.int .i64 e5) ∧ Gro x10 w') from (by rw [← HE5.out]; exact refCheck_calls (fun _ => True) (fun g => g ≠ b) (fun _ => True) (.slice ka ks.length kc) (.slice oa odd.length oc) ks odd 4 p (.slice sa p.args.length sc) x10 (HIW.out _ Hx10.out) (HODD.out _ (HWW.out _ Hx10.out)) (HPP.out _ Hx10.out))).mono ?_
  rintro e x11 ⟨rfl, hx11⟩
  have Hx11 : Hid (Below W5.heap.size W5 x11) := Hx10.out.trans (hx11.below.mono Hx10.out.size)
  clear hx11
  refine hK.out _ _ (HX.out _ Hx11.out) (fun hHeld => ?_)
  clear hK K
  try simp only [Act.put, List.getElem_toArray, List.getElem_cons_succ, List.getElem_cons_zero, List.setIfInBounds_toArray, List.set_cons_zero, List.set_cons_succ]
  try simp only [Act.put, List.getElem_toArray, List.getElem_cons_succ, List.getElem_cons_zero, List.setIfInBounds_toArray, List.set_cons_zero, List.set_cons_succ]
  refine wpX_take 59 (v := ?_) rfl (by kernel_rfl) (by kernel_rfl) (by kernel_rfl) (by kernel_rfl) (by kernel_rfl) (fun _ _ _ h => h) (Or.inl ⟨by rfl, ?_⟩) (by assumption) ?_
  rotate_left
  · intro w hSw; clear hSw; go_simp; try with_reducible rfl
  try simp only [Act.put, List.getElem_toArray, List.getElem_cons_succ, List.getElem_cons_zero, List.setIfInBounds_toArray, List.set_cons_zero, List.set_cons_succ]
  refine wpX_take 60 (v := ?_) rfl (by kernel_rfl) (by kernel_rfl) (by kernel_rfl) (by kernel_rfl) (by kernel_rfl) (fun _ _ _ h => h) (Or.inl ⟨by rfl, ?_⟩) (by assumption) ?_
  rotate_left
  · intro w hSw; clear hSw; go_simp; try with_reducible rfl
  try simp only [Act.put, List.getElem_toArray, List.getElem_cons_succ, List.getElem_cons_zero, List.setIfInBounds_toArray, List.set_cons_zero, List.set_cons_succ]
  refine wpX_last 61 (by kernel_rfl) rfl rfl (by kernel_rfl) (fun K hK => ?_)
  go_simp
  refine hK.out _ _ ?_
  clear hK K
  refine NoPanic.normal ?_
  go_wp2
  go_ret
  exact ⟨rfl, HWW.out _ Hx11.out⟩
set_option maxRecDepth 100000 in
theorem lifted (os : Os) (started : os.Started) (H : Type) (enc : TypeId × Value → H) :
    ReturnsInHanded {} Tryd.checked os 3 .any (fun w args => (Rows.predicateChecksSpec.pre enc Tryd.prog Tryd.f3 [] false w args ∧ laidMetH Tryd.prog laid1 w) ∧ sizedMet enc Tryd.prog Tryd.f3 (OpenSpec.ofChange Rows.predicateChecksSpec) false w args) (Rows.predicateChecksSpec.post enc Tryd.prog Tryd.f3 false true false false) := by
  refine returnsInHanded_of_change_and (C := Tryd.checked) (X := fun w _ => laidMetH Tryd.prog laid1 w) (fun _ _ _ hh h => h.of_heap hh) own started (by kernel_rfl) Tryd.func3
    (ChangeSpec.witness_shaped (enc := enc) (C := Tryd.checked) (os := os) (X := fun w _ => laidMetH Tryd.prog laid1 w) false (World.doorLaid Tryd.prog 400 os) #[.slice none 0 0, .agg #[.int .i64 0, .int .i64 0, .int .i64 0, .int .i64 0, .int .i64 0, .int .i64 0, .string ByteArray.empty, .int .i64 0, .int .i64 0, .int .i64 0, .int .i64 0, .string ByteArray.empty, .slice none 0 0], .slice none 0 0] 8 rfl (World.shaped_of_RefB (by kernel_rfl) (by kernel_rfl)) (by kernel_rfl) (by kernel_rfl) (by kernel_rfl) (door_met os _)) ?_
  intro W base args ds gs before hval0 hW hcnd hsz0 hL hlast
  have hS : Shapes W := shapes_of_laid hL
  have hval : ∀ (j : Nat) t v, Tryd.f3.params[j]? = some t → args[j]? = some v → Value.okWide Tryd.prog W .any base t v := hval0
  have hW' := hW
  obtain ⟨p, q, hA0, hV, rfl, hfz, hnd⟩ := hW
  have hA : DataW.TrodAll enc Tryd.prog W 0 (fun _ => true) true Tryd.f3.params.toList args.toList ds p := hA0
  have hsz : (DataW.weightsEach Tryd.prog (Tryd.f3.params.toList ++ Rows.predicateChecksSpec.plain.varTypes Tryd.prog) (ds ++ gs)).all (· ≤ reachBytes) = true := hsz0
  rw [Tryd.params3] at hA hval hsz
  obtain ⟨v0, vs0, d0, ds0, p0, q0, hargs, rfl, rfl, h0, r0⟩ := trodAll_cons hA
  obtain ⟨v1, vs1, d1, ds1, p1, q1, rfl, rfl, rfl, h1, r1⟩ := trodAll_cons r0
  obtain ⟨v2, vs2, d2, ds2, p2, q2, rfl, rfl, rfl, h2, r2⟩ := trodAll_cons r1
  obtain ⟨rfl, rfl, rfl⟩ := trodAll_nil r2
  obtain rfl : args = #[v0, v1, v2] := by cases args; simp_all
  obtain ⟨rfl, rfl⟩ := trodVars_none hV
  have lt0 : ∀ x ∈ p0, x.block < W.heap.size := by obtain ⟨m, hm⟩ := h0; exact DataW.trod_lt m _ _ _ hm
  obtain ⟨a0, len0, cap0, z0, rfl, w0⟩ := open_codes (hval 0 22 v0 rfl rfl) h0
  have lt1 : ∀ x ∈ p1, x.block < W.heap.size := by obtain ⟨m, hm⟩ := h1; exact DataW.trod_lt m _ _ _ hm
  obtain ⟨k1, x1, s1, rfl, w1⟩ := open_Pr (hval 1 29 v1 rfl rfl) h1 (fun n hn => by have hq := List.all_eq_true.1 hsz n (DataW.weights_mem_each (j := 1) (t := 29) rfl rfl n hn); simpa using hq)
  have lt2 : ∀ x ∈ p2, x.block < W.heap.size := by obtain ⟨m, hm⟩ := h2; exact DataW.trod_lt m _ _ _ hm
  obtain ⟨x2, w2⟩ := open_Ints (hval 2 30 v2 rfl rfl) h2 (fun es sp he => by have hq := sized_slice (j := 2) (e := 3) hsz rfl (by rw [he]; rfl) Tryd.underlying30; rwa [bytesI] at hq)
  clear hA0 hval0
  refine (walk a0 len0 cap0 z0 k1 x1 s1 v2 x2 W w0 w1 w2 hS).mono fun e W' ⟨he, bel⟩ => ?_
  subst he
  exact ⟨_, rfl, _, _, _, [], _, [], hW', trodAll_mk1 (shut_bool Tryd.underlying4 _), (trodAll_cons_mk (Below.trod laidOut (by kernel_rfl) (of_decide_eq_true (by kernel_rfl)) h0 bel lt0) (trodAll_cons_mk (Below.trod laidOut (by kernel_rfl) (of_decide_eq_true (by kernel_rfl)) h1 bel lt1) (trodAll_cons_mk (Below.trod laidOut (by kernel_rfl) (of_decide_eq_true (by kernel_rfl)) h2 bel lt2) trodAll_mk0))), rfl, bel.frame _, fun h => by cases h⟩

theorem over : Rows.predicateChecksRow.holds Tryd.pinned (OpenSpec.ofChange Rows.predicateChecksSpec) :=
  OpenClaim.holds_of_wide 3 Tryd.f3 rfl rfl rfl rfl rfl rfl rfl ⟨rfl, rfl, rfl, rfl, rfl⟩ rfl rfl rfl rfl rfl (by kernel_rfl) Tryd.func3 (by kernel_rfl)
    (of_decide_eq_true (by kernel_rfl)) (by unfold Func.isWrapper; first | (rw [if_pos (by decide +kernel)]; kernel_rfl) | (rw [if_neg (by decide +kernel)]; exact ⟨rfl, rfl⟩))
    (fun os started H enc _ => lifted os started H enc)
theorem proved : Rows.PredicateChecksCardSaid :=
  Claim7.holds_tied_plain_at .later [] [.data] true (true, "62304b6054be119b6ae2d039ac867110b2739c12822506048046d376c491136a") false
    over (fun _ h => by cases h) (by kernel_rfl) (fun _ h => by cases h) predicateChecks_row_tie rfl ⟨rfl, rfl⟩ (by kernel_rfl) rfl
    (fun f fn hf hfn => by
      obtain rfl : f = 3 := Option.some.inj ((show Tryd.prog.funcNamed "partsync/partsynclaw05.PredicateChecks" = some 3 by kernel_rfl).symm.trans hf) |>.symm
      obtain rfl : fn = Tryd.f3 := (Option.some.inj (Tryd.func3.symm.trans hfn)).symm
      exact ⟨by kernel_rfl, fun j t ht => by
        rw [Tryd.params3] at ht
        have hm : t ∈ [22, 29, 30] := by simpa using Array.mem_of_getElem? ht
        have hall : ([22, 29, 30].all fun u => !Tryd.prog.wantsStandIn u) = true := by kernel_rfl
        exact (show Tryd.prog.wantsStandIn t = false by simpa using List.all_eq_true.1 hall t hm)⟩)
    (by kernel_rfl)

end Checks
end Go.Proofs.YtndnlmpmloiiiaaDoor
